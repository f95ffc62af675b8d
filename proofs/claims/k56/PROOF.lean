import PyProof.Rows.All
import Wide.All
import OpenK.AllK
import Wide.FinOn
import Lean
import PyProof.EqAt
import PyProof.EqKinds
import PyProof.TupleCall
import PyProof.Rows.SetFrom
import PyProof.WalksMore
import PyProof.IsiNone
import PyProof.NeKinds
import PyProof.MaxThree
import PyProof.CallStr
import KE.KRevIter
import PyProof.NsDelKeeps
import KE.KTryMore
import KE.KIsAll
import PyProof.ExcAttrAll.ValueError
import PySem.Challenge.RW_mowfloor_k56_mown_left_and_lost
set_option maxHeartbeats 4000000
set_option Elab.async false
set_option compiler.extract_closed false
set_option bootstrap.genMatcherCode false
open List (range range')
open Nat (beq)
noncomputable section
local macro_rules|`(∅)=>`(by decide)
local macro_rules|`(⇑$e)=>`(by simpa using $e)
local macro_rules|`(↥$_)=>`(by simp)
local macro_rules|`(tactic|let $p:term:=$e)=>do
 let q:=p.raw
 let X (s:Lean.Syntax):=s.isOfKind ``Lean.Parser.Term.explicit
 let I (s:String):=Lean.mkIdent (.mkSimple s)
 let l:=(if X q then q[1] else q)[1].getSepArgs
 let n:=l.size
 let j:=if X q then 0 else ((l.findIdx? X).map (·+1)).getD 99
 let mut b:Array Lean.Ident:=#[]
 let mut t:Array (Lean.TSyntax `tactic):=#[]
 let w:=I "ζ"
 let E:=e.raw
 let u:=E.getId
 let c:=j<99&&E.isIdent&&l.any fun s=>s.getId==u||s[1].getId==u
 let h:=I "ξ"
 let u:=u.toString
 let u:=if u.startsWith "ζ" then u else "ζ"
 let d:Lean.Term:=if c then h else e
 let r ←if c then `(tactic|(revert $(⟨e⟩):ident;intro $h:ident)) else `(tactic|skip)
 if j<99&&E.isIdent then t:=t.push (←`(tactic|try clear $(⟨d⟩):ident))
 for i in [0:n] do
  let s:=if i+1==j then l[i]![1] else l[i]!
  let z:=I s!"{u}{i}"
  if s.isIdent&&(j==99||s.getId != `rfl) then b:=b.push ⟨s⟩
  else
   b:=b.push z
   if s.isIdent then t:=t.push (←`(tactic|subst $z))
   else if !s.isOfKind ``Lean.Parser.Term.hole then t:=t.push (←`(tactic|let $(⟨s⟩):term:=$z))
 let A:=b.extract j n
 let B:=b.extract 0 j
 let k:=I s!"xE{j}"
 if j==99 then `(tactic|(obtain ⟨$[$b:ident],*⟩:=$e;$t;*)) else if j==0 then `(tactic|($r;refine $(I s!"xA{n}") ($d :) fun $b* =>?_;$t;*)) else if j+1==n then `(tactic|($r;refine $k ($d :) fun $b* =>?_;$t;*)) else `(tactic|($r;refine $k ($d :) fun $B* $w=>?_;refine $(I s!"xA{n-j}") $w fun $A* =>?_;clear $w;$t;*))
local macro_rules|`(command|def $i:declId $s:optDeclSig:=$v)=>if v.raw.isOfKind ``Lean.Parser.Term.paren then `(command|noncomputable def $i $s:optDeclSig:=$v) else (·.raw.rewriteBottomUp (·.setInfo .none))<$>`(command|theorem $i $(⟨.node .none ``Lean.Parser.Command.declSig #[s.raw[0],s.raw[1][0]]⟩):declSig:=$v)|`(command|def $i:declId $s:optDeclSig $v:matchAlts)=>`(command|noncomputable def $i $s:optDeclSig $v:matchAlts)|`(command|@[simp] def $i:declId $s:optDeclSig:=$v)=>`(command|@[simp] noncomputable def $i $s:optDeclSig:=$v)|`(command|@[simp] def $i:declId $s:optDeclSig $v:matchAlts)=>`(command|@[simp] noncomputable def $i $s:optDeclSig $v:matchAlts)|`(command|abbrev $i:declId $s:optDeclSig:=$v)=>`(command|noncomputable abbrev $i $s:optDeclSig:=$v)
local macro_rules|`(⋯)=>`(by lia)
open PySem renaming wpAny_bind->aB,wpAny_pure->aR,wpAny_newObj_type->hp,wpAny_holding->f9,wpAny_call_entry->iR,wpAny_setState_of->kO,codeAny_builtin->jN,wpAny_mono->hk,wpAny_truthy_bool->lB,wpAny_callSpecial?_slot->qA,plainId_quiet->jQ,wpAny_forIn_list->mH,wpAny_seqItems->lU,wpAny_typeNameOfWhole_keyiter->vr,wpAny_Call_Name_kw->qo,wpAny_passesOwn->oH,wpAny_dictEntries->qv,wpAny_rule->j9,wpAny_setEntries_of->r8,wpAny_typeOf->mE,wpAny_fieldsOf->qd,wpAny_specialOf->te,wpAny_updateSeq->rb,isSubtype_type->sV,codeAny_mono->p6,wpAny_setField->sY,wpAny_pyIter_list->vv,wpAny_tryCatch->sQ,wpAny_notOrdered_dict->wz,builtinLookup_eq_fast->zO,wpAny_isInstance->uo,wpAny_letGo->pb,wpAny_execs_nil->tH,call_meets->qk,wpAny_pyIter_tuple->x3,sizeLine_eq->rX,wpAny_pyIter_slot->xb,filterMap_getElem?_range->Cw,wpAny_standAt->tq,wpAny_attempt->tE,wpAny_newList->vk,wpAny_askSetting->yX,noFill_tuple_add->w9,richCompare_meets_room->Co,wpAny_dictEpoch->xJ,typeLookup_type->yh,wpAny_ite_split->xX,wpAny_isOneOf_keyiter->CP,wpAny_of_eq->vb,seqIndex_of->uD,wpAny_pyIter_keyiter->FK,seq_tuple_add->Ap,wpAny_getItem_heap->EZ,wpAny_dictSet_heap->Fc,eqIsQuiet_byValue->Cd,wpAny_storeSet_of->HO,wpAny_assign_Name->D9,concat_meets->zG,wpAny_sequenceKey->Be,seqIndex_neg->AN,slot_list_getitem->A6,list_append->FD,wpAny_setEpoch_of->Cy,wpAny_pyHash_int->F8,wpAny_pyHash_str->G_,wpAny_execs_cons->Gn,entryFor_of_tree->G8,wpAny_alloc->yu,wpAny_field->z0,wpAny_ret_mkInt->Cv,codeAny_of_tree->E1,size_of_entries->E2,wpAny_Name->yK,wpAny_bindName->Ej,wpAny_load->zB,wpAny_call->yz,typeIs_str->za,isSubtype_stop->GA,entryFor_alias->FL,wpAny_runValue->FR,evalPart_none->B7,call_list_seq->Fv,wpAny_handled->GC,signature?_of->Fi,intBits_le_64->Hf
open Option renaming bind_eq_some_iff->bB,map_eq_some_iff->b9,bind_some->gH,map_some->lI,isSome_map->qH,getD_some->qI,isSome_iff_exists->HQ,getD_none->CY
open List renaming append_assoc->bk,length_map->a8,getD_eq_getElem?_getD->cK,append_nil->bQ,mem_singleton->cb,perm_append_comm->c6,getElem?_eq_getElem->dN,map_cons->b4,size_toArray->cN,nodup_append->cO,mem_append_right->dy,length_append->dd,mem_cons->cm,mem_append_left->dW,getElem?_eq_some_iff->eX,pairwise_singleton->eB,length_cons->dn,mem_append->du,getElem?_map->d3,mem_of_getElem?->eC,take_append_drop->fz,map_append->fi,mem_map->ep,not_mem_nil->fW,drop_eq_getElem_cons->i6,nodup_cons->gd,pairwise_cons->hq,nil_append->gp,length_take->gN,mem_cons_of_mem->iw,lookup_cons->g0,length_singleton->iJ,map_map->fl,length_drop->hc,mem_range->gI,getElem?_append_right->lX,nodup_nil->hn,eq_nil_of_length_eq_zero->nY,getElem?_append_left->nh,mem_cons_self->jE,perm_iff_count->kz,length_range->j1,pairwise_iff_getElem->n1,find?_cons->jl,all_eq_true->jC,any_eq_true->j4,map_congr_left->lD,length_filter_le->mq,count_append->kj,mem_of_mem_drop->m3,foldl_cons->jT,drop_of_length_le->nP,map_take->jx,map_drop->jq,getElem?_drop->m1,mem_iff_getElem->oT,mem_of_mem_take->oV,getElem?_set_ne->oR,length_pos_iff->oj,length_nil->l1,getElem?_take->oh,flatMap_cons->nN,filter_sublist->qU,length_pos_of_mem->r1,perm_ext_iff_of_nodup->uP,drop_zero->nx,getElem?_eq_none->rW,getElem?_zip_eq_some->ug,mem_filter->n9,getElem_drop->ps,ext_getElem?->pv,pairwise_map->p1,eraseIdxIfInBounds_toArray->z9,filterMap_cons->rn,drop_drop->ox,getElem?_set_self->va,any_cons->n4,getElem?_toArray->uv,contains_iff_mem->tn,take_sublist->rh,getElem?_of_mem->vC,take_length->sE,set_set->n8,any_map->oU,mem_flatMap->r9,mem_map_of_mem->vO,length_erase_of_mem->Al,filterMap_cons_some->w0,mem_of_mem_eraseIdx->xv,mem_filterMap->tj,getElem?_cons_zero->yM,getElem?_cons_succ->yB,drop_sublist->tT,getElem_take->u5,take_of_length_le->zi,drop_take->sN,take_succ_eq_append_getElem->Br,eraseIdx_sublist->x7,cons_append->vt,nodup_range->vN,getElem_mem->u0,any_toArray->tx,countP_cons->uf,mem_erase_of_ne->yS,map_eq_cons_iff->Ar,length_eraseIdx->xZ,length_set->tZ,count_cons->tQ,zip_cons_cons->xG,lookup_append->xm,length_eraseIdx_of_lt->Fg,take_take->vA,setIfInBounds_toArray->H2,mem_of_find?_eq_some->AY,foldl_append->x9,getElem_inj->yv,ext_getElem->wM,drop_length->yj,of_mem_zip->yC,dropLast_eq_take->D1,pairwise_append->DF,take_zero->wC,extract_toArray->Bk,getElem?_range->F2,set_comm->yI,map_filterMap->C8,zip_nil_right->Ge,set_cons_zero->HC,findIdx?_cons->Fl,all_map->y0,any_eq_false->CU,getElem?_set->CJ,find?_isSome->CV,countP_congr->GP,map_toArray->EH,getElem_map->Ew,filter_cons->Ht,flatMap_nil->FE,zip_append->EU,forIn_cons->Ey,length_zip->GY,find?_some->Ic,map_nil->Ck,not_lt->Er,map_id->DC
open PySem.Heap renaming get?_push_of_some->cG,get?_push_size->dM,lt_size->cA,get?_update_other->ip,get?_update_self->lE,size_push->jz,get?_none_of_le->zr
open Nat renaming le_refl->bD,ne_of_lt->c0,le_trans->dc,lt_of_lt_of_le->eJ,le_of_ble_eq_true->g8,lt_or_ge->g_,zero_le->hl,lt_irrefl->iM,lt_succ_self->l7,ne_of_gt->me,le_of_lt->nc,le_of_lt_succ->q9,mod_lt->lF,add_lt_add_iff_right->y1,not_lt_zero->r5,lt_of_le_of_lt->uE,lt_trans->qg,lt_trichotomy->tX,lt_of_succ_lt_succ->x5,le_add_right->tV,add_assoc->sH,min_eq_left->tM,succ_pos->q5,not_lt->qm,lt_add_of_pos_right->CQ,add_comm->uN,eq_of_beq_eq_true->Et,le_succ->tr,eq_zero_or_pos->BM,lt_succ_of_le->HX,add_zero->xI,le_succ_of_le->Gu,succ_le_succ->BN,sub_self->DT,le_of_eq->GO,min_self->Cg
open PySem.W renaming kasC_pure->bt,kasC_bind->bw,kasC_range->fZ,kasC_modify->kA,mg_of->mw,kasC_get->jV,callWith_K->vJ,plainGet_of->w8,kasC_lift->oN,cellsFrom_some->Bp,methodCall_KW->DP,kat_item->vi,kas_swaps_map->EX,kat_kind->yy
open Array renaming length_toList->df,getElem?_toList->eE,getElem?_eq_getElem->jJ,getElem?_eq_some_iff->oo,ext'->km,forIn_toList->tv,toList_filterMap->xt,getElem?_eq_none->AB,mem_toList_iff->zh,getD_eq_getD_getElem?->Gw,perm_iff_toList_perm->Bo,toList_push->yJ,size_map->ze,getElem_toList->Hn,toList_inj->FV
open Bool renaming false_ne_true->da,and_eq_true->cT,false_eq_true->hi,eq_iff_iff->k5,not_true->qE,not_eq_true'->vz,or_eq_true->vS,false_and->Gp,and_false->EN,false_or->DD,and_true->CH,true_or->D_
open List.Perm renaming append_left->dZ,append_right->e1,map->tB,eq_of_pairwise->TR,cons_inv->NC,eq_nil->Ul
open Prod renaming ext->dQ
open PySem.Around renaming under_plainId->k6
open PyProof.Rows renaming slot_tuple_getitem->pO,callWith_type1->zJ,callWith_builtin1->Gk,assignInOrder_cons->w2,subscriptTail_builtinR->FH,entry_list_sort->z6,slot_list_sort->yc,args_list_sort->wJ,entry_tuple_getitem->DN,args_tuple_getitem->Bi,assignInOrder_nil->G4,plain_sorted->xE,entry_sorted->yQ,args_sorted1->xw,kind_sorted->xT,get?_update_seq->B4,slicePart_none->CB,elem'_eq->t9,tupleItemsOf_->Gv,listUpdate_at->Cn,tail_any->yZ,lt_int->Q5,gt_int->QJ
open PySem.Heap.SameBut renaming update->lS
open Ne renaming symm->eZ
open PySem.F renaming slot_dict_keyiterator_next->rg,called_set->nz,plainAttrs_list->uY,slot_tuple_hash->rU,args_tuple_add_2->zR,slot_list_getattribute->x8,entry_tuple_add->yp,slot_tuple_add->xK,slot_dict_pop->xj,args_dict_keyiterator_next_1->A2,entry_dict_keyiterator_next->CZ,plain_extend_loop->CC,slot_dict_getitem->G7,plain_list_iadd->HU,plainAttrs_dict->BF,plain_set_new->EK,slot_set_iter->A4,type_dict_pop->Dc,slot_list_pop->Ih,type_list_pop->Hg,args_list_append_2->Eh,entry_list_append->Ft,slot_list_append->B2,entry_list_pop->H6,slot_dict_iter->Gy,slot_list_pop->DM,slot_dict_len->Dk
open Int renaming emod_lt_of_pos->oK,emod_nonneg->mx,toNat_natCast->rv,le_refl->mU,le_trans->zp,not_lt->wt,mul_one->Ex
open PyProof.Rows.F renaming plain_set_update_loop->w1,entry_set_update_loop->EF
open Classical renaming byContradiction->vs
open PySem.Calls renaming call_function_entry->ui,Name_function_global->CG,callWith_builtin->HZ,spliced_cons->Cc,spliced_nil->Ca
open PySem.PassesOwn renaming never->qy
open PySem.Obj renaming data_mapFields->vH,isFreed_of_fields->BI,data_mapDictKeys->F5,cls_mapFields->BU
open PySem.SetTable renaming toList_insertAt->Gl
open PySem.AutoSeq1 renaming sub_tuple_tuple->GB
open List.Pairwise renaming sublist->ER,map->G6,imp_of_mem->Jb,filterMap->KW,filter->SE,imp₂->SP
open PySem.W.Looks renaming of_pure->xh,here->Ud
open PySem.SeqAt.EqAt renaming int_str->Hy,str_int->Bs,none_tuple->RY,bool_tuple->Qd,tuple_none->Jg,tuple_bool->RQ,none_bool->Jc,bool_none->UQ,bool_bool->S3,int_tuple->JC,str_tuple->Ob,tuple_int->Nt,tuple_str->KH,none_int->JS,none_str->Im,bool_int->Je,bool_str->Sy,int_none->NZ,int_bool->QU,str_none->Tu,str_bool->Ri,int_int->RR,str_str->LH,of_refs->MI
open PySem.SeqAt.RcAt renaming tuples->GG,lists_lengths->RW,none_tuple->ML,bool_tuple->Ua,tuple_none->Tf,tuple_bool->N0,none_none->KS,none_bool->Kh,bool_none->ID,bool_bool->PB,int_tuple->P4,str_tuple->TJ,tuple_int->JT,tuple_str->IK,none_int->NU,none_str->R2,bool_int->PL,bool_str->ND,int_none->J2,int_bool->Su,str_none->TO,str_bool->KJ,int_int->I4,int_str->Qs,str_int->IP,str_str->Oq,lists->Nr
open PySem.IsL renaming update->GK
open PySem.SeqAt.RcNeAt renaming lists_lengths->OQ,none_tuple->Lu,bool_tuple->Rc,tuple_none->Jo,tuple_bool->SH,none_none->P5,none_bool->Pd,bool_none->L4,bool_bool->LC,int_tuple->J6,str_tuple->SO,tuple_int->S0,tuple_str->OD,none_int->Pc,none_str->I5,bool_int->Lp,bool_str->Mv,int_none->Ql,int_bool->Kz,str_none->QQ,str_bool->M1,int_int->K9,int_str->K4,str_int->KV,str_str->Il,tuples->MF,lists->MU
open PyProof.Rows.LSm renaming kept_iter->FN
open Prod.mk renaming injEq->BH
open List.Sublist renaming append_left->RN
open List.Nodup renaming sublist->KG
open PySem.Within renaming cons->Np
open PySem renaming Scope->gY,Str->az,Env->d5,Heap->a4,Value->ae,Addr->aj,CmpOp->jI,Sem->dD,Stmt->cf,Expr->bl,Obj->ba,Shared->ao,World->bg,Program->bE,Around->bq,SetTable->aS,reduceHash->yn,Builtin->bH,cLine->bW,model->aO,isInstance->As,HeapKind->zg,hashByValue->vB,seqItems?->o3,ofAClassStatement->wh,searchCouldBeSeen->AX,carriedByValue->HB,Model->gc,setSearchFrom->HG,Tok->hX,Paired->dE,sysModules->iX,entryOfKey->xY,mainGlobals->fw,builtinsNs->v_,bootBuiltins->iA,GenState->rp,eval->bJ,isTrue->o9,backTo->d9,starEach->bP,swapsWith->kC,assign->i2,assignInOrder->Au,assignEach->jK,setItem->p9,swapsWithSole->tF,swappedStores->tR,bindName->wi,PassesOwn->q0,pyNext->gm,letOwnedTupleGo->u9,pyIter->nB,rawInt->fq,Walks->iK,foldedSetIterable->k4,binaryOp->gG,compareOp->e2,behindInMarks->oL,DictEntry->qV,getMethod->oC,Result->qf,attributeBase->hG,recursionLimit->B5,Code->ie,FuncData->gM,BindsTo->mj,bindArgs->iL,backToKw->m4,keywordEach->nk,Keyword->nT,NameKind->c8,cellsFrom->Ac,richCompare->om,IsPart->kP,getItem->mP,typeLookup->yd,seqIndex?->wU,sliceBounds->oF,PlainAttrs->q7,Slot->nZ,typeOf->pe,valueAt->nI,atKey->jD,Params->t_,callerA->oO,cellOf->u2,compEnvC->uR,newFunctionEnv->CM,comprehension->zu,newList->qa,setField->Az,newExc->tN,newTuple->z4,firstArgMember->uB,entryFor->qc,table->pf,argsOk->sg,drawOrder->xn,setNext->mQ,setEntries->u_,pickOrder->jv,updateSeq->ub,shortFactorBits->u3,checkCount->Ab,getattributeRaised->Ij,PyData->sL
open Bool renaming true->V,false->aA
open Option renaming some->Z,none->X
open PyProof.Rows renaming IsTup->oz,AllBare->l5,envOfC->h7,subscriptTail->Ee,IntsAre->sb,bubble->q8,SortKind->gR,Keyed->bA,SortSt->bL,pendingOf->h1,failedOf->hQ,mergeAt'->vD,ltAt'->n3,reverseSlice'->tc,seqObj->fI,keyKind'->Ay,tuples'->q1
open PySem.W renaming WData->s7,WShape->rl,kas_rev->my,kas_cmp->fo,kas_item->br,kas_st->v5,Frag->Φ,fnOf->Ψ,findIn->Ξ,keepIn->Θ,emptyDict->Δ,instObj->Γ,codeIn->Ω,nsIn->Φa,isFn->Φb,lookIn->Φc,plainGet->Φd,methodObj->Φe,hasDictIn->Φf,takerIn->Φg,makesIn->Φh
open PySem
abbrev aF:=@if_pos
abbrev aJ:=@if_neg
abbrev di:=@decide_eq_true
abbrev dU:=@decide_eq_false
abbrev fE:=@of_decide_eq_true
abbrev gD:=@decide_eq_true_iff
abbrev hW:=@beq_self_eq_true
abbrev mi:=@beq_eq_false_iff_ne
abbrev fN:=@if_false
abbrev jm:=@beq_iff_eq
abbrev i0:=@or_false
abbrev s9:=@decide_eq_decide
abbrev iQ:=@if_true
abbrev wN:=@decide_eq_false_iff_not
abbrev we:=@decide_eq_true_eq
variable{VM:Sort _}{p:Prop}
def xE1{m:VM->Prop}(e:∃h,m h)(q:∀h,m h->p):p:=have ⟨h,i⟩:=e;q h i
variable{Wm:Sort _}
def xE2{m:VM->Wm->Prop}(e:∃h c,m h c)(q:∀h c,m h c->p):p:=have ⟨h,c,i⟩:=e;q h c i
variable{W3:Sort _}
def xE3{m:VM->Wm->W3->Prop}(e:∃h c o,m h c o)(q:∀h c o,m h c o->p):p:=have ⟨h,c,o,i⟩:=e;q h c o i
variable{W5:Sort _}
def xE4{m:VM->Wm->W3->W5->Prop}(e:∃h c o v,m h c o v)(q:∀h c o v,m h c o v->p):p:=have ⟨h,c,o,v,i⟩:=e;q h c o v i
variable{W6:Sort _}
def xE5{m:VM->Wm->W3->W5->W6->Prop}(e:∃h c o v d,m h c o v d)(q:∀h c o v d,m h c o v d->p):p:=have ⟨h,c,o,v,d,i⟩:=e;q h c o v d i
variable{W7:Sort _}
def xE6{m:VM->Wm->W3->W5->W6->W7->Prop}(e:∃h c o v d F,m h c o v d F)(q:∀h c o v d F,m h c o v d F->p):p:=have ⟨h,c,o,v,d,F,i⟩:=e;q h c o v d F i
variable{W8 VO:Sort _}
def xE8{m:VM->Wm->W3->W5->W6->W7->W8->VO->Prop}(e:∃h c o v d F L g,m h c o v d F L g)(q:∀h c o v d F L g,m h c o v d F L g->p):p:=have ⟨h,c,o,v,d,F,L,g,i⟩:=e;q h c o v d F L g i
def xE9{a:Sort _}{m:VM->Wm->W3->W5->W6->W7->W8->VO->a->Prop}(e:∃h c o v d F L g r,m h c o v d F L g r)(q:∀h c o v d F L g r,m h c o v d F L g r->p):p:=have ⟨h,c,o,v,d,F,L,g,r,i⟩:=e;q h c o v d F L g r i
variable{h c:Prop}
def xA2(e:h/\c)(q:h->c->p):p:=q e.1 e.2
variable{o:Prop}
def xA3(e:h/\c/\o)(q:h->c->o->p):p:=q e.1 e.2.1 e.2.2
variable{v:Prop}
def xA4(e:h/\c/\o/\v)(q:h->c->o->v->p):p:=q e.1 e.2.1 e.2.2.1 e.2.2.2
variable{d:Prop}
def xA5(e:h/\c/\o/\v/\d)(q:h->c->o->v->d->p):p:=q e.1 e.2.1 e.2.2.1 e.2.2.2.1 e.2.2.2.2
variable{F:Prop}
def xA6(e:h/\c/\o/\v/\d/\F)(q:h->c->o->v->d->F->p):p:=q e.1 e.2.1 e.2.2.1 e.2.2.2.1 e.2.2.2.2.1 e.2.2.2.2.2
variable{L:Prop}
def xA7(e:h/\c/\o/\v/\d/\F/\L)(q:h->c->o->v->d->F->L->p):p:=q e.1 e.2.1 e.2.2.1 e.2.2.2.1 e.2.2.2.2.1 e.2.2.2.2.2.1 e.2.2.2.2.2.2
variable{g:Prop}
def xA8(e:h/\c/\o/\v/\d/\F/\L/\g)(q:h->c->o->v->d->F->L->g->p):p:=q e.1 e.2.1 e.2.2.1 e.2.2.2.1 e.2.2.2.2.1 e.2.2.2.2.2.1 e.2.2.2.2.2.2.1 e.2.2.2.2.2.2.2
def xA9{r:Prop}(e:h/\c/\o/\v/\d/\F/\L/\g/\r)(q:h->c->o->v->d->F->L->g->r->p):p:=q e.1 e.2.1 e.2.2.1 e.2.2.2.1 e.2.2.2.2.1 e.2.2.2.2.2.1 e.2.2.2.2.2.2.1 e.2.2.2.2.2.2.2.1 e.2.2.2.2.2.2.2.2
set_option linter.all false
set_option maxRecDepth 100000
namespace L2
open Spec PyProof.Rows
variable{VK:gY}{Ww f:az}{Vw VS:List az}{Wq:List d5}{VB e:a4}{aU Wx:az->Option ae}{WQ:List (az×ae)}{ab V6 Vr c h:aj}{Wa:jI}{F:ae->ae->dD ae}{cg WO:List aj}{WT:List cf}{L:Int->Int->Int}{VR d o:bl}{R:Φ}{G:List (aj×ba)}{Vm j:ao}{V1 VU x r g q l:Nat}{H:bg}{Vz:bE}{J:ae}{VH:List ae}{n:ba}{C Vo:ae->ao->Prop}{O:bq}{S:Array (Int×ae)}{VX:Array (Option Nat)}{VM:Type}{Vy:List Int}{Wr:Bool}{D:aS}{w:Array Nat}
inductive aa where
 | a3|av (c:Bool)|int (g:Int)|str (f:az)|tup (E:List aa)|fn (h:aj)|aW (E:List aa)|fd (l:List ((Int×Int)×Int))
mutual
def aa.beq:aa->aa->Bool
 |.a3,.a3=>V
 |.av h,.av c=>h==c
 |.int g,.int r=>decide (g=r)
 |.str f,.str z=>decide (f=z)
 |.tup h,.tup c=>aa.lq h c
 |.fn h,.fn c=>decide (h=c)
 |.aW h,.aW c=>aa.lq h c
 |.fd h,.fd c=>decide (h=c)
 |_,_=>aA
def aa.lq:List aa->List aa->Bool
 |[],[]=>V
 |h::s,c::D=>aa.beq h c&&aa.lq s D
 |_,_=>aA
end
mutual
theorem aa.beq_iff:∀h c:aa,aa.beq h c=V↔h=c
 |.a3,c=>by cases c<;>simp[aa.beq]
 |.av h,c=>by cases c<;>simp[aa.beq]
 |.int g,c=>by cases c<;>simp[aa.beq]
 |.str f,c=>by cases c<;>simp[aa.beq]
 |.tup f,c=>by
  cases c with
  |tup z=>rw[aa.beq,aa.yW f z];simp
  |_=>simp[aa.beq]
 |.fn h,c=>by cases c<;>simp[aa.beq]
 |.aW f,c=>by
  cases c with
  |aW z=>rw[aa.beq,aa.yW f z];simp
  |_=>simp[aa.beq]
 |.fd h,c=>by cases c<;>simp[aa.beq]
theorem aa.yW:∀h c:List aa,aa.lq h c=V↔h=c
 |[],c=>by cases c<;>simp[aa.lq]
 |f::s,c=>by
  cases c with
  |nil=>simp[aa.lq]
  |cons z D=>rw[aa.lq,cT,aa.beq_iff f z,aa.yW s D];simp
end
variable{P:List (List aa)}
noncomputable instance:DecidableEq aa:=λh c=>decidable_of_iff (aa.beq h c=V) (aa.beq_iff h c)
mutual
def dh(e:a4):aa->ae->Prop
 |.a3,u=>u=.none
 |.av c,u=>u=.bool c
 |.int g,u=>∃D,u=.int g D
 |.str f,u=>∃D,u=.str f D
 |.fn h,u=>u=.ref h
 |.aW _,u=>∃h,u=.ref h
 |.fd _,u=>∃h,u=.ref h
 |.tup E,u=>∃h n VP x,u=.ref h/\e.get? h=Z n/\n.cls=.type "tuple" /\ n.data=.seq VP x/\dR e E VP.toList
def dR(e:a4):List aa->List ae->Prop
 |[],Vj=>Vj=[]
 |v::E,Vj=>∃u s,Vj=u::s/\dh e v u/\dR e E s
end
mutual
def aa.key:Nat->aa->Bool
 |_,.int _=>V
 |_,.str _=>V
 |x+1,.tup E=>aa.keys x E
 |_,_=>aA
def aa.keys:Nat->List aa->Bool
 |_,[]=>V
 |x,v::E=>aa.key x v&&aa.keys x E
end
mutual
def dm(H:bg):aa->Int
 |.int g=>hashInt g
 |.str f=>hashStr H f
 |.tup E=>yn (bH.Tuple.tupleHashOf<|iE H E)
 |_=>0
def iE(H:bg):List aa->List Int
 |[]=>[]
 |v::E=>dm H v::iE H E
end
mutual
def wb:aa->Nat
 |.tup E=>j5 E+1
 |_=>1
def j5:List aa->Nat
 |[]=>0
 |v::E=>wb v+j5 E
end
theorem yL(H:bg):∀h c:List aa,iE H (h++c)=iE H h++iE H c
 |[],c=>rfl
 |v::h,c=>by rw[vt,iE,iE,yL H h c,vt]
theorem yt:∀h c:List aa,j5 (h++c)=j5 h+j5 c
 |[],c=>by simp[j5]
 |v::h,c=>by rw[vt,j5,j5,yt h c];lia
theorem Dm{x:Nat}:∀{h c:List aa},aa.keys x (h++c)=V->aa.keys x c=V
 |[],c,e=>e
 |v::h,c,e=>by rw[vt,aa.keys,cT]at e;exact Dm e.2
theorem dR.length{e:a4}:∀{E:List aa}{Vj:List ae},dR e E Vj->E.length=Vj.length
 |[],Vj,d=>by rw[show Vj=[] from d];rfl
 |v::E,Vj,d=>by
  let⟨u,@s,rfl,W,d⟩:=d;rw[dn,dn,dR.length d]
def vK(e Vk:a4):Prop:=(∀h n VP x,e.get? h=Z n->n.cls=.type "tuple" -> n.data=.seq VP x->Vk.get? h=Z n)
mutual
theorem dh.keep{e Vk:a4}(q:vK e Vk):∀{v:aa}{u:ae},dh e v u->dh Vk v u
 |.a3,_,d=>d
 |.av _,_,d=>d
 |.int _,_,d=>d
 |.str _,_,d=>d
 |.fn _,_,d=>d
 |.aW _,_,d=>d
 |.fd _,_,d=>d
 |.tup E,_,d=>by
  let⟨h,n,VP,@x,rfl,t,A,a,b⟩:=d;exact⟨h,n,VP,x,rfl,q h n VP x t A a,A,a,dR.keep q b⟩
theorem dR.keep{e Vk:a4}(q:vK e Vk):∀{E:List aa}{Vj:List ae},dR e E Vj->dR Vk E Vj
 |[],_,d=>d
 |v::E,_,d=>by
  let⟨u,@s,rfl,t,A⟩:=d;exact⟨u,s,rfl,dh.keep q t,dR.keep q A⟩
end
theorem FA{e:a4}:∀(x:Nat) {f z:aa}{u:ae},aa.key x f=V->aa.key x z=V->dh e f u->dh e z u->f=z
 |x,.int g,z,u,_,a_,b,a=>by
  let⟨@D,rfl⟩:=b;cases z with
  |int r=>let⟨@J,d⟩:=a;injection d with d;rw[d]
  |str i=>let⟨@J,d⟩:=a;cases d
  |tup E=>let⟨W,W,W,@W,d,W⟩:=a;cases d
  |_=>cases x<;>cases a_
 |x,.str i,z,u,_,a_,b,a=>by
  let⟨@D,rfl⟩:=b;cases z with
  |int r=>let⟨@J,d⟩:=a;cases d
  |str i=>let⟨@J,d⟩:=a;injection d with d;rw[d]
  |tup E=>let⟨W,W,W,@W,d,W⟩:=a;cases d
  |_=>cases x<;>cases a_
 |x+1,.tup E,z,u,w,a_,b,a=>by
  let⟨h,n,VP,@l,rfl,t,A,y,B⟩:=b;cases z with
  |int r=>let⟨@J,d⟩:=a;cases d
  |str i=>let⟨@J,d⟩:=a;cases d
  |tup S=>
   let⟨H,V4,I,@L,d,o,M,j,C⟩:=a;cases d;rw[t]at o;cases o;rw[y]at j;injection j with j _;subst j;have all:∀(E S:List aa) (Vj:List ae),aa.keys x E=V->aa.keys x S=V->dR e E Vj->dR e S Vj->E=S:=by
    intro E;induction E with
    |nil=>
     intro S Vj W W h c;cases S with
     |nil=>rfl
     |cons d S=>let⟨W,@W,p,W⟩:=c;rw[show Vj=[] from h]at p;cases p
    |cons v E F=>
     intro S Vj k m h c;let⟨u,@s,rfl,G,Wt⟩:=h;cases S with
     |nil=>cases (show u::s=[] from c)
     |cons d S=>
      let⟨N,@Wh,p,cE,cQ⟩:=c;cases p;rw[aa.keys,cT]at k m;rw[FA x k.1 m.1 G cE,F S s k.2 m.2 Wt cQ]
   rw[all E S _ w a_ B C]
  |_=>cases a_
 |_,.a3,_,_,q,_,_,_=>by cases ‹Nat›<;>cases q
 |_,.av _,_,_,q,_,_,_=>by cases ‹Nat›<;>cases q
 |_,.fn _,_,_,q,_,_,_=>by cases ‹Nat›<;>cases q
 |_,.aW _,_,_,q,_,_,_=>by cases ‹Nat›<;>cases q
 |_,.fd _,_,_,q,_,_,_=>by cases ‹Nat›<;>cases q
 |0,.tup _,_,_,q,_,_,_=>by cases q
section
variable{Vs:bE}{H:bg}
theorem El:∀(x:Nat) {O:bq}{Vo:ae->ao->Prop}{j:ao}{v:aa}{u:ae}{C:Int->ao->Prop},aa.key x v=V->O.units+x<bW->dh j.heap v u->C (dm H v) {j with toks:=j.toks+wb v}->
  wpAny (aO Vs H) O (pyHash u) C Vo j
 |x,O,Vo,j,.int g,u,C,_,_,a,e=>by
  let⟨@D,rfl⟩:=a;exact F8 e
 |x,O,Vo,j,.str g,u,C,_,_,a,e=>by
  let⟨@D,rfl⟩:=a;exact G_ e
 |x+1,O,Vo,j,.tup E,u,C,q,y,a,e=>by
  let⟨h,n,VP,@l,rfl,o,w,hd,Vl⟩:=a;have b:j.TypeIs (.ref h) "tuple" := ⟨n,o,w⟩;unfold pyHash;first|unfold pyHashByItsType|skip
  first|refine aB (wpAny_cRoomFor_or (.inr ⋯) ?_)|skip
  refine aB (te b rU.lookup ?_);show wpAny _ _ (if (Z (ae.builtin "tuple.__hash__")==Z ae.none)=V then _ else _) C Vo j;rw[aJ (by rw[beq_builtin_none];exact da)];refine aB (te b rU.lookup ?_);show wpAny _ _ (callSpecialIfBoundUnlessNone? (.ref h) "__hash__" _ >>= _) C Vo j;refine aB (wpAny_callSpecialIfBoundUnlessNone?_slot b rU<|iR rU b F.entry_tuple_hash ?_<|F.args_tuple_hash_1 _);show wpAny _ _ (bH.Tuple.tupleItemsOf (.ref h) >>= _) _ _ j;refine aB (wpAny_tupleItemsOf o hd ?_);refine aB ?_;rw[<-tv];refine mH _
   (λc1 (c:Array Int) Vm=>∃done left,E=done++left/\dR j.heap left c1/\c.toList=iE H done/\Vm={j with toks:=j.toks+j5 done})
   _ ?_ ?_ _ _ ⟨[],E,rfl,Vl,rfl,rfl⟩
  ·rintro f c1 c Vm ⟨done,left,rfl,i,k,rfl⟩;cases left with
   |nil=>cases (show f::c1=[] from i)
   |cons v left=>
    let⟨u,@s,d,t,p⟩:=i;cases d;have r:=Dm (h:=done) (show aa.keys x (done++v::left)=V from q);rw[aa.keys,cT]at r;refine aB (El x r.1 (by show O.units+1+x<bW;lia) t ?_);first
     | exact aR ⟨done++[v],left,by simp,p,by simp[k,yL,iE],by simp[yt,j5,sH]⟩
     | exact aB (aR (aR ⟨done++[v],left,by simp,p,by simp[k,yL,iE],by simp[yt,j5,sH]⟩))
  ·rintro c Vm ⟨done,left,rfl,i,k,rfl⟩;cases left with
   |cons v left=>let⟨W,@W,d,W⟩:=i;cases d
   |nil=>
   rw[bQ]at e;show wpAny _ _ (retInt<|bH.Tuple.tupleHashOf c.toList) _ _ _;rw[k];refine Cv ?_;show wpAny _ _ (if (decide (-(2:Int)^63<=bH.Tuple.tupleHashOf (iE H done))&&decide (bH.Tuple.tupleHashOf (iE H done)<2^63))=V then _ else _) C Vo _;rw[dm,wb]at e;unfold yn at e;by_cases m:(decide (-(2:Int)^63<=bH.Tuple.tupleHashOf (iE H done))&&decide (bH.Tuple.tupleHashOf (iE H done)<2^63))=V
   ·rw[aF m];rw[aF m]at e;exact aR (by simpa [sH] using e)
   ·rw[aJ m];rw[aJ m]at e;exact aB (j9 (aR (by simpa [sH] using e)))
 |_,_,_,_,.a3,_,_,q,_,_,_=>by cases ‹Nat›<;>cases q
 |_,_,_,_,.av _,_,_,q,_,_,_=>by cases ‹Nat›<;>cases q
 |_,_,_,_,.fn _,_,_,q,_,_,_=>by cases ‹Nat›<;>cases q
 |_,_,_,_,.aW _,_,_,q,_,_,_=>by cases ‹Nat›<;>cases q
 |_,_,_,_,.fd _,_,_,q,_,_,_=>by cases ‹Nat›<;>cases q
 |0,_,_,_,.tup _,_,_,q,_,_,_=>by cases q
mutual
def cn:aa->aa->Bool
 |.a3,.a3=>V
 |.av h,.av c=>h==c
 |.av h,.int r=>(if h then 1 else 0)==r
 |.int g,.av c=>g==(if c then 1 else 0)
 |.int g,.int r=>g==r
 |.str f,.str z=>f==z
 |.tup h,.tup c=>fg h c
 |_,_=>aA
def fg:List aa->List aa->Bool
 |[],[]=>V
 |h::s,c::D=>cn h c&&fg s D
 |_,_=>aA
end
mutual
def aa.aZ:Nat->aa->Bool
 |_,.a3=>V
 |_,.av _=>V
 |_,.int _=>V
 |_,.str _=>V
 |x+1,.tup E=>aa.dj x E
 |_,_=>aA
def aa.dj:Nat->List aa->Bool
 |_,[]=>V
 |x,v::E=>aa.aZ x v&&aa.dj x E
end
theorem jF{x:Nat}:∀{E:List aa}{r:Nat}{v:aa},aa.dj x E=V->E[r]?=Z v->aa.aZ x v=V
 |[],r,v,_,e=>by simp at e
 |d::E,0,v,q,e=>by
  rw[aa.dj,cT]at q;simp at e;subst e;exact q.1
 |d::E,r+1,v,q,e=>by
  rw[aa.dj,cT]at q;exact jF q.2 ⇑e
theorem dR.get{e:a4}:∀{E:List aa}{Vj:List ae}{r:Nat}{u:ae},dR e E Vj->Vj[r]?=Z u->∃v,E[r]?=Z v/\dh e v u
 |[],Vj,r,u,h,d=>by rw[show Vj=[] from h]at d;simp at d
 |v::E,Vj,0,u,h,d=>by
  let⟨J,@s,rfl,a,Wt⟩:=h;simp at d;subst d;exact⟨v,rfl,a⟩
 |v::E,Vj,r+1,u,h,d=>by
  let⟨J,@s,rfl,a,Wt⟩:=h;let⟨@b,t,A⟩:=dR.get (r:=r) Wt ⇑d;exact⟨b,by simpa using t,A⟩
theorem Hj{e:a4}:∀(x:Nat) {f z:aa}{u:ae},aa.aZ x f=V->aa.aZ x z=V->dh e f u->dh e z u->cn f z=V
 |x,.a3,z,u,_,a_,b,a=>by
  cases (show u=.none from b);cases z with
  |a3=>rfl
  |av c=>cases a
  |int r=>let⟨@J,d⟩:=a;cases d
  |str i=>let⟨@J,d⟩:=a;cases d
  |tup E=>let⟨W,W,W,@W,d,W⟩:=a;cases d
  |fn h=>cases x<;>cases a_
  |aW h=>cases x<;>cases a_
  |fd=>cases x<;>cases a_
 |x,.av c,z,u,_,a_,b,a=>by
  cases (show u=.bool c from b);cases z with
  |a3=>cases a
  |av o=>cases a;simp[cn]
  |int r=>let⟨@J,d⟩:=a;cases d
  |str i=>let⟨@J,d⟩:=a;cases d
  |tup E=>let⟨W,W,W,@W,d,W⟩:=a;cases d
  |fn h=>cases x<;>cases a_
  |aW h=>cases x<;>cases a_
  |fd=>cases x<;>cases a_
 |x,.int g,z,u,_,a_,b,a=>by
  let⟨@D,rfl⟩:=b;cases z with
  |a3=>cases a
  |av o=>cases a
  |int r=>let⟨@J,d⟩:=a;cases d;simp[cn]
  |str i=>let⟨@J,d⟩:=a;cases d
  |tup E=>let⟨W,W,W,@W,d,W⟩:=a;cases d
  |fn h=>cases x<;>cases a_
  |aW h=>cases x<;>cases a_
  |fd=>cases x<;>cases a_
 |x,.str g,z,u,_,a_,b,a=>by
  let⟨@D,rfl⟩:=b;cases z with
  |a3=>cases a
  |av o=>cases a
  |int r=>let⟨@J,d⟩:=a;cases d
  |str i=>let⟨@J,d⟩:=a;cases d;simp[cn]
  |tup E=>let⟨W,W,W,@W,d,W⟩:=a;cases d
  |fn h=>cases x<;>cases a_
  |aW h=>cases x<;>cases a_
  |fd=>cases x<;>cases a_
 |x+1,.tup E,z,u,y,a_,b,a=>by
  let⟨h,n,VP,@l,rfl,t,A,B,C⟩:=b;cases z with
  |a3=>cases a
  |av o=>cases a
  |int r=>let⟨@J,d⟩:=a;cases d
  |str i=>let⟨@J,d⟩:=a;cases d
  |fn h=>cases a_
  |aW h=>cases a_
  |fd=>cases a_
  |tup S=>
   let⟨I,V4,L,@M,d,w,N,j,F⟩:=a;cases d;rw[t]at w;cases w;rw[B]at j;injection j with j _;subst j;have all:∀(E S:List aa) (Vj:List ae),aa.dj x E=V->aa.dj x S=V->dR e E Vj->dR e S Vj->fg E S=V:=by
    intro E;induction E with
    |nil=>
     intro S Vj W W h c;cases S with
     |nil=>rfl
     |cons d S=>let⟨W,@W,p,W⟩:=c;rw[show Vj=[] from h]at p;cases p
    |cons v E G=>
     intro S Vj k m h c;let⟨u,@s,rfl,H,Wt⟩:=h;cases S with
     |nil=>cases (show u::s=[] from c)
     |cons d S=>
      let⟨O,@Wh,p,cE,cQ⟩:=c;cases p;rw[aa.dj,cT]at k m;rw[fg,Hj x k.1 m.1 H cE,G S s k.2 m.2 Wt cQ];rfl
   rw[cn];exact all E S _ y a_ C F
 |x,.fn _,_,_,q,_,_,_=>by cases x<;>cases q
 |x,.aW _,_,_,q,_,_,_=>by cases x<;>cases q
 |x,.fd _,_,_,q,_,_,_=>by cases x<;>cases q
 |0,.tup _,_,_,q,_,_,_=>by cases q
def r4{d:Nat->Bool}:∀{E S:List aa},(∀(r:Nat) (f z:aa),E[r]?=Z f->S[r]?=Z z->d r=cn f z)->((range<|min E.length S.length).all d&&E.length==S.length)=fg E S:=by
 have Q:∀(E S:List aa) (F:Nat->Bool),(∀(r:Nat) (f z:aa),E[r]?=Z f->S[r]?=Z z->F r=cn f z)->((range<|min E.length S.length).all F&&E.length==S.length)=fg E S:=by
  intro E;induction E with
  |nil=>intro S F W;cases S<;>simp[fg]
  |cons v E a=>
   intro S F e;cases S with
   |nil=>simp[fg]
   |cons o S=>
    have:=a S (λr=>F<|r+1) λr f z h c=>e (r+1) f z ⇑h ⇑c;rw[fg,<-this,<-e 0 v o rfl rfl];rw[dn,dn,show min (E.length+1) (S.length+1)=min E.length S.length+1 by lia,List.range_succ_eq_map,List.all_cons,y0,Bool.and_assoc];congr 2;rw[k5];simp
 exact λ{E S} e=>Q E S d e
theorem iU{j:ao}:∀(x:Nat) {O:bq}{f z:aa}{J u:ae},aa.aZ x f=V->aa.aZ x z=V->O.units+x+1<bW->dh j.heap f J->dh j.heap z u->SeqAt.EqAt O j J u (cn f z)
 |x,O,.a3,z,J,u,_,a_,m,e,a=>by
  cases (show J=.none from e);cases z with
  |a3=>cases (show u=.none from a);exact SeqAt.EqAt.same _
  |av c=>cases (show u=.bool c from a);exact Jc c
  |int r=>let⟨@D,rfl⟩:=a;exact JS r D
  |str i=>let⟨@D,rfl⟩:=a;exact Im i D
  |tup E=>let⟨h,n,VP,@l,rfl,t,A,k,W⟩:=a;exact RY ⟨n,t,A,l,k⟩ ⋯
  |fn h=>cases x<;>cases a_
  |aW h=>cases x<;>cases a_
  |fd=>cases x<;>cases a_
 |x,O,.av c,z,J,u,_,a_,m,e,a=>by
  cases (show J=.bool c from e);cases z with
  |a3=>cases (show u=.none from a);exact UQ c
  |av o=>cases (show u=.bool o from a);exact S3 c o
  |int r=>let⟨@D,rfl⟩:=a;exact Je c r D
  |str i=>let⟨@D,rfl⟩:=a;exact Sy c i D
  |tup E=>let⟨h,n,VP,@l,rfl,t,A,k,W⟩:=a;exact Qd c ⟨n,t,A,l,k⟩ ⋯
  |fn h=>cases x<;>cases a_
  |aW h=>cases x<;>cases a_
  |fd=>cases x<;>cases a_
 |x,O,.int g,z,J,u,_,a_,m,e,a=>by
  let⟨@b,rfl⟩:=e;cases z with
  |a3=>cases (show u=.none from a);exact NZ g b
  |av o=>cases (show u=.bool o from a);exact QU g b o
  |int r=>let⟨@D,rfl⟩:=a;exact RR g b r D
  |str i=>let⟨@D,rfl⟩:=a;exact Hy g b i D
  |tup E=>let⟨h,n,VP,@l,rfl,t,A,k,W⟩:=a;exact JC g b ⟨n,t,A,l,k⟩ ⋯
  |fn h=>cases x<;>cases a_
  |aW h=>cases x<;>cases a_
  |fd=>cases x<;>cases a_
 |x,O,.str g,z,J,u,_,a_,m,e,a=>by
  let⟨@b,rfl⟩:=e;cases z with
  |a3=>cases (show u=.none from a);exact Tu g b
  |av o=>cases (show u=.bool o from a);exact Ri g b o
  |int r=>let⟨@D,rfl⟩:=a;exact Bs g b r D
  |str i=>let⟨@D,rfl⟩:=a;exact LH g b i D
  |tup E=>let⟨h,n,VP,@l,rfl,t,A,k,W⟩:=a;exact Ob g b ⟨n,t,A,l,k⟩ ⋯
  |fn h=>cases x<;>cases a_
  |aW h=>cases x<;>cases a_
  |fd=>cases x<;>cases a_
 |x+1,O,.tup E,z,J,u,v,a_,m,e,a=>by
  have H:=e;let⟨h,n,VP,@l,rfl,t,A,k,w⟩:=e;have We:j.heap.IsTuple h VP:=⟨n,t,A,l,k⟩;cases z with
  |a3=>cases (show u=.none from a);exact Jg We ⋯
  |av o=>cases (show u=.bool o from a);exact RQ o We ⋯
  |int r=>let⟨@D,rfl⟩:=a;exact Nt r D We ⋯
  |str i=>let⟨@D,rfl⟩:=a;exact KH i D We ⋯
  |fn h=>cases a_
  |aW h=>cases a_
  |fd=>cases a_
  |tup S=>
   have I:=a;let⟨c,V4,s,@L,rfl,M,N,P,y⟩:=a;by_cases d:h=c
   ·subst d;rw[Hj (x+1) v a_ H I];exact SeqAt.EqAt.same _
   ·have Wy:j.heap.IsTuple c s:=⟨V4,M,N,L,P⟩;have B:=w.length;have C:=y.length;have Q:VP.toList.length=VP.size:=by simp
    have R:s.toList.length=s.size:=by simp
    rw[Q]at B;rw[R]at C;have p:=MI (A:=O) d (GG (e:=λr=>cn (E.getD r .a3)<|S.getD r .a3) We Wy ⋯ λr b1 T=>by
     let⟨@V2,F,U⟩:=w.get (r:=r) (u:=VP[r]) (by rw[eE];simp[b1]);let⟨@V8,G,al⟩:=y.get (r:=r) (u:=s[r]) (by rw[eE];simp[T]);rw[cK,F,cK,G];exact iU x (jF v F) (jF a_ G) (by show O.units+1+x+1<bW;lia) U al)
    rw[<-B,<-C,r4 (E:=E) (S:=S) (λr f z h c=>by rw[cK,h,cK,c];rfl)]at p;rw[cn];exact p
 |x,O,.fn _,_,_,_,q,_,_,_,_=>by cases x<;>cases q
 |x,O,.aW _,_,_,_,q,_,_,_,_=>by cases x<;>cases q
 |x,O,.fd _,_,_,_,q,_,_,_,_=>by cases x<;>cases q
 |0,O,.tup _,_,_,_,q,_,_,_,_=>by cases q
mutual
theorem y5:∀{x:Nat}{v:aa},aa.key x v=V->aa.aZ x v=V
 |x,.int _,_=>by cases x<;>rfl
 |x,.str _,_=>by cases x<;>rfl
 |x+1,.tup E,e=>by rw[aa.key]at e;rw[aa.aZ];exact Hd e
 |0,.tup _,e=>by cases e
 |x,.a3,e=>by cases x<;>cases e
 |x,.av _,e=>by cases x<;>cases e
 |x,.fn _,e=>by cases x<;>cases e
 |x,.aW _,e=>by cases x<;>cases e
 |x,.fd _,e=>by cases x<;>cases e
theorem Hd:∀{x:Nat}{E:List aa},aa.keys x E=V->aa.dj x E=V
 |x,[],_=>by rw[aa.dj]
 |x,v::E,e=>by rw[aa.keys,cT]at e;rw[aa.dj,y5 e.1,Hd e.2];rfl
end
mutual
theorem Gx:∀{x:Nat}{f z:aa},aa.key x f=V->aa.key x z=V->cn f z=decide (f=z)
 |x,.int g,z,_,a=>by
  cases z with
  |int r=>rw[cn];by_cases d:g=r<;>simp[d]
  |str i=>simp[cn]
  |tup i=>simp[cn]
  |_=>cases x<;>cases a
 |x,.str g,z,_,a=>by
  cases z with
  |int r=>simp[cn]
  |str i=>rw[cn];by_cases d:g=i<;>simp[d]
  |tup i=>simp[cn]
  |_=>cases x<;>cases a
 |x+1,.tup E,z,b,a=>by
  cases z with
  |int r=>simp[cn]
  |str i=>simp[cn]
  |tup S=>
   rw[aa.key]at b a;rw[cn,C9 b a];simp
  |_=>cases a
 |0,.tup _,_,e,_=>by cases e
 |x,.a3,_,e,_=>by cases x<;>cases e
 |x,.av _,_,e,_=>by cases x<;>cases e
 |x,.fn _,_,e,_=>by cases x<;>cases e
 |x,.aW _,_,e,_=>by cases x<;>cases e
 |x,.fd _,_,e,_=>by cases x<;>cases e
theorem C9:∀{x:Nat}{f z:List aa},aa.keys x f=V->aa.keys x z=V->fg f z=decide (f=z)
 |x,[],z,_,_=>by cases z<;>simp[fg]
 |x,v::E,[],_,_=>by simp[fg]
 |x,v::E,d::S,a,b=>by
  rw[aa.keys,cT]at a b;rw[fg,Gx a.1 b.1,C9 a.2 b.2];by_cases t:v=d<;>by_cases A:E=S<;>simp[t,A]
end
theorem vT:∀(x:Nat) {O:bq}{Vo:ae->ao->Prop}{j:ao}{v:aa}{u:ae}{C:Bool->ao->Prop},aa.key x v=V->dh j.heap v u->C V j->wpAny (aO Vs H) O (eqIsQuiet x u) C Vo j
 |x,O,Vo,j,.int g,u,C,_,a,e=>by
  let⟨@D,rfl⟩:=a;rw[Cd x rfl];exact aR e
 |x,O,Vo,j,.str g,u,C,_,a,e=>by
  let⟨@D,rfl⟩:=a;rw[Cd x rfl];exact aR e
 |x+1,O,Vo,j,.tup E,u,C,q,a,e=>by
  let⟨h,n,VP,@l,rfl,f,m,hd,Vl⟩:=a;have i:j.TypeIs (.ref h) "tuple" := ⟨n,f,m⟩;unfold eqIsQuiet;refine aB (te i F.slot_tuple_eq.lookup ?_);show wpAny _ _ (As (.ref h) (.type "tuple") >>= _) _ _ j;refine aB (uo i isSubtype_tuple_tuple ?_);simp only[qE,hi,fN];refine aB (lU f hd ?_);refine aB ?_;show wpAny _ _ (forIn VP _ _) _ _ j;rw[<-tv];rw[aa.key]at q;refine mH _ (λc1 s Vm=>s.1=X/\Vm=j/\∃left,aa.keys x left=V/\dR j.heap left c1) _ ?_ ?_ _ _ ⟨rfl,rfl,E,q,Vl⟩
  ·rintro u c1 s Vm ⟨b,rfl,left,c,k⟩;cases left with
   |nil=>cases (show u::c1=[] from k)
   |cons v left=>
    let⟨p,@Wh,d,t,o⟩:=k;cases d;rw[aa.keys,cT]at c;refine aB (vT x c.1 t ?_);simp only[qE,hi,fN];exact aR ⟨rfl,rfl,left,c.2,o⟩
  ·rintro⟨r,w⟩ Vm ⟨b,rfl,W⟩;simp only at b;subst b;exact aR e
 |_,_,_,_,.a3,_,_,q,_,_=>by cases ‹Nat›<;>cases q
 |_,_,_,_,.av _,_,_,q,_,_=>by cases ‹Nat›<;>cases q
 |_,_,_,_,.fn _,_,_,q,_,_=>by cases ‹Nat›<;>cases q
 |_,_,_,_,.aW _,_,_,q,_,_=>by cases ‹Nat›<;>cases q
 |_,_,_,_,.fd _,_,_,q,_,_=>by cases ‹Nat›<;>cases q
 |0,_,_,_,.tup _,_,_,q,_,_=>by cases q
def eh(Vs:bE)(H:bg):zg Vs H (List aa) where
 is:=λe E h=>aa.keys 7 E=V/\dh e (.tup E) (.ref h)
 hash:=λE=>dm H (.tup E)
 draws:=λE=>wb (.tup E)
 room:=λO=>O.units+10<bW
 inj:=λa b=>by
  have:=FA 8 (f:=.tup _) (z:=.tup _) a.1 b.1 a.2 b.2;injection this
 keeps:=λ{e Vk q h v n S VU} f l hd Vy=>⟨f.1,f.2.keep λc J VP x g o k=>by
  have m:c≠v:=by
   rintro rfl;rw[l]at g;cases g;rw[hd]at k;cases k
  exact (Vy.2 c m).trans g⟩
 pyHash:=λi d e=>El 8 (v:=.tup _) d.1 (show _<_ by have:_+10<bW:=i;lia) d.2 e
 eqBool:=λ{O Vo j f z h c C} i a b e=>by
  have p:=iU (j:=j) 8 (O:=O) (f:=.tup f) (z:=.tup z) (y5 (x:=8) (v:=.tup f) a.1) (y5 (x:=8) (v:=.tup z) b.1) (show _<_ by have:O.units+10<bW:=i;lia) a.2 b.2;rw[Gx (x:=8) (f:=.tup f) (z:=.tup z) a.1 b.1]at p;exact p _ _ Vo C ⇑e
 quiet:=λd e=>vT 8 (v:=.tup _) d.1 d.2 e
end
abbrev dk(w:Array Nat):Prop:=w.toList.Pairwise (· < ·)
def tb(s:dk w){g q:Nat}{v:Nat}(e:g<q)(b:q<w.size):w.getD g v<w.getD q v:=by
 have Vl:g<w.size:=qg e b;have d:∀l (a:l<w.size),w.getD l v=w.toList[l]'⇑a:=λl a=>by simp[Array.getD,a]
 rw[d g Vl,d q b];exact n1.mp s g q _ _ e
theorem zZ(w:Array Nat)(s:dk w)(r:Nat):∀(fuel M Vl:Nat),Vl-M<=fuel->M<=Vl->Vl<=w.size->(∀g,g<M->w.getD g r<r)->(∀g,Vl<=g->g<w.size->r<=w.getD g r)->
  (aS.below.go w r fuel M Vl<=w.size/\(∀g,g<aS.below.go w r fuel M Vl->w.getD g r<r)/\∀g,aS.below.go w r fuel M Vl<=g->g<w.size->r<=w.getD g r)
 |0,M,Vl,t,A,b,h,c=>by
  have d:M=Vl:=⋯
  subst d;exact⟨b,h,c⟩
 |fuel+1,M,Vl,t,A,b,h,c=>by
  unfold aS.below.go;by_cases e:M<Vl
  ·rw[aF e];dsimp only;by_cases a:w.getD ((M+Vl)/2) r<r
   ·rw[aF a];refine zZ w s r fuel _ _ ⋯ ⋯ b (λg f=>?_) c;rcases g_ g ((M+Vl)/2) with Vk|Vk
    ·exact qg (tb s Vk ⋯) a
    ·have:g=(M+Vl)/2:=⋯
     rw[this];exact a
   ·rw[aJ a];refine zZ w s r fuel _ _ ⋯ ⋯ ⋯ h (λg f i=>?_);rcases g_ ((M+Vl)/2) g with Vk|Vk
    ·exact nc (uE (qm.mp a)<|tb s Vk i)
    ·have:g=(M+Vl)/2:=⋯
     rw[this];exact qm.mp a
  ·rw[aJ e];have d:M=Vl:=⋯
   subst d;exact⟨b,h,c⟩
def t2(s:dk w)(r:Nat):aS.below w r<=w.size/\(∀g,g<aS.below w r->w.getD g r<r)/\∀g,aS.below w r<=g->g<w.size->r<=w.getD g r:=
 zZ w s r w.size 0 w.size ⋯ ⋯ ⋯ (λg e=>absurd e<|r5 _) λg e Vk=>absurd Vk ⋯
def ya(s:dk w){g r:Nat}(e:w[g]?=Z r):aS.below w r=g:=by
 let@⟨h,c,o⟩:=t2 s r;let⟨@Vl,d⟩:=oo.mp e;have a:w.getD g r=r:=by simp[Array.getD,Vl,d]
 rcases tX (aS.below w r) g with t|t|t
 ·have A:=o _ (bD _) (qg t Vl);have b:=tb s (v:=r) t Vl;omega
 ·exact t
 ·have:=c g t;omega
def Jf(s:dk w){g r:Nat}(e:w[g]?=Z r):aS.below w (r+1)=g+1:=by
 let@⟨h,c,o⟩:=t2 s (r+1);let⟨@Vl,d⟩:=oo.mp e;have a:w.getD g (r+1)=r:=by simp[Array.getD,Vl,d]
 rcases tX (aS.below w<|r+1) (g+1) with t|t|t
 ·have:=o g ⋯ Vl;lia
 ·exact t
 ·have A:=c (g+1) t;have b:=tb s (v:=r+1) (l7 g) ⋯;lia
def Uu(s:dk w):aS.below w 0=0:=by
 let@⟨h,c,o⟩:=t2 s 0;rcases BM (aS.below w 0) with e|e
 ·exact e
 ·exact absurd (c 0 e) (r5 _)
def K_(s:dk w){r:Nat}(e:¬ (w[aS.below w r]?=Z r)):dk (aS.insertAt w (aS.below w r) r):=by
 let@⟨h,c,o⟩:=t2 s r;unfold dk;rw[Gl];refine DF.mpr ⟨ER (rh _ _) s,hq.mpr ⟨λz a=>?_,ER (tT _ _) s⟩,λf j z a=>?_⟩
 ·let⟨q,b,rfl⟩:=oT.mp a;rw[ps];have Vy:aS.below w r+q<w.size:=by simp at b;lia
  have t:=o (aS.below w r+q) (tV _ _) Vy;have d:w.getD (aS.below w r+q) r=w.toList[aS.below w r+q]:=by simp[Array.getD,Vy]
  rw[d]at t;refine Nat.lt_of_le_of_ne t λg=>?_;rcases BM q with h0|h0
  ·subst h0;apply e;rw[oo];exact⟨⋯,by simpa using g.symm⟩
  ·have A:=tb s (v:=r) (CQ (n:=aS.below w r) h0) Vy;have k:=o (aS.below w r) (bD _) ⋯;rw[d]at A;exact absurd g (c0<|uE k A)
 ·let⟨q,b,rfl⟩:=oT.mp j;rw[u5];have m:q<aS.below w r:=by simp at b;lia
  have Vy:q<w.size:=⋯
  have t:=c q m;have d:w.getD q r=w.toList[q]:=by simp[Array.getD,Vy]
  rw[d]at t;rcases cm.mp a with rfl|a
  ·exact t
  ·let⟨l,n,rfl⟩:=oT.mp a;rw[ps];have i:aS.below w r+l<w.size:=by simp at n;lia
   have A:=o (aS.below w r+l) (tV _ _) i;have p:w.getD (aS.below w r+l) r=w.toList[aS.below w r+l]:=by simp[Array.getD,i]
   rw[p]at A;exact eJ t A
structure kR(D:aS)(led:Bool):Prop where
 rise:dk D.place
 qs:D.dummies=#[]
 led:D.led=led
def kR.MA(e:kR D Wr)(c:Bool):kR {D with plain:=c} Wr:=⟨e.rise,e.qs,e.led⟩
def Gj(r:Nat):aS.has #[] r=aA:=rfl
def Nq(hd:D.dummies=#[])(r:Nat):(∃g,D.slot r=.live g)\/(D.slot r=.empty/\¬ (D.place[aS.below D.place r]?=Z r)):=by
 unfold aS.slot;dsimp only;by_cases e:(D.place[aS.below D.place r]? == Z r)=V
 ·rw[aF e];exact .inl ⟨_,rfl⟩
 ·rw[aJ e,hd,Gj];exact .inr ⟨rfl,λd=>e (by rw[d];exact hW _)⟩
def kR.put(e:kR D Wr){r:Nat}(a:¬ (D.place[aS.below D.place r]?=Z r)):kR (D.put r).1 Wr:=by
 refine⟨K_ e.rise a,?_,e.led⟩;show (if aS.has D.dummies r=V then _ else D.dummies)=#[];rw[e.qs,Gj];rfl
def UJ{g k l:Nat}{m:Bool}{Vy:Array Int}{n:Array Nat}(d:aS.laid g k l Wr m Vy=Z (D,n)):kR D Wr:=by
 unfold aS.laid at d;cases e:aS.layClean g Vy with
 |none=>rw[e]at d;cases d
 |some VX=>
  rw[e]at d;cases d;refine⟨?_,rfl,rfl⟩;show (List.map (λf:Nat×Nat=>f.1)<|List.filterMap (λr=>Option.map (λf=>(r,f))<|VX.getD r X)<|range<|g+1).Pairwise (· < ·);rw[C8];refine KW _ (R:=(· < ·)) (λh c o f a z b=>?_) List.pairwise_lt_range;cases i:VX.getD h X with
  |none=>rw[i]at a;cases a
  |some J=>
   cases j:VX.getD c X with
   |none=>rw[j]at b;cases b
   |some u=>
    rw[i]at a;rw[j]at b;cases a;cases b;exact o
def qJ(l:Nat)(m:aS.Probe):aS.Probe:=(
 if m.more>0 then {m with j:=m.j+1,more:=m.more-1} else
 {m with j:=(aS.leap l m.i m.perturb).1,more:=aS.runEnd l (aS.leap l m.i m.perturb).1-(aS.leap l m.i m.perturb).1,i:=(aS.leap l m.i m.perturb).1,perturb:=(aS.leap l m.i m.perturb).2})
def q2(l g Wb:Nat):aS.Probe:=({j:=g,more:=aS.runEnd l g-g,i:=g,perturb:=Wb,dummy:=X})
def cy(l:Nat)(e:Int):Nat->aS.Probe
 |0=>q2 l (aS.bits e%(l+1)) (aS.bits e)
 |q+1=>qJ l (cy l e q)
def c_(l:Nat)(e:Int):Nat->Nat×Nat
 |0=>(aS.bits e%(l+1),aS.bits e)
 |p+1=>aS.leap l (c_ l e p).1 (c_ l e p).2
theorem ys(l:Nat)(e:Int):∀q,(cy l e q).dummy=X
 |0=>rfl
 |q+1=>by
  rw[cy,qJ];split
  ·exact ys l e q
  ·exact ys l e q
def LV(l g:Nat):aS.runEnd l g-g<=9:=by
 unfold aS.runEnd;split<;>lia
theorem q3{l:Nat}{e:Int}{q g Wb:Nat}(d:cy l e q=q2 l g Wb):∀s,s<=aS.runEnd l g-g->cy l e (q+s)={q2 l g Wb with j:=g+s,more:=aS.runEnd l g-g-s}
 |0,_=>d
 |s+1,a=>by
  show qJ l (cy l e<|q+s)=_;rw[q3 d s ⋯,qJ,aF (show aS.runEnd l g-g-s>0 by lia)];rfl
def TY{e:Int}{Wb:Nat}(d:cy l e q=q2 l g Wb):cy l e (q+(aS.runEnd l g-g)+1)=q2 l (aS.leap l g Wb).1 (aS.leap l g Wb).2:=by
 show qJ l (cy l e<|q+(aS.runEnd l g-g))=_;rw[q3 d _ (bD _),qJ,aJ (show ¬ (aS.runEnd l g-g-(aS.runEnd l g-g)>0) by lia)];rfl
def f_(l:Nat)(e:Int):Nat->Nat
 |0=>0
 |p+1=>f_ l e p+(aS.runEnd l (c_ l e p).1-(c_ l e p).1)+1
theorem qQ(l:Nat)(e:Int):∀p,cy l e (f_ l e p)=q2 l (c_ l e p).1 (c_ l e p).2
 |0=>rfl
 |p+1=>TY (qQ l e p)
theorem Fn(l:Nat)(e:Int):∀p,f_ l e p<=10*p
 |0=>bD _
 |p+1=>by
  have:=Fn l e p;have:=LV l (c_ l e p).1;show f_ l e p+_+1<=_;lia
theorem CN(l:Nat)(e:Int):∀q,∃p s,q=f_ l e p+s/\s<=aS.runEnd l (c_ l e p).1-(c_ l e p).1
 |0=>⟨0,0,rfl,hl _⟩
 |q+1=>by
  let⟨p,@s,d,a⟩:=CN l e q;by_cases i:s+1<=aS.runEnd l (c_ l e p).1-(c_ l e p).1
  ·exact⟨p,s+1,⋯,i⟩
  ·exact⟨p+1,0,by show _=f_ l e p+_+1+0;lia,hl _⟩
def iV(l:Nat):Nat->Nat->Nat
 |0,f=>f
 |q+1,f=>(iV l q f*5+1)%(l+1)
theorem r6(l:Nat)(h f:Nat):∀c,iV l (h+c) f=iV l c (iV l h f)
 |0=>rfl
 |c+1=>by
  show (iV l (h+c) f*5+1)%(l+1)=_;rw[r6 l h f c];rfl
def vF(l:Nat):Nat->Nat->Nat->Nat
 |0,_,a=>a
 |q+1,f,a=>vF l q ((f*5+1)%(l+1)) (a ||| 2^f)
def Rd(l q f:Nat):iV l q ((f*5+1)%(l+1))=iV l (q+1) f:=by
 rw[uN q 1,r6];rfl
theorem Bu{l:Nat}:∀{x f z a:Nat},(vF l x f a).testBit z=V->a.testBit z=V\/∃q,q<x/\iV l q f=z
 |0,_,_,_,e=>.inl e
 |x+1,f,z,a,e=>by
  rcases Bu (x:=x) e with e|⟨q,t,A⟩
  ·rw[Nat.testBit_or,vS]at e;rcases e with e|e
   ·exact .inl e
   ·rw[Nat.testBit_two_pow,gD]at e;exact .inr ⟨0,q5 _,e⟩
  ·exact .inr ⟨q+1,Nat.succ_lt_succ t,by rw[<-Rd];exact A⟩
def wV(l:Nat):Bool:=(beq (vF l (l+1) 0 0) (2^(l+1)-1)&&beq (iV l (l+1) 0) 0)
def Q1(o:wV l=V){h f:Nat}(c:h<=l)(d:f<=l):∃q,q<=l/\iV l q h=f:=by
 rw[wV,cT]at o;have i:=Et o.2;have all:∀z,z<=l->∃q,q<l+1/\iV l q 0=z:=λz g=>by
  have p:(vF l (l+1) 0 0).testBit z=V:=by
   rw[Et o.1,Nat.testBit_two_pow_sub_one];exact di (HX g)
  rcases Bu p with e|e
  ·rw[Nat.zero_testBit]at e;cases e
  ·exact e
 let⟨@a,t,rfl⟩:=all h c;let⟨@b,A,rfl⟩:=all f d;rcases g_ b a with e|e
 ·refine⟨b+(l+1-a),by omega,?_⟩;rw[<-r6,show a+(b+(l+1-a))=(l+1)+b by omega,r6,i]
 ·refine⟨b-a,by omega,?_⟩;rw[<-r6,show a+(b-a)=b by omega]
def ib(l:Nat):Prop:=(l=7\/l=31\/l=127\/l=511)
def ib.Tt(L:ib l):wV l=V:=by
 rcases L with rfl|rfl|rfl|rfl<;>decide +kernel
def OZ(e:Int):aS.bits e<2^64:=by
 unfold aS.bits;have t:=mx e (show (2^64:Int)≠0 by decide);have A:=oK e (show (0:Int)<2^64 by decide);lia
theorem HJ(l:Nat)(e:Int):∀p,(c_ l e p).2=aS.bits e/32^p
 |0=>by rw[Nat.pow_zero,Nat.div_one];rfl
 |p+1=>by
  show (c_ l e p).2/32=_;rw[HJ l e p,Nat.div_div_eq_div_mul];rfl
theorem y6(l:Nat)(e:Int):∀p,(c_ l e p).1<=l
 |0=>q9 (lF _<|q5 _)
 |p+1=>q9 (lF _<|q5 _)
theorem Fe(l:Nat)(e:Int):∀q,c_ l e (13+q)=(iV l q (c_ l e 13).1,0)
 |0=>by
  have d:(c_ l e 13).2=0:=by
   rw[HJ];exact Nat.div_eq_of_lt (qg (OZ e) ∅)
  show c_ l e 13=((c_ l e 13).1,0);rw[<-d]
 |q+1=>by
  show aS.leap l (c_ l e<|13+q).1 (c_ l e<|13+q).2=_;rw[Fe l e q];show ((iV l q (c_ l e 13).1*5+1+0/32)%(l+1),0/32)=_;rw[Nat.zero_div,xI];rfl
def E6(L:ib l)(e:Int){f:Nat}(a:f<=l):∃p,p+1<aS.turns l/\(c_ l e p).1=f:=by
 let⟨@q,t,A⟩:=Q1 L.Tt (y6 l e 13) a;exact⟨13+q,by unfold aS.turns;lia,by rw[Fe];exact A⟩
def Tj(L:ib l)(e:Int){f:Nat}(a:f<=l):∃q,q<10*aS.turns l/\(cy l e q).j=f:=by
 let⟨@p,t,A⟩:=E6 L e a;refine⟨f_ l e p,by have:=Fn l e p;lia,?_⟩;rw[qQ];exact A
def ED(e:g<=l):aS.runEnd l g<=l:=by unfold aS.runEnd;split<;>omega
def HH(l:Nat)(e:Int)(q:Nat):(cy l e q).j<=l:=by
 let⟨p,@s,rfl,a⟩:=CN l e q;rw[q3 (qQ l e p) s a];have:=ED (y6 l e p);have d:aS.runEnd l (c_ l e p).1 >= (c_ l e p).1:=by unfold aS.runEnd;split<;>lia
 show (c_ l e p).1+s<=l;lia
theorem AE{VM:Type}[DecidableEq VM]:∀{I l:List VM},I.Nodup->(∀f∈I,f∈l)->I.length<=l.length
 |[],l,_,_=>hl _
 |h::I,l,aq,e=>by
  have a:=gd.mp aq;have p:=AE (I:=I) (l:=l.erase h) a.2 λf b=>(yS (λd:f=h=>a.1<|d ▸ b)).mpr (e f<|.tail _ b);have c:=e h (.head _);rw[Al c]at p;have:=r1 c;rw[dn];lia
def lN(l:Nat)(iv:Nat->Prop)(e:Int)(r:Nat):Prop:=(∃q,(cy l e q).j=r/\∀a,a<q->iv (cy l e a).j)
def lN.mono{iv a:Nat->Prop}{e:Int}(s:lN l iv e r)(g:∀f,iv f->a f):lN l a e r:=let ⟨q,d,h⟩:=s;⟨q,d,λb i=>g _<|h b i⟩
structure pw(D:aS)(Vy:List Int):Prop where
 fS:ib D.mask
 len:D.place.size=Vy.length
 loose:D.place.size*5<D.mask*3
 le:∀r∈D.place.toList,r<=D.mask
 ot:∀m∈D.place.toList.zip Vy,lN D.mask (·∈D.place.toList) m.2 m.1
def ib.pos(L:ib l):7<=l/\l<=511/\l%2=1:=by rcases L with rfl|rfl|rfl|rfl<;>decide
def Lg(s:dk D.place){r:Nat}(e:r∈D.place.toList):∃g,D.slot r=.live g/\D.place[g]?=Z r:=by
 let⟨g,Vl,d⟩:=oT.mp e;have a:D.place[g]?=Z r:=by
  rw[<-eE,dN Vl,d]
 refine⟨g,?_,a⟩;unfold aS.slot;dsimp only;rw[ya s a,a,aF<|hW _]
def Ot(hd:D.dummies=#[]){r:Nat}(e:r∉D.place.toList):D.slot r=.empty:=by
 rcases Nq hd r with ⟨g,d⟩|⟨d,_⟩
 ·unfold aS.slot at d;dsimp only at d;split at d
  ·next p=>
   have a:=eq_of_beq p;refine absurd ?_ e;rw[<-eE]at a;exact eC a
  ·split at d<;>cases d
 ·exact d
def pw.some(b:pw D Vy)(e:Int):∃q,q<10*aS.turns D.mask/\(cy D.mask e q).j∉D.place.toList:=by
 have:∃f,f<=D.mask/\f∉D.place.toList:=by
  refine vs λo=>?_;have p:=AE (I:=range (D.mask+1)) (l:=D.place.toList) vN λf a=>vs λi=>o ⟨f,q9<|gI.mp a,i⟩;rw[j1,df]at p;have:=b.loose;lia
 let⟨@f,t,A⟩:=this;let⟨@q,c,d⟩:=Tj b.fS e t;exact⟨q,c,by rw[d];exact A⟩
theorem GJ{D:aS}(s:dk D.place)(hd:D.dummies = #[])(f:Nat -> Int)(e:Int): ∀(fuel a:Nat),(∃q,a <= q /\ q<a+fuel /\ (cy D.mask e q).j ∉ D.place.toList) ->
    ∃b,a <= b /\ (∀q,a <= q -> q<b -> ∃g,D.place[g]? = Z (cy D.mask e q).j /\ f g ≠ e) /\
      ((aS.probe.go D f e fuel (cy D.mask e a)=Z (.empty (cy D.mask e b).j X) /\ (cy D.mask e b).j ∉ D.place.toList) \/
        ∃g,aS.probe.go D f e fuel (cy D.mask e a)=Z (.candidate (cy D.mask e b).j g<|cy D.mask e<|b+1) /\ D.slot (cy D.mask e b).j=.live g /\ D.place[g]? = Z (cy D.mask e b).j /\ f g=e)
  |0,a,⟨q,h,c,_⟩ => absurd h ⋯
  |fuel+1,a,⟨q,h,c,o⟩ => by
    by_cases i:(cy D.mask e a).j ∈ D.place.toList
    · let⟨@g,k,l⟩:=Lg s i
      by_cases p:f g=e
      · refine ⟨a,bD _,λq t A => absurd t ⋯,.inr ⟨g, ?_,k,l,p⟩⟩
        unfold aS.probe.go;rw [k];dsimp only;rw [aF (by rw [p]; exact hW _)];rfl
      · have ne:q ≠ a:=λd => o (d ▸ i)
        let⟨@b,t,A,m⟩:=GJ s hd f e fuel (a+1) ⟨q,⋯,⋯,o⟩;have d:aS.probe.go D f e (fuel+1) (cy D.mask e a)=aS.probe.go D f e fuel (cy D.mask e<|a+1):=by
          rw [aS.probe.go,k];dsimp only;rw [aJ (by rw [jm]; exact p)];rfl
        refine ⟨b,⋯,λq u n => ?_,by rw [d]; exact m⟩;rcases g_ a q with L|L
        · exact A q L n
        · rw [show q=a by lia]; exact ⟨g,l,p⟩
    · refine ⟨a,bD _,λq t A => absurd t ⋯,.inl ⟨?_,i⟩⟩
      unfold aS.probe.go;rw [Ot hd i];dsimp only;rw [ys]
def wx(w:Array VM)(m:Nat)(f:VM):(aS.insertAt w m f).toList=w.toList.take m++f::w.toList.drop m:=Gl w m f
def sU{I:List VM}{m:Nat}{f z:VM}:z∈I.take m++f::I.drop m↔z=f\/z∈I:=by
 constructor
 ·intro e;rcases du.mp e with e|e
  ·exact .inr (oV e)
  ·rcases cm.mp e with e|e
   ·exact .inl e
   ·exact .inr (m3 e)
 ·rintro (rfl|e)
  ·exact dy _ (.head _)
  ·rw[<-fz m I]at e;rcases du.mp e with e|e
   ·exact dW _ e
   ·exact dy _ (.tail _ e)
def Mo{Wm:Type}{h:List VM}{c:List Wm}(b:h.length=c.length)(m:Nat)(f:VM)(z:Wm):(h.take m++f::h.drop m).zip (c.take m++z::c.drop m)=(h.zip c).take m++(f,z)::(h.zip c).drop m:=by
 rw[EU (by rw[gN,gN,b]),xG];have d:∀(m:Nat) (h:List VM) (c:List Wm),(h.take m).zip (c.take m)=(h.zip c).take m:=λm=>by
  induction m with
  |zero=>intro h c;rfl
  |succ m a=>intro h c;cases h with
   |nil=>rfl
   |cons f h=>cases c with
    |nil=>rfl
    |cons z c=>exact congrArg ((f,z)::·) (a h c)
 have e:∀(m:Nat) (h:List VM) (c:List Wm),(h.drop m).zip (c.drop m)=(h.zip c).drop m:=λm=>by
  induction m with
  |zero=>intro h c;rfl
  |succ m a=>intro h c;cases h with
   |nil=>rfl
   |cons f h=>cases c with
    |nil=>show (h.drop m).zip []=_;rw[Ge];rfl
    |cons z c=>exact a h c
 rw[d,e]
def pw.put(b:pw D Vy){e:Int}{q:Nat}(l:(cy D.mask e q).j∉D.place.toList)(h:∀a,a<q->(cy D.mask e a).j∈D.place.toList):
  (∀r∈(D.put (cy D.mask e q).j).1.place.toList,r<=D.mask)/\∀m∈(D.put (cy D.mask e q).j).1.place.toList.zip (Vy.take (D.put (cy D.mask e q).j).2++e::Vy.drop (D.put (cy D.mask e q).j).2),lN D.mask (·∈(D.put (cy D.mask e q).j).1.place.toList) m.2 m.1:=by
 have d:(D.put (cy D.mask e q).j).1.place.toList=D.place.toList.take (D.put (cy D.mask e q).j).2++(cy D.mask e q).j::D.place.toList.drop (D.put (cy D.mask e q).j).2:=wx _ _ _;rw[d];refine⟨λr g=>?_,λm c=>?_⟩
 ·rcases sU.mp g with rfl|g
  ·exact HH _ _ _
  ·exact b.le r g
 ·rw[Mo (by rw[df];exact b.len)]at c;rcases sU.mp c with rfl|c
  ·exact⟨q,rfl,λa i=>sU.mpr<|.inr<|h a i⟩
  ·exact (b.ot m c).mono λf k=>sU.mpr (.inr k)
def mc(VX:Array (Option Nat))(r:Nat):Prop:=((VX.getD r<|Z 0).isSome=V)
theorem Cu{l:Nat}(VX:Array (Option Nat))(e:Int):∀(fuel p:Nat),(∀a,a<f_ l e p->mc VX (cy l e a).j)->(∃b,p<=b/\b<p+fuel/\¬ mc VX (c_ l e b).1)->
  ∃r,aS.layClean.free l VX fuel (c_ l e p).1 (c_ l e p).2=Z r/\r<=l/\¬ mc VX r/\lN l (mc VX) e r
 |0,p,_,⟨b,h,c,_⟩=>absurd h ⋯
 |fuel+1,p,f,⟨b,h,c,o⟩=>by
  unfold aS.layClean.free;have le:aS.runEnd l (c_ l e p).1<=l:=ED (y6 l e p);have WZ:(c_ l e p).1<=aS.runEnd l (c_ l e p).1:=by unfold aS.runEnd;split<;>lia
  cases g:(range<|aS.runEnd l (c_ l e p).1+1-(c_ l e p).1).find? (λq=>(VX.getD ((c_ l e p).1+q)<|Z 0).isNone) with
  |some q=>
   dsimp only;rw[List.find?_range_eq_some]at g;let@⟨t,A,m⟩:=g;have n:q<aS.runEnd l (c_ l e p).1+1-(c_ l e p).1:=gI.mp A;refine⟨_,rfl,⋯,?_,f_ l e p+q,?_,λa k=>?_⟩
   ·unfold mc;intro i;rw[Option.isNone_iff_eq_none]at t;rw[t]at i;cases i
   ·rw[q3 (qQ l e p) q ⋯]
   ·rcases g_ a (f_ l e p) with i|i
    ·exact f a i
    ·have d:a=f_ l e p+(a-f_ l e p):=⋯
     rw[d,q3 (qQ l e p) (a-f_ l e p) ⋯];have:=m (a-f_ l e p) ⋯;show (VX.getD ((c_ l e p).1+(a-f_ l e p))<|Z 0).isSome=V;cases H:VX.getD ((c_ l e p).1+(a-f_ l e p)) (Z 0) with
     |none=>rw[H]at this;cases this
     |some _=>rfl
  |none=>
   dsimp only;rw[List.find?_range_eq_none]at g;have iv:∀q,q<aS.runEnd l (c_ l e p).1+1-(c_ l e p).1->mc VX ((c_ l e p).1+q):=λq f=>by
    have:=g q f;unfold mc;cases H:VX.getD ((c_ l e p).1+q) (Z 0) with
    |none=>rw[H]at this;cases this
    |some _=>rfl
   have ne:b≠p:=λd=>o (by rw[d];exact iv 0 ⋯);refine Cu VX e fuel (p+1) (λa k=>?_) ⟨b,⋯,⋯,o⟩;rcases g_ a (f_ l e p) with i|i
   ·exact f a i
   ·have s:a<f_ l e p+(aS.runEnd l (c_ l e p).1-(c_ l e p).1)+1:=k;have d:a=f_ l e p+(a-f_ l e p):=⋯
    rw[d,q3 (qQ l e p) (a-f_ l e p) ⋯];exact iv _ ⋯
structure lz(l:Nat)(VX:Array (Option Nat))(Vw:List Nat)(Vy:List Int):Prop where
 size:VX.size=l+1
 len:Vw.length=Vy.length
 aq:Vw.Nodup
 le:∀r∈Vw,r<=l
 own:∀(r q:Nat),VX[r]?=Z (Z q)↔Vw[q]?=Z r
 ot:∀m∈Vw.zip Vy,lN l (·∈Vw) m.2 m.1
def lz.iv{Vw:List Nat}(y:lz l VX Vw Vy){r:Nat}(c:r<=l):mc VX r↔r∈Vw:=by
 have b:r<VX.size:=by rw[y.size];lia
 unfold mc;rw[show VX.getD r (Z 0)=VX[r] by simp[Array.getD,b]];have d:VX[r]?=Z VX[r]:=jJ b;constructor
 ·intro i;let⟨@q,a⟩:=HQ.mp i;rw[a]at d;exact eC ((y.own r q).mp d)
 ·intro i;let⟨@q,a⟩:=vC i;have:=(y.own r q).mpr a;rw[d]at this;rw[Option.some.inj this];rfl
def lz.step{l:Nat}(L:ib l){VX:Array (Option Nat)}{Vw:List Nat}{Vy:List Int}(y:lz l VX Vw Vy)(D:Vy.length<=l)(e:Int):
  ∃r,aS.layClean.free l VX (aS.turns l) (aS.bits e%(l+1)) (aS.bits e)=Z r/\lz l (VX.setIfInBounds r<|Z Vy.length) (Vw++[r]) (Vy++[e]):=by
 have room:∃f,f<=l/\f∉Vw:=by
  refine vs λo=>?_;have p:=AE (I:=range (l+1)) (l:=Vw) vN λf g=>vs λi=>o ⟨f,q9<|gI.mp g,i⟩;rw[j1,y.len]at p;lia
 let⟨@f,k,v⟩:=room;let⟨@p,E,w⟩:=E6 L e k;let⟨@r,x,n,z,A⟩:=Cu (l:=l) VX e (aS.turns l) 0 (λs j=>absurd j<|r5 _) ⟨p,hl _,⋯,by rw[w];exact λi=>v<|(y.iv k).mp i⟩;have t:r∉Vw:=λi=>z ((y.iv n).mpr i);have B:r<VX.size:=by rw[y.size];lia
 refine⟨r,x,by rw[Array.size_setIfInBounds,y.size],by rw[dd,dd,y.len];rfl,?_,?_,λu q=>?_,?_⟩
 ·exact cO.mpr ⟨y.aq,eB _ _,λh a c C d=>t (by rw[<-cb.mp C,<-d];exact a)⟩
 ·intro h a;rcases du.mp a with a|a
  ·exact y.le h a
  ·rw[cb.mp a];exact n
 ·rw[Array.getElem?_setIfInBounds];by_cases d:r=u
  ·subst d;rw[aF rfl,aF B];constructor
   ·intro i;cases i;rw[<-y.len,lX<|bD _,DT];rfl
   ·intro i;rcases g_ q Vw.length with H|H
    ·rw[nh H]at i;exact absurd (eC i) t
    ·rw[lX H]at i;have:q-Vw.length=0:=by
      have:=(eX.mp i).1;rw[iJ]at this;lia
     rw[show q=Vy.length by rw[<-y.len];lia]
  ·rw[aJ d,y.own u q];rcases g_ q Vw.length with H|H
   ·rw[nh H]
   ·rw[lX H,rW H];constructor
    ·intro i;cases i
    ·intro i;have:=eC i;exact absurd (cb.mp this) (λi=>d i.symm)
 ·intro m b;rw[EU y.len]at b;rcases du.mp b with b|b
  ·exact (y.ot m b).mono λf g=>dW _ g
  ·rw[xG,List.zip_nil_left]at b;rw[cb.mp b];let⟨@q,d,h⟩:=A;exact⟨q,d,λs j=>dW _<|(y.iv<|HH _ _ _).mp<|h s j⟩
theorem Dv{l:Nat}(L:ib l):∀(c1 Vy:List Int) (VX:Array (Option Nat)) (Vw:List Nat),lz l VX Vw Vy->(Vy++c1).length<=l->
  ∃a b,c1.foldl (λ(j:Option (Array (Option Nat)×Nat)) e=>do
   let (f,q) <-j
   let r <-aS.layClean.free l f (aS.turns l) (aS.bits e%(l+1)) (aS.bits e)
   pure (f.setIfInBounds r<|Z q,q+1)) (Z (VX,Vy.length))=Z (a,(Vy++c1).length)/\lz l a b (Vy++c1)
 |[],Vy,VX,Vw,y,_=>⟨VX,Vw,by rw[bQ];rfl,by rw[bQ];exact y⟩
 |e::c1,Vy,VX,Vw,y,g=>by
  let⟨@r,d,k⟩:=y.step L (by rw[dd]at g;lia) e;let⟨a,@b,c,h⟩:=Dv L c1 (Vy++[e]) _ _ k (by rw[bk];exact g);rw[bk]at c h;refine⟨a,b,?_,h⟩;rw[jT];rw[show (Vy++[e]).length=Vy.length+1 from dd]at c;refine Eq.trans (congrArg (λi=>List.foldl _ i c1) ?_) c;show (aS.layClean.free l VX (aS.turns l) (aS.bits e%(l+1))<|aS.bits e).bind _=_;rw[d];rfl
def J8(L:ib l)(Vy:Array Int)(a:Vy.size<=l):∃VX Vw,aS.layClean l Vy=Z VX/\lz l VX Vw Vy.toList:=by
 have b:lz l (Array.replicate (l+1) X) [] []:=by
  refine⟨Array.size_replicate,rfl,hn,λ_ e=>(fW e).elim,λr q=>⟨λi=>?_,λi=>?_⟩,λ_ e=>(fW e).elim⟩
  ·have:=(oo.mp i).2;rw[Array.getElem_replicate]at this;cases this
  ·simp at i
 let⟨VX,@Vw,d,y⟩:=Dv L Vy.toList [] _ _ b (by rw[gp,df];exact a);refine⟨VX,Vw,?_,y⟩;unfold aS.layClean;rw[<-Array.foldl_toList];exact congrArg (Option.map (·.1)) d
def Tp{m:Nat×Nat}:m∈(range<|l+1).filterMap (λr=>(VX.getD r X).map (r,·))↔m.1<=l/\VX[m.1]?=Z (Z m.2):=by
 rw[tj];constructor
 ·rintro⟨r,t,A⟩;let⟨@q,a,rfl⟩:=b9.mp A;refine⟨q9<|gI.mp t,?_⟩;show VX[r]?=Z (Z q);by_cases i:r<VX.size
  ·rw[show VX.getD r X=VX[r] by simp[Array.getD,i]]at a;rw[jJ i,a]
  ·rw[show VX.getD r X=X by simp[Array.getD,i]]at a;cases a
 ·rintro⟨t,A⟩;refine⟨m.1,gI.mpr<|HX t,?_⟩;let⟨@i,d⟩:=oo.mp A;rw[show VX.getD m.1 X=VX[m.1] by simp[Array.getD,i],d];rfl
theorem F1{VM Wm:Type}:∀{I:List (VM×Wm)},(I.map (·.1)).Nodup->(∀h∈I,∀c∈I,h.2=c.2->h.1=c.1)->(I.map (·.2)).Nodup
 |[],_,_=>hn
 |f::I,e,g=>by
  rw[b4]at e ⊢;have Vk:=gd.mp e;refine gd.mpr ⟨λi=>?_,F1 Vk.2 λh b c j=>g h (.tail _ b) c<|.tail _ j⟩;let⟨@z,a,d⟩:=ep.mp i;have:=g z (.tail _ a) f (.head _) d;exact Vk.1 (by rw[<-this];exact vO a)
theorem CK{VM Wm W3:Type}(F:VM->Wm)(L:VM->W3):∀I:List VM,(I.map F).zip (I.map L)=I.map λf=>(F f,L f)
 |[]=>rfl
 |f::I=>congrArg (_::·) (CK F L I)
def Q6{i:Nat}(L:ib (aS.sizeAbove i-1))(B:S.size*5<(aS.sizeAbove i-1)*3){Wr:Bool}(q:D.led=Wr):
  ∃V1 u,D.relaid (S.map (·.1)) i=Z (V1,u)/\u.toList.Perm (range S.size)/\kR V1 Wr/\pw V1 ((u.filterMap (S[·]?)).toList.map (·.1)):=by
 let⟨VX,@Vw,d,y⟩:=J8 L (S.map (·.1)) (by rw[ze];lia);generalize C:aS.sizeAbove i-1=l at *;have k:D.relaid (S.map (·.1)) i=Z ({mask:=l,place:=(((range<|l+1).filterMap λr=>(VX.getD r X).map (r,·)).map (·.1)).toArray,dummies:=#[],finger:=D.finger,led:=D.led,moves:=D.movedTo l,plain:=D.plain},(((range<|l+1).filterMap λr=>(VX.getD r X).map (r,·)).map (·.2)).toArray):=by
  unfold aS.relaid aS.laid;rw[C,d];rfl
 have b:=λ(m:Nat×Nat)=>Tp (l:=l) (VX:=VX) (m:=m);have o:(((range<|l+1).filterMap λr=>(VX.getD r X).map (r,·)).map (·.1)).Pairwise (· < ·):=by
  have:=(UJ (D:=_) (n:=_) k);exact this.rise
 generalize F:(range<|l+1).filterMap (λr=>(VX.getD r X).map (r,·))=E at k b o;have VC:∀m∈E,Vw[m.2]?=Z m.1:=λm a=>(y.own _ _).mp ((b m).mp a).2;have lt:∀m∈E,m.2<S.size:=λm a=>by
  have:=(eX.mp<|VC m a).1;rw[y.len,df,ze]at this;exact this
 have v:(E.map (·.1)).Nodup:=o.imp λe=>c0 e;have w:(E.map (·.2)).Nodup:=F1 v λh G c H d=>by
  have t:=VC h G;have A:=VC c H;rw[d]at t;exact Option.some.inj (t.symm.trans A)
 have perm:(E.map (·.2)).Perm (range S.size):=by
  refine (uP w vN).mpr λf=>?_;rw[gI];constructor
  ·intro e;let⟨@m,a,rfl⟩:=ep.mp e;exact lt m a
  ·intro e;have j:f<Vw.length:=by rw[y.len,df,ze];exact e
   have t:Vw[f]?=Z Vw[f]:=dN j;exact ep.mpr ⟨(Vw[f],f),(b _).mpr ⟨y.le _<|u0 j,(y.own _ _).mpr t⟩,rfl⟩
 have x:E.length=S.size:=by
  have:=perm.length_eq
  rwa [a8,j1]at this
 have z:((E.map (·.2)).filterMap (S[·]?)).map (·.1)=E.map λm=>(S.getD m.2 (0,.none)).1:=by
  clear b o VC v w perm x k F;induction E with
  |nil=>rfl
  |cons m E I=>
   have a:=lt m (.head _);rw[b4,w0<|jJ a,b4,b4,I λp s=>lt p<|.tail _ s];congr 1;simp[Array.getD,a]
 refine⟨_,_,k,?_,⟨?_,rfl,q⟩,⟨L,?_,?_,?_,?_⟩⟩
 ·exact perm
 ·exact o
 ·rw[xt];show (E.map (·.1)).toArray.size=(((E.map (·.2)).filterMap (S[·]?)).map (·.1)).length;rw[z,cN,a8,a8]
 ·show (E.map (·.1)).toArray.size*5<l*3;rw[cN,a8,x];exact B
 ·intro r J;let⟨@m,a,rfl⟩:=ep.mp J;exact ((b m).mp a).1
 ·rw[xt];show ∀m∈(E.map (·.1)).zip (((E.map (·.2)).filterMap (S[·]?)).map (·.1)),lN l (·∈E.map (·.1)) m.2 m.1;rw[z,CK];intro m a;let⟨@p,s,rfl⟩:=ep.mp a;have t:=VC p s;have A:((S.map (·.1)).toList)[p.2]?=Z (S.getD p.2 (0,.none)).1:=by
   have:=lt p s;rw[eE,Array.getElem?_map,jJ this];simp[Array.getD,this]
  have M:(p.1,(S.getD p.2 (0,.none)).1)∈Vw.zip (S.map (·.1)).toList:=by
   refine eC (i:=p.2) ?_;rw[ug];exact⟨t,A⟩
  refine (y.ot _ M).mono λf j=>?_;let⟨@q,N⟩:=vC j;exact ep.mpr ⟨(f,q),(b _).mpr ⟨y.le f j,(y.own _ _).mpr N⟩,rfl⟩
def O0(L:ib l)(t:x*5<l*3)(A:(x+1)*5 >= l*3)(a:x+1<=300):ib (aS.sizeAbove (aS.grown<|x+1)-1)/\(x+1)*5<(aS.sizeAbove (aS.grown<|x+1)-1)*3/\aS.sizeAbove (aS.grown<|x+1)<=512:=by
 rcases L with rfl|rfl|rfl|rfl
 ·rw[show x=4 by lia];exact⟨.inr (.inl ∅),by decide,by decide⟩
 ·rw[show x=18 by lia];exact⟨.inr (.inr (.inl ∅)),by decide,by decide⟩
 ·rw[show x=76 by lia];exact⟨.inr (.inr (.inr ∅)),by decide,by decide⟩
 ·lia
section
variable{Vs:bE}{H:bg}
theorem HS:∀(x:Nat) {O:bq}{Vo:ae->ao->Prop}{j:ao}{v:aa}{u:ae}{C:Bool->ao->Prop},aa.key x v=V->dh j.heap v u->(∀c,C c j)->wpAny (aO Vs H) O (vB x u) C Vo j
 |x,O,Vo,j,.int g,u,C,_,a,e=>by
  let⟨@D,rfl⟩:=a;rw[show vB x (.int g D)=pure V from by cases x<;>rfl];exact aR (e _)
 |x,O,Vo,j,.str g,u,C,_,a,e=>by
  let⟨@D,rfl⟩:=a;rw[show vB x (.str g D)=pure aA from by cases x<;>rfl];exact aR (e _)
 |x+1,O,Vo,j,.tup E,u,C,q,a,e=>by
  let⟨h,n,VP,@l,rfl,f,k,hd,Vl⟩:=a;have m:j.TypeIs (.ref h) "tuple" := ⟨n,f,k⟩;unfold vB;refine aB (te m rU.lookup ?_);show wpAny _ _ (o3 (.ref h) >>= _) _ _ j;refine aB (lU f hd ?_);refine aB ?_;show wpAny _ _ (forIn VP _ _) _ _ j;rw[<-tv];rw[aa.key]at q;refine mH _ (λc1 s Vm=>Vm=j/\∃left,aa.keys x left=V/\dR j.heap left c1) _ ?_ ?_ _ _ ⟨rfl,E,q,Vl⟩
  ·rintro u c1 s Vm ⟨rfl,left,b,i⟩;cases left with
   |nil=>cases (show u::c1=[] from i)
   |cons v left=>
    let⟨r,@Wh,d,t,o⟩:=i;cases d;rw[aa.keys,cT]at b;refine aB (HS x b.1 t λc=>?_);cases c
    ·show wpAny _ _ (pure<|ForInStep.done _) _ _ _;exact aR (aR<|e _)
    ·show wpAny _ _ (pure<|ForInStep.yield _) _ _ _;exact aR ⟨rfl,left,b.2,o⟩
  ·rintro⟨p,w⟩ Vm ⟨rfl,W⟩;cases p with
   |none=>exact aR (e _)
   |some c=>exact aR (e _)
 |_,_,_,_,.a3,_,_,q,_,_=>by cases ‹Nat›<;>cases q
 |_,_,_,_,.av _,_,_,q,_,_=>by cases ‹Nat›<;>cases q
 |_,_,_,_,.fn _,_,_,q,_,_=>by cases ‹Nat›<;>cases q
 |_,_,_,_,.aW _,_,_,q,_,_=>by cases ‹Nat›<;>cases q
 |_,_,_,_,.fd _,_,_,q,_,_=>by cases ‹Nat›<;>cases q
 |0,_,_,_,.tup _,_,_,q,_,_=>by cases q
theorem zV:∀(x:Nat) {O:bq}{Vo:ae->ao->Prop}{j:ao}{v:aa}{u:ae}{C:Bool->ao->Prop},aa.key x v=V->dh j.heap v u->C aA j->wpAny (aO Vs H) O (wh x u) C Vo j
 |x,O,Vo,j,.int g,u,C,_,a,e=>by
  let⟨@D,rfl⟩:=a;rw[show wh x (.int g D)=pure aA from by cases x<;>rfl];exact aR e
 |x,O,Vo,j,.str g,u,C,_,a,e=>by
  let⟨@D,rfl⟩:=a;rw[show wh x (.str g D)=pure aA from by cases x<;>rfl];exact aR e
 |x+1,O,Vo,j,.tup E,u,C,q,a,e=>by
  let⟨h,n,VP,@l,rfl,f,k,hd,Vl⟩:=a;have m:j.TypeIs (.ref h) "tuple" := ⟨n,f,k⟩;unfold wh;refine aB (mE m ?_);dsimp only;rw[aF (show ("tuple" == "tuple")=V by decide)];refine aB (aR ?_);simp only[qE,hi,fN];refine aB (lU f hd ?_);dsimp only;refine aB ?_;show wpAny _ _ (forIn VP _ _) _ _ j;rw[<-tv];rw[aa.key]at q;refine mH _ (λc1 s Vm=>s.1=X/\Vm=j/\∃left,aa.keys x left=V/\dR j.heap left c1) _ ?_ ?_ _ _ ⟨rfl,rfl,E,q,Vl⟩
  ·rintro u c1 s Vm ⟨b,rfl,left,c,i⟩;cases left with
   |nil=>cases (show u::c1=[] from i)
   |cons v left=>
    let⟨p,@Wh,d,t,o⟩:=i;cases d;rw[aa.keys,cT]at c;refine aB (zV x c.1 t ?_);simp only[hi,fN];exact aR ⟨rfl,rfl,left,c.2,o⟩
  ·rintro⟨r,w⟩ Vm ⟨b,rfl,W⟩;simp only at b;subst b;exact aR e
 |_,_,_,_,.a3,_,_,q,_,_=>by cases ‹Nat›<;>cases q
 |_,_,_,_,.av _,_,_,q,_,_=>by cases ‹Nat›<;>cases q
 |_,_,_,_,.fn _,_,_,q,_,_=>by cases ‹Nat›<;>cases q
 |_,_,_,_,.aW _,_,_,q,_,_=>by cases ‹Nat›<;>cases q
 |_,_,_,_,.fd _,_,_,q,_,_=>by cases ‹Nat›<;>cases q
 |0,_,_,_,.tup _,_,_,q,_,_=>by cases q
def SQ{f:aj}{q:List aa}{C:Bool->ao->Prop}(b:(eh Vs H).is j.heap q f){Vj:List ae}(g:∀u∈Vj,∃c a,u=.ref c/\(eh Vs H).is j.heap a c)(e:C aA j):
  wpAny (aO Vs H) O (AX (.ref f) Vj) C Vo j:=by
 unfold AX;refine aB ?_;refine mH _ (λc1 s Vm=>s.1=X/\Vm=j/\∀u∈c1,∃c a,u=.ref c/\(eh Vs H).is j.heap a c) _ ?_ ?_ _ _ ⟨rfl,rfl,g⟩
 ·rintro u c1 s Vm ⟨h,rfl,k⟩;let⟨c,@a,rfl,d⟩:=k u (.head _);have l:∀u∈c1,∃c a,u=.ref c/\(eh Vs H).is Vm.heap a c:=λu g=>k u (.tail _ g);dsimp only;cases m:(f==c) with
  |true=>
   simp only[D_,iQ];exact aR ⟨rfl,rfl,l⟩
  |false=>
   simp only[DD];rw[aJ (show ¬ ((HB (ae.ref f)&&HB (ae.ref c))=V) from λi=>da i)];refine aB (vT 8 (v:=.tup _) b.1 b.2 ?_);simp only[qE,hi,fN];refine aB (vT 8 (v:=.tup _) d.1 d.2 ?_);simp only[qE,hi,fN];refine aB (zV 8 (v:=.tup _) b.1 b.2 ?_);simp only[hi,fN];refine aB (zV 8 (v:=.tup _) d.1 d.2 ?_);simp only[hi,fN];exact aR ⟨rfl,rfl,l⟩
 ·rintro⟨n,o⟩ Vm ⟨h,rfl,W⟩;simp only at h;subst h;exact aR e
end
section
variable(H:bg)(Vz:List aa->aj->Prop)
def v7(i:List aa×Int×ae):Prop:=(∃c,i.2.2=.ref c/\i.2.1=dm H (.tup i.1)/\Vz i.1 c)
structure l4(S:Array (Int×ae))(D:aS)(Wr:Bool)(P:List (List aa)):Prop where
 qi:∃Q:List (List aa×Int×ae),Q.map (·.2)=S.toList/\(Q.map (·.1)).Perm P/\∀i∈Q,v7 H Vz i
 tab:kR D Wr
 bI:pw D (S.toList.map (·.1))
 aq:P.Nodup
def fQ(e:a4)(h:aj)(Wr:Bool)(P:List (List aa)):Prop:=(∃n S VU D,e.get? h=Z n/\n.ExactSet/\n.data=.set S VU D/\l4 H Vz S D Wr P)
end
section
variable{Vs:bE}{H:bg}{Vz:List aa->aj->Prop}{O:bq}{Vo:ae->ao->Prop}
def l4.size(k:l4 H Vz S D Wr P):D.place.size=S.size:=by
 rw[k.bI.len,a8,df]
def l4.fit(k:l4 H Vz S D Wr P):D.fits S.size=V:=by
 have:=k.bI.loose;unfold aS.fits aS.fill;rw[k.tab.qs,k.size,cT,jm,gD];rw[k.size]at this;exact⟨rfl,by show S.size+0<=_;lia⟩
def l4.num(k:l4 H Vz S D Wr P):S.size=P.length:=by
 let⟨@Q,t,A,W⟩:=k.qi;rw[<-A.length_eq,a8,<-df,<-t,a8]
def Hr(s:dk w){g a r:Nat}(h:w[g]?=Z r)(c:w[a]?=Z r):g=a:=by
 rw[<-ya s h,<-ya s c]
def Pa{ay:gc}{o:Bool}{l:dD Bool}{J s:dD VM}{C:VM->ao->Prop}(t:∀a:Bool->ao->Prop,a aA j->wpAny ay O l a Vo j)(A:wpAny ay O s C Vo j):
  wpAny ay O (if o=V then (do let c <-l;if c=V then J else s) else s) C Vo j:=by
 cases o
 ·rw[aJ da];exact A
 ·rw[aF rfl];refine aB (t _ ?_);rw[aJ da];exact A
theorem Dr{h f:aj}{q:List aa}{Wr:Bool}{P:List (List aa)}{n:ba}{S:Array (Int×ae)}{VU:Nat}{D:aS}{j:ao}{C:SetFound->ao->Prop}{Q:List (List aa×Int×ae)}(bn:O.units+20<bW)(F:j.heap.get? h=Z n)(hd:n.data=.set S VU D)(k:l4 H Vz S D Wr P)(G:(eh Vs H).is j.heap q f)(I:∀p c,Vz p c->(eh Vs H).is j.heap p c)(y:Q.map (·.2)=S.toList)(J:(Q.map (·.1)).Perm P)(M:∀i∈Q,v7 H Vz i)(am:q∈P->C (.there X) j)(an:q∉P->∀dO,(cy D.mask (dm H<|.tup q) dO).j∉D.place.toList->(∀a,a<dO->(cy D.mask (dm H<|.tup q) a).j∈D.place.toList)->C (.free (cy D.mask (dm H<|.tup q) dO).j aA) j){eF:Nat}(z:(cy D.mask (dm H<|.tup q) eF).j∉D.place.toList)(bs:eF<10*aS.turns D.mask):
  ∀(fuel b:Nat) (Y:Option aS.Probe),Y.getD (D.probeStart<|dm H<|.tup q)=cy D.mask (dm H<|.tup q) b->eF<b+fuel->(∀a,a<b->(cy D.mask (dm H<|.tup q) a).j∈D.place.toList)->
   (∀(g a:Nat),a<b->D.place[g]?=Z (cy D.mask (dm H<|.tup q) a).j->(Q.map (·.1))[g]?≠Z q)->
   wpAny (aO Vs H) O (HG h (.ref f) (dm H<|.tup q) V fuel Y) C Vo j
 |0,b,Y,_,bv,B,_=>by
  refine absurd (B eF ⋯) z
 |fuel+1,b,Y,ca,bv,B,Vy=>by
  have cd:b<=eF:=by
   rcases g_ eF b with i|i
   ·exact absurd (B eF i) z
   ·exact i
  have ce:Q.length=S.size:=by rw[<-df,<-y,a8]
  have N:∀(g:Nat) (p:List aa),(Q.map (·.1))[g]?=Z p->∃d c,S[g]?=Z d/\d.2=.ref c/\d.1=dm H (.tup p)/\(eh Vs H).is j.heap p c:=λg p l=>by
   let⟨@i,ap,R⟩:=b9.mp (by rw[d3]at l;exact l);let⟨@c,m,s,w⟩:=M i (eC ap);subst R;refine⟨i.2,c,?_,m,s,I _ _ w⟩;rw[<-eE,<-y,d3,ap];rfl
  unfold HG;refine aB (kO F hd k.fit ?_);dsimp only;rw[aJ (by unfold aS.gaveWay;rw[jm];have:=k.bI.fS.pos;lia)];rw[ca];unfold aS.probe;let⟨@e,fd,as,ch⟩:=GJ k.tab.rise k.tab.qs (λg=>(S[g]?.map (·.1)).getD 0) (dm H<|.tup q) (10*aS.turns D.mask) b ⟨eF,cd,⋯,z⟩;have iv:∀a,a<e->(cy D.mask (dm H<|.tup q) a).j∈D.place.toList:=λa x=>by
   rcases g_ a b with i|i
   ·exact B a i
   ·let⟨@g,t,W⟩:=as a i x;rw[<-eE]at t;exact eC t
  have a1:∀(g a:Nat),a<e->D.place[g]?=Z (cy D.mask (dm H<|.tup q) a).j->(Q.map (·.1))[g]?≠Z q:=λg a x o l=>by
   rcases g_ a b with i|i
   ·exact Vy g a i o l
   ·let⟨@a2,t,A⟩:=as a i x;have:=Hr k.tab.rise o t;subst this;let⟨d,@c,m,w,s,T⟩:=N g q l;rw[m]at A;exact A s
  generalize bd:aS.probe.go D _ (dm H<|.tup q) _ (cy D.mask (dm H<|.tup q) b)=L;rcases ch with ⟨d,U⟩|⟨g,d,R,E,fn⟩
  ·cases bd.symm.trans d;refine aR (an (λci=>?_) e U iv);have cl:=J.mem_iff.mpr ci;let⟨@g,Vl⟩:=vC cl;let⟨d,@c,m,w,s,T⟩:=N g q Vl;have v:g<S.size:=(oo.mp m).1;have o:D.place[g]?=Z (D.place[g]'(by rw[k.size];exact v)):=jJ (by rw[k.size];exact v);have co:(D.place[g]'(by rw[k.size];exact v),dm H<|.tup q)∈D.place.toList.zip (S.toList.map (·.1)):=by
    refine eC (i:=g) ?_;rw[ug];refine⟨by rw[eE];exact o,?_⟩;rw[d3,eE,m,<-s];rfl
   let⟨@al,be,cr⟩:=k.bI.ot _ co;have cs:al<e:=by
    rcases tX al e with i|i|i
    ·exact i
    ·refine absurd ?_ U;rw[<-i,be];exact Array.getElem_mem_toList ..
    ·exact absurd (cr e i) U
   exact a1 g al cs (by rw[o,be]) Vl
  ·cases bd.symm.trans d;have v:g<Q.length:=by rw[ce,<-k.size];exact (oo.mp E).1
   have bi:(Q.map (·.1))[g]?=Z Q[g].1:=by rw[d3,dN v];rfl
   let⟨db,@c,m,w,s,T⟩:=N g _ bi;dsimp only;refine Pa (λfr p=>SQ G (λu ds=>?_) p) ?_
   ·let⟨@dL,eq,rfl⟩:=ep.mp ds;have bm:dL∈S.toList:=zh.mpr (Array.mem_filter.mp<|zh.mp eq).1;rw[<-y]at bm;let⟨@i,ev,rfl⟩:=ep.mp bm;let⟨@ex,V2,W,V8⟩:=M i ev;exact⟨ex,i.1,V2,I _ _ V8⟩
   ·let⟨f0,h8⟩:=db;cases w;rw[m];dsimp only;refine aB (f9 ((eh Vs H).eqBool (show O.units+10<bW by lia) T G ?_));refine aB (kO F hd k.fit ?_);by_cases l:Q[g].1=q
    ·rw[di l,aF<|show (V&&V)=V from rfl];exact aR (am (J.mem_iff.mp (by rw[<-l];exact vO (u0 v))))
    ·rw[dU l,aJ ∅];dsimp only;rw[show D.sameMemory D.moves D.mask=Z V by unfold aS.sameMemory;rw[aF (hW _)]];dsimp only;rw[aF rfl,R];dsimp only;rw[m];dsimp only;refine aB (wpAny_isSame_ref_self<|aB<|aR ?_);rw[aF rfl];dsimp only;rw[aJ da];refine Dr bn F hd k G I y J M am an z bs fuel (e+1) _ rfl ⋯ (λa x=>?_) λa2 a x o=>?_
     ·rcases g_ a e with i|i
      ·exact iv a i
      ·rw[show a=e by lia];rw[<-eE]at E;exact eC E
     ·rcases g_ a e with i|i
      ·exact a1 a2 a i o
      ·rw[show a=e by lia]at o;have:=Hr k.tab.rise o E;subst this;rw[bi];exact λd=>l (Option.some.inj d)
end
def ij(P:List (List aa))(q:List aa):List (List aa):=(if q∈P then P else P++[q])
section
variable{Vs:bE}{H:bg}{Vz:List aa->aj->Prop}{O:bq}{Vo:ae->ao->Prop}{j:ao}
structure p3(H:bg)(Vz:List aa->aj->Prop)(S:Array (Int×ae))(D:aS)(Wr:Bool)(P:List (List aa))(x:Nat):Prop where
 qi:∃Q:List (List aa×Int×ae),Q.map (·.2)=S.toList/\(Q.map (·.1)).Perm P/\∀i∈Q,v7 H Vz i
 tab:kR D Wr
 fS:ib D.mask
 len:D.place.size=S.size
 le:∀r∈D.place.toList,r<=D.mask
 ot:∀m∈D.place.toList.zip (S.toList.map (·.1)),lN D.mask (·∈D.place.toList) m.2 m.1
 aq:P.Nodup
 g9:S.size=x+1
 E0:x*5<D.mask*3
def p3.l8(k:p3 H Vz S D Wr P x):D.fits S.size=V:=by
 have:=k.E0;have:=k.fS.pos;unfold aS.fits aS.fill;rw[k.tab.qs,k.len,k.g9,cT,jm,gD];exact⟨rfl,by show x+1+0<=_;lia⟩
def p3.done(k:p3 H Vz S D Wr P x)(a:¬ ((x+1)*5 >= D.mask*3)):l4 H Vz S D Wr P:=
 ⟨k.qi,k.tab,⟨k.fS,by rw[k.len,a8,df],by rw[k.len,k.g9];lia,k.le,k.ot⟩,k.aq⟩
def CO{a:Array (Int×ae)}{V1:aS}(b:e.get? h=Z n)(hd:n.data=.set S VU D):
  (e.update h<|ba.putSet a V1).get? h=Z {n with data:=.set a (VU+1) V1}:=by
 have:=lE (ba.putSet a V1) b (by rw[putSet_of a V1 hd];rfl);rw[putSet_of a V1 hd]at this;exact this
theorem Ai{VM Wm:Type}(F:VM->Wm)(I:List VM)(l:List Wm)(a:I.map F=l):∀is:List Nat,(is.filterMap (I[·]?)).map F=is.filterMap (l[·]?)
 |[]=>rfl
 |g::is=>by
  subst a;rw[rn,rn,d3];cases I[g]? with
  |none=>exact Ai F I _ rfl is
  |some f=>exact congrArg (F f::·) (Ai F I _ rfl is)
def C0(I:List VM):(range I.length).filterMap (I[·]?)=I:=by
 have:=Cw I.toArray;simpa using this
def xy{S a:Array (Int × ae)}{b:aS}{Vp:Bool -> ao -> Prop}(p:j.heap.get? h=Z n)(q:n.ExactSet)(hd:n.data=.set S VU D)(y:S.size=x)(o:x+1 <= 300)(k:p3 H Vz a b Wr P x)(e : ∀Vk,a4.SameBut h j.heap Vk -> fQ H Vz Vk h Wr P -> Vp V {j with heap:=Vk}):
    wpAny (aO Vs H) O (do
        storeSet h a b
        if (!aA&&b.tooFull)=V then do
            setRelay h (aS.grown<|S.size+1)
            pure V
          else pure V) Vp Vo j:=by
  refine aB (HO p hd ?_ (by rw [k.g9]; exact dc o ∅));have f:=CO (a:=a) (V1:=b) p hd;have r:=lS j.heap h (ba.putSet a b);have s:b.tooFull=decide ((x+1)*5 >= b.mask*3):=by
    unfold aS.tooFull aS.fill;rw [k.tab.qs,k.len,k.g9];rfl
  by_cases m:(x+1)*5 >= b.mask*3
  · rw [s,di m,aF<|show (!aA&&V)=V from rfl]
    let@⟨z,A,B⟩:=O0 k.fS k.E0 m o;unfold setRelay;refine aB (aB<|kO f rfl k.l8 ?_);dsimp only;rw [y,aJ (λi => absurd (eJ i B) ∅)];let⟨V1, @c,C,t,E,F⟩:=Q6 (D:=b) (S:=a) (i:=aS.grown (x+1)) z (by rw [k.g9]; exact A) k.tab.led;rw [C];have u:(c.filterMap (a[·]?)).toList=c.toList.filterMap (a.toList[·]?):=by
      rw [xt];simp
    have G:(c.filterMap (a[·]?)).toList.Perm a.toList:=by
      rw [u];refine (t.filterMap _).trans ?_;rw [<-df,C0]
    have v:(c.filterMap (a[·]?)).size=a.size:=by rw [<-df,G.length_eq,df]
    refine aB (m:=if ((c.filterMap (a[·]?)).size != a.size)=V then _ else _) ?_;rw [v,aJ ↥0];refine aR ?_;dsimp only;refine HO f rfl ?_ (by rw [v,k.g9]; exact dc o ∅);refine aR (e _ (r.trans<|lS _ h _) ⟨_,_,_,_,CO f rfl,q,rfl, ?_,E,F,k.aq⟩);let⟨@Q,w,I,J⟩:=k.qi;refine ⟨c.toList.filterMap (Q[·]?), ?_, ?_,λi L => ?_⟩
    · rw [u]
      exact Ai (·.2) Q _ w _
    · refine (tB _ ?_).trans I
      refine (t.filterMap _).trans ?_;rw [show a.size=Q.length by rw [<-df, <-w,a8],C0]
    · let⟨@g,W,d⟩:=tj.mp L
      exact J i (eC d)
  · rw [s,dU m,aJ (show ¬ ((!aA&&aA)=V) from by decide)]
    refine aR (e _ r ⟨_,_,_,_,f,q,rfl,k.done m⟩)
def Nw{f:aj}{q:List aa}{C:Bool->ao->Prop}(G:O.units+20<bW)(VD:fQ H Vz j.heap h Wr P)(o:(eh Vs H).is j.heap q f)(I:Vz q f)(J:∀p c,Vz p c->(eh Vs H).is j.heap p c)(L:P.length+1<=300)(e:∀c Vk,a4.SameBut h j.heap Vk->fQ H Vz Vk h Wr (ij P q)->C c {j with heap:=Vk}):
  wpAny (aO Vs H) O (setAddHashed h (.ref f)<|dm H<|.tup q) C Vo j:=by
 let⟨n,S,VU,@D,a,l,hd,k⟩:=VD;have a1:=k;let⟨@Q,x,y,A⟩:=k.qi;let⟨@eF,B,M⟩:=k.bI.some (dm H<|.tup q);have a2:=k.bI.fS.pos;unfold setAddHashed setAddHashedIn;refine f9 (aB<|kO a hd k.fit ?_);dsimp only;rw[aJ (show ¬ (byScan (ae.ref f) S=V) from λi=>da i)];unfold setSearch;refine aB (Dr G a hd k o J x y A (λm=>?_) (λm dO E N=>?_) M B 100000 0 X rfl (by unfold aS.turns at B;lia) (λR i=>absurd i<|r5 _) λg R i=>absurd i<|r5 _)
 ·refine aR ?_;have d:j={j with heap:=j.heap}:=by cases j;rfl
  rw[d];refine e _ _ (a4.SameBut.refl h j.heap) ?_;rw[ij,aF m];exact⟨n,S,VU,D,a,l,hd,k⟩
 ·dsimp only;refine aB (kO a hd k.fit ?_);dsimp only;let@⟨T,Wj⟩:=k.bI.put (e:=dm H (.tup q)) E N;have U:¬ (D.place[aS.below D.place (cy D.mask (dm H<|.tup q) dO).j]?=Z (cy D.mask (dm H<|.tup q) dO).j):=λi=>E (by rw[<-eE]at i;exact eC i);have al:=k.tab.put U;have s:∀c:Bool,p3 H Vz (aS.insertAt S (D.put (cy D.mask (dm H<|.tup q) dO).j).2 (dm H<|.tup q,.ref f)) { (D.put (cy D.mask (dm H<|.tup q) dO).j).1 with plain:=c} Wr (P++[q]) S.size:=λc=>by
   have t:(aS.insertAt S (D.put (cy D.mask (dm H<|.tup q) dO).j).2 (dm H<|.tup q,ae.ref f)).toList=_:=wx _ _ _;have am:(D.put (cy D.mask (dm H<|.tup q) dO).j).1.place.toList=_:=wx _ _ _;have F:(aS.insertAt S (D.put (cy D.mask (dm H<|.tup q) dO).j).2 (dm H<|.tup q,ae.ref f)).size=S.size+1:=by
    rw[<-df,t,dd,dn,gN,hc,df];lia
   refine⟨⟨Q.take (D.put (cy D.mask (dm H<|.tup q) dO).j).2++(q,dm H<|.tup q,.ref f)::Q.drop (D.put (cy D.mask (dm H<|.tup q) dO).j).2,?_,?_,λi b=>?_⟩,al.MA c,k.bI.fS,?_,T,?_,?_,F,?_⟩
   ·rw[t,<-x,fi,b4,jx,jq]
   ·rw[fi,b4,jx,jq];refine List.perm_middle.trans ?_;rw[fz];exact (y.cons q).trans (c6 (l₁:=[q]))
   ·rcases sU.mp b with rfl|b
    ·exact⟨f,rfl,rfl,I⟩
    ·exact A i b
   ·show (D.put (cy D.mask (dm H<|.tup q) dO).j).1.place.size=_;rw[F,<-df,am,dd,dn,gN,hc,df,k.size];lia
   ·rw[t,fi,b4,jx,jq];exact Wj
   ·exact cO.mpr ⟨k.aq,eB _ q,λz an i b=>by cases cb.mp b;exact λd=>m<|d ▸ an⟩
   ·have:=k.bI.loose;rw[k.size]at this;exact this
  have u:∀Vk,a4.SameBut h j.heap Vk->fQ H Vz Vk h Wr (P++[q])->C V {j with heap:=Vk}:=λVk ap as=>e V Vk ap (by rw[ij,aJ m];exact as);have w:S.size+1<=300:=by rw[k.num];exact L
  split
  ·refine aB (HS 8 (v:=.tup q) o.1 o.2 λc=>?_);cases c
   ·exact xy a l hd rfl w (s aA) u
   ·exact xy a l hd rfl w (s _) u
  ·refine aB (aR ?_);exact xy a l hd rfl w (s _) u
end
def h4(H:bg):Bool:=(!H.params.followText "set-order")
def lh(Wr:Bool):ba:=({cls:=.type "set",dict:=X,data:=.set #[] 0 (.fresh 0 0 Wr)})
def PS:isSubtype (.type "tuple") (.type "set")=pure aA:=by rw[sV];kernel_rfl
def Jm:isSubtype (.type "tuple") (.type "frozenset")=pure aA:=by rw[sV];kernel_rfl
section
variable{Vs:bE}{H:bg}{O:bq}{Vo:ae->ao->Prop}{j:ao}
def LI(h:ae){a:ae->ao->Prop}(e:a (.ref j.heap.objs.size) {j with heap:=j.heap.push (lh<|h4 H)}):
  codeAny (aO Vs H) O (.call (.builtin "set.__new__") ⟨[.type "set",h],[]⟩) (wants a Vo) j:=by
 refine E1 ?_;show wpAny _ O.in1 (do checkBuiltinCall "set.__new__" ⟨[.type "set",h],[]⟩;again (.builtin "set.__new__" ⟨[.type "set",h],[]⟩)) _ _ j;refine aB (vb (PySem.F.newCall_set_1 h)<|aR ⟨jQ EK _,jN PySem.F.entry_set_new ?_⟩);rw[k6 EK _];unfold bH.«set.__new__» bH.Frozenset.newClass;have b:=sub_set_self;let⟨c,L,v,Vq,VI⟩:=j;dsimp only
 wp_walk
 refine yX (aR ?_);dsimp only;simp only[newObj];refine aB (yu<|aR ?_);exact aR e
end
abbrev et:=Sum Int az
def pV:et->ae->Bool
 |.inl q,u=>ae.isInt q u
 |.inr f,u=>ae.isStrOf f u
def TZ(H:bg):et->Int
 |.inl q=>hashInt q
 |.inr f=>hashStr H f
theorem lJ:∀{q:et}{u:ae},pV q u=V->(∃g D,q=Sum.inl g/\u=ae.int g D)\/(∃f D,q=Sum.inr f/\u=ae.str f D)
 |.inl g,u,e=>by
  let⟨@D,d⟩:=ae.isInt_shape (k:=g) (v:=u) e;exact .inl ⟨g,D,rfl,d⟩
 |.inr f,u,e=>by
  let⟨@D,d⟩:=ae.isStrOf_shape (x:=f) (v:=u) e;exact .inr ⟨f,D,rfl,d⟩
def Qz(g:Int)(D:hX):pV (.inl g) (.int g D)=V:=by simp[pV,ae.isInt]
def Tx(f:az)(D:hX):pV (.inr f) (.str f D)=V:=by simp[pV,ae.isStrOf]
def Us(h c:Int):decide ((Sum.inl h:et)=Sum.inl c)=(h==c):=by
 by_cases d:h=c
 ·subst d;simp
 ·have e:¬ (Sum.inl h:et)=Sum.inl c:=λp=>d (Sum.inl.inj p);rw[dU e];exact (mi.mpr d).symm
def OI(h c:az):decide ((Sum.inr h:et)=Sum.inr c)=decide (h=c):=by
 by_cases d:h=c
 ·subst d;simp
 ·have e:¬ (Sum.inr h:et)=Sum.inr c:=λp=>d (Sum.inr.inj p);rw[dU e,dU d]
def SX(h:Int)(c:az):decide ((Sum.inl h:et)=Sum.inr c)=aA:=dU (λp=>nomatch p)
def Sn(h:az)(c:Int):decide ((Sum.inr h:et)=Sum.inl c)=aA:=dU (λp=>nomatch p)
def mn(Vs:bE)(H:bg):PySem.KeyKind Vs H et where
 is:=pV
 hash:=TZ H
 inj:=λu h c j i=>by
  rcases lJ j with ⟨g,D,rfl,rfl⟩|⟨f,D,rfl,rfl⟩
  ·rcases lJ i with ⟨r,J,rfl,d⟩|⟨z,J,rfl,d⟩
   ·injection d with a _;rw[a]
   ·exact nomatch d
  ·rcases lJ i with ⟨r,J,rfl,d⟩|⟨z,J,rfl,d⟩
   ·exact nomatch d
   ·injection d with a _;rw[a]
 byValue:=λq u e=>by
  rcases lJ e with ⟨g,D,rfl,rfl⟩|⟨f,D,rfl,rfl⟩<;>rfl
 pyHash:=λb e=>by
  rcases lJ b with ⟨g,D,rfl,rfl⟩|⟨f,D,rfl,rfl⟩
  ·exact F8 e
  ·exact G_ e
 eqBool:=λk b e=>by
  rcases lJ k with ⟨g,D,rfl,rfl⟩|⟨f,D,rfl,rfl⟩
  ·rcases lJ b with ⟨r,J,rfl,rfl⟩|⟨z,J,rfl,rfl⟩
   ·rw[Us]at e;exact wpAny_eqBool_int e
   ·rw[SX]at e;exact Hy g D z J _ _ _ _ e
  ·rcases lJ b with ⟨r,J,rfl,rfl⟩|⟨z,J,rfl,rfl⟩
   ·rw[Sn]at e;exact Bs f D r J _ _ _ _ e
   ·rw[OI]at e;exact wpAny_eqBool_str e
 «strs»:=λq f D u e=>by
  rcases lJ e with ⟨g,J,rfl,d⟩|⟨z,J,rfl,d⟩
  ·exact nomatch d
  ·injection d with a _;subst a;cases u<;>rfl
def JB(Vs:bE)(H:bg)(g:Int)(D:hX):(mn Vs H).is (.inl g) (.int g D)=V:=Qz g D
def Iq(Vs:bE)(H:bg)(f:az)(D:hX):(mn Vs H).is (.inr f) (.str f D)=V:=Tx f D
inductive au where
 | a3|av (c:Bool)|int (g:Int)|str (f:az)|pS (c:Array UInt8)|v8 (c:UInt64)|ref (h:aj)|ty (x:String)
 deriving DecidableEq
variable{Vj:List au}{z u:au}
def ck:au->ae->Prop
 |.a3,J=>J=ae.none
 |.av c,J=>J=ae.bool c
 |.int g,J=>∃D,J=ae.int g D
 |.str f,J=>∃D,J=ae.str f D
 |.pS c,J=>∃D,J=ae.bytes c D
 |.v8 c,J=>∃D,J=ae.float c D
 |.ref h,J=>J=ae.ref h
 |.ty x,J=>J=ae.type x
abbrev bY:List au->List ae->Prop:=dE ck
def bY.length{w:List au}(s:bY w VH):w.length=VH.length:=dE.length s
theorem bY.get:∀{w:List au}{VH:List ae}{g:Nat}{f:au},bY w VH->w[g]?=Z f->∃J,VH[g]?=Z J/\ck f J
 |_,_,_,_,.nil,d=>by simp at d
 |_,_,0,_,.cons s _,d=>by simp at d;subst d;exact⟨_,rfl,s⟩
 |_,_,g+1,f,.cons _ D,d=>by
  let⟨@J,t,A⟩:=bY.get (g:=g) (f:=f) D ⇑d;exact⟨J,by simpa using t,A⟩
theorem bY.set{f:au}{J:ae}(s:ck f J):∀{w:List au}{VH:List ae} (g:Nat),bY w VH->bY (w.set g f) (VH.set g J)
 |_,_,_,.nil=>.nil
 |_,_,0,.cons _ D=>.cons s D
 |_,_,g+1,.cons p D=>.cons p (bY.set s g D)
theorem bY.append:∀{w VJ:List au}{VH a:List ae},bY w VH->bY VJ a->bY (w++VJ) (VH++a)
 |_,_,_,_,.nil,j=>j
 |_,_,_,_,.cons s D,j=>.cons s (bY.append D j)
theorem bY.take:∀{w:List au}{VH:List ae} (x:Nat),bY w VH->bY (w.take x) (VH.take x)
 |_,_,0,_=>.nil
 |_,_,_+1,.nil=>.nil
 |_,_,x+1,.cons s D=>.cons s (bY.take x D)
theorem bY.drop:∀{w:List au}{VH:List ae} (x:Nat),bY w VH->bY (w.drop x) (VH.drop x)
 |_,_,0,s=>s
 |_,_,_+1,.nil=>.nil
 |_,_,x+1,.cons _ D=>bY.drop x D
def hF:Option au->Option ae->Prop
 |some u,Z J=>ck u J
 |none,X=>True
 |_,_=>False
def gf{VO:Type}:List (VO×au)->List (VO×ae)->Prop:=(dE λ(m:VO×au) (p:VO×ae)=>m.1=p.1/\ck m.2 p.2)
def b6:et->au
 |.inl g=>.int g
 |.inr f=>.str f
inductive eV where
 | lst (w:List au)
 | tup (w:List au)
 | dJ (Vx:List (et×au))|aw (Vx:List (List aa×au))
 | set (VD:Int->Bool) (x:Nat)
 | ins (ab V6:aj) (ah:List (az×au))
 | own (f:aj)
 | xP (ah:List (az×au))
 | met (F f:aj)
 | lZ (M Vl:Int)
 | cV (n:ba) (J:eV)
 | oa (Vw:Array ae)
 | ext (Vg:a4->Prop)
abbrev aD:=aj->Option eV
variable{T b:aD}
def upd(b:aD)(h:aj)(n:eV):aD:=(λc=>if c=h then Z n else b c)
def d_{n:eV}:upd b h n h=Z n:=by unfold upd;rw[aF rfl]
def cz{n:eV}(e:c≠h):upd b h n c=b c:=by unfold upd;rw[aJ e]
def zQ{n J:eV}(e:b h=Z n)(Vk:b c=Z J)(v:n≠J):h≠c:=by
 intro d;subst d;rw[e]at Vk;exact v (Option.some.inj Vk)
def j7{n:eV}(e:b h=Z n)(Vk:b c=X):h≠c:=by
 intro d;subst d;rw[e]at Vk;cases Vk
mutual
def cC(b:aD):aa->au->Prop
 |.a3,u=>u=.a3
 |.av c,u=>u=.av c
 |.int g,u=>u=.int g
 |.str f,u=>u=.str f
 |.fn h,u=>u=.ref h
 |.aW E,u=>∃h w n,u=.ref h/\b h=Z (.cV n<|.lst w)/\bM b E w
 |.fd l,u=>∃h n M,u=.ref h/\b h=Z (.cV n<|.aw M)/\M=l.map λm=>([aa.int m.1.1,aa.int m.1.2],au.int m.2)
 |.tup E,u=>∃h w,u=.ref h/\b h=Z (.tup w)/\bM b E w
def bM(b:aD):List aa->List au->Prop
 |[],Vj=>Vj=[]
 |v::E,Vj=>∃u s,Vj=u::s/\cC b v u/\bM b E s
end
def qp(b T:aD):Prop:=(∀h w,b h=Z (.tup w)->T h=Z (.tup w))
structure pj(b T:aD):Prop where
 t:qp b T
 z:∀h n J,b h=Z (.cV n J)->T h=Z (.cV n J)
noncomputable instance {b T:aD}:CoeFun (pj b T) (λ_=>∀h w,b h=Z (.tup w)->T h=Z (.tup w)):=⟨λD=>D.t⟩
mutual
theorem cC.mono{b T:aD}(q:pj b T):∀{v:aa}{u:au},cC b v u->cC T v u
 |.a3,_,d=>d
 |.av _,_,d=>d
 |.int _,_,d=>d
 |.str _,_,d=>d
 |.fn _,_,d=>d
 |.tup E,_,d=>by
  let⟨h,@w,rfl,t,A⟩:=d;exact⟨h,w,rfl,q.t h w t,bM.mono q A⟩
 |.aW E,_,d=>by
  let⟨h,w,@n,rfl,t,A⟩:=d;exact⟨h,w,n,rfl,q.z h _ _ t,bM.mono q A⟩
 |.fd l,_,d=>by
  let⟨h,n,@M,rfl,t,A⟩:=d;exact⟨h,n,M,rfl,q.z h _ _ t,A⟩
theorem bM.mono{b T:aD}(q:pj b T):∀{E:List aa}{Vj:List au},bM b E Vj->bM T E Vj
 |[],_,d=>d
 |v::E,_,d=>by
  let⟨u,@s,rfl,t,A⟩:=d;exact⟨u,s,rfl,cC.mono q t,bM.mono q A⟩
end
def g6(b:aD)(q:List aa)(c:aj):Prop:=(aa.keys 7 q=V/\cC b (.tup q) (.ref c))
mutual
theorem cC.qe{b T:aD}(q:qp b T):∀{v:aa}{x:Nat}{u:au},aa.key x v=V->cC b v u->cC T v u
 |.a3,_,_,_,d=>d
 |.av _,_,_,_,d=>d
 |.int _,_,_,_,d=>d
 |.str _,_,_,_,d=>d
 |.fn _,_,_,_,d=>d
 |.tup E,x+1,_,p,d=>by
  let⟨h,@w,rfl,t,A⟩:=d;exact⟨h,w,rfl,q h w t,bM.qe q p A⟩
 |.tup E,0,_,p,d=>nomatch p
 |.aW E,0,_,p,d=>nomatch p
 |.aW E,x+1,_,p,d=>nomatch p
 |.fd _,0,_,p,d=>nomatch p
 |.fd _,x+1,_,p,d=>nomatch p
theorem bM.qe{b T:aD}(q:qp b T):∀{E:List aa}{x:Nat}{Vj:List au},aa.keys x E=V->bM b E Vj->bM T E Vj
 |[],_,_,_,d=>d
 |v::E,x,_,p,d=>by
  let⟨u,@s,rfl,t,A⟩:=d;rw[aa.keys,cT]at p;exact⟨u,s,rfl,cC.qe q p.1 t,bM.qe q p.2 A⟩
end
def g6.mono{q:List aa}(e:g6 b q c)(D:qp b T):g6 T q c:=by
 let@⟨a,⟨h,@w,d,t,A⟩⟩:=e;exact⟨a,h,w,d,D h w t,A.qe D a⟩
def mz(e:a4)(h:aj)(VP:Array ae):Prop:=(∃n,e.get? h=Z n/\(n.cls,n.dict)=(.type "tuple",X)/\∃x,n.data=.seq VP x)
def mz.tup{VP:Array ae}(f:mz e h VP):oz e h VP:=let ⟨n,d,o,s⟩:=f;⟨n,d,(Prod.mk.inj o).1,s⟩
def mz.new(e:a4)(VP:Array ae):mz (e.push {cls:=.type "tuple",data:=.seq VP}) e.objs.size VP:=⟨_,dM _ rfl,rfl,_,rfl⟩
section
variable(Vz:bE)(H:bg)
def eb(b:aD)(e:a4)(h:aj):eV->Prop
 |.lst w=>w.length<=sizeLine/\∃(VA:List ae) (x:Nat),bY w VA/\e.get? h=Z {cls:=.type "list",data:=.seq VA.toArray x}
 |.tup w=>w.length<=sizeLine/\∃VA:List ae,bY w VA/\mz e h VA.toArray
 |.dJ Vx=>Vx.length<=sizeLine/\(h==iX)=aA/\∃Vj,gf Vx Vj/\e.DictOf (mn Vz H) h Vj
 |.aw Vx=>Vx.length<=sizeLine/\(h==iX)=aA/\∃w:List (List aa×aj×ae),
   dE (λ(m:List aa×au) (p:List aa×aj×ae)=>m.1=p.1/\g6 b m.1 p.2.1/\ck m.2 p.2.2) Vx w/\
   ∃n S VU,e.get? h=Z n/\n.ExactDict/\n.data=.dict S VU/\S.toList=w.map (xY<|eh Vz H)/\(w.map (·.1)).Nodup
 |.set VD x=>e.SetOf (intKind Vz H) h VD x
 |.ins ab V6 ah=>b V6=Z (.own h)/\ah.length<=1000/\V6≠h/\e.get? h=Z (Γ ab V6)/\
   ∃Wx,e.Ns1 V6 Wx/\(∀F,hF (ah.lookup F)<|Wx F)/\PySem.Within Wx (ah.map (·.1))
 |.own _=>∃n,e.get? h=Z n
 |.xP ah=>∃Wx,e.Ns1 h Wx/\∀F,hF (ah.lookup F) (Wx F)
 |.lZ M Vl=>∃D J u,e.get? h=Z {cls:=.type "range",data:=.fields #[.int M D,.int Vl J,.int 1 u]}
 |.cV n J=>e.get? h=Z n/\eb b e h J
 |.oa Vw=>e.get? h=Z {cls:=.none,data:=.fields Vw}
 |.met F f=>e.get? h=Z (Φe (.ref F)<|.ref f)
 |.ext a=>a e/\(∃n,e.get? h=Z n)/\∀t A:a4,a t->(∀n,t.get? h=Z n->A.get? h=Z n)->a A
def ea(b:aD)(e:a4):Prop:=(∀h n,b h=Z n->eb Vz H b e h n)
end
section
variable{Vz:bE}{H:bg}{b T:aD}{e Vk:a4}{h:aj}{n:eV}
def eb.lt(f:eb Vz H b e h n):h<e.objs.size:=by
 cases n with
 |lst w=>let@⟨_,⟨_,@_,_,d⟩⟩:=f;exact cA d
 |tup w=>let@⟨_,⟨@_,_,m⟩⟩:=f;exact m.tup.lt
 |dJ Vx=>let@⟨_,_,⟨@_,_,⟨n,_,@_,d,_⟩⟩⟩:=f;exact cA d
 |aw Vx=>let@⟨_,_,⟨@_,_,⟨n,_,@_,d,_⟩⟩⟩:=f;exact cA d
 |set VD x=>let⟨n,W,W,@W,d,W⟩:=f;exact cA d
 |ins ab V6 ah=>let@⟨_,_,_,d,_⟩:=f;exact cA d
 |own z=>let⟨@W,d⟩:=f;exact cA d
 |xP ah=>let⟨@W,⟨W,W,@W,d,W⟩,W⟩:=f;exact cA d
 |lZ M Vl=>let⟨W,W,@W,d⟩:=f;exact cA d
 |cV aQ J=>let@⟨d,_⟩:=f;exact cA d
 |oa Vw=>exact cA (show e.get? h=Z _ from f)
 |met F z=>exact cA (show e.get? h=Z _ from f)
 |ext a=>let@⟨_,⟨@_,d⟩,_⟩:=f;exact cA d
theorem dE.vE{VM Wm:Type}{N Q:VM->Wm->Prop}:∀{a:List VM}{b:List Wm},dE N a b->(∀h c,N h c->Q h c)->dE Q a b
 |_,_,.nil,_=>.nil
 |_,_,.cons s D,F=>.cons (F _ _ s) (dE.vE D F)
def eb.js(f:eb Vz H b e h n)(q:∀c J,(c=h\/b c=Z (.own h))->e.get? c=Z J->Vk.get? c=Z J)(a:∀c,b c=Z (.own h)->T c=Z (.own h))(bI:∀c w,b c=Z (.tup w)->T c=Z (.tup w)):eb Vz H T Vk h n:=by
 induction n with
 |lst w=>let@⟨i,⟨VA,@x,s,d⟩⟩:=f;exact⟨i,VA,x,s,q _ _ (.inl rfl) d⟩
 |tup w=>let@⟨i,⟨@VA,s,⟨@aQ,d,o⟩⟩⟩:=f;exact⟨i,VA,s,aQ,q _ _ (.inl rfl) d,o⟩
 |dJ Vx=>let@⟨i,z,⟨@Vj,s,⟨aQ,S,@VU,d,o⟩⟩⟩:=f;exact⟨i,z,Vj,s,aQ,S,VU,q _ _ (.inl rfl) d,o⟩
 |aw Vx=>
  let@⟨i,z,⟨@w,s,⟨aQ,S,@VU,d,o⟩⟩⟩:=f;exact⟨i,z,w,dE.vE s λm p i=>⟨i.1,i.2.1.mono bI,i.2.2⟩,aQ,S,VU,q _ _ (.inl rfl) d,o⟩
 |set VD x=>let⟨aQ,S,VU,@D,d,o⟩:=f;exact⟨aQ,S,VU,D,q _ _ (.inl rfl) d,o⟩
 |ins ab V6 ah=>
  let@⟨v,i,ne,d,⟨@Wx,⟨WI,S,@VU,g,o⟩,s⟩⟩:=f;exact⟨a _ v,i,ne,q _ _ (.inl rfl) d,Wx,⟨WI,S,VU,q _ _ (.inr v) g,o⟩,s⟩
 |own z=>let⟨@aQ,d⟩:=f;exact⟨aQ,q _ _ (.inl rfl) d⟩
 |xP ah=>let⟨@Wx,⟨WI,S,@VU,d,o⟩,s⟩:=f;exact⟨Wx,⟨WI,S,VU,q _ _ (.inl rfl) d,o⟩,s⟩
 |lZ M Vl=>let⟨D,J,@u,d⟩:=f;exact⟨D,J,u,q _ _ (.inl rfl) d⟩
 |cV aQ J j=>let@⟨d,p⟩:=f;exact⟨q _ _ (.inl rfl) d,j p⟩
 |oa Vw=>
  have d:e.get? h=Z {cls:=.none,data:=.fields Vw}:=f;show Vk.get? h=Z {cls:=.none,data:=.fields Vw};exact q h _ (.inl rfl) d
 |met F z=>
  have d:e.get? h=Z (Φe (.ref F)<|.ref z):=f;show Vk.get? h=Z (Φe (.ref F)<|.ref z);exact q h _ (.inl rfl) d
 |ext k=>let@⟨m,⟨@n,d⟩,Y⟩:=f;exact⟨Y _ _ m λn p=>q _ _ (.inl rfl) p,⟨n,q _ _ (.inl rfl) d⟩,Y⟩
theorem ea.lt(f:ea Vz H b e)(d:b h=Z n):h<e.objs.size:=(f h n d).lt
def ea.fresh(f:ea Vz H b e)(d:e.objs.size<=h):b h=X:=by
 cases p:b h with
 |none=>rfl
 |some J=>exact absurd (eJ (f.lt p) d) (iM _)
def ea.kept(f:ea Vz H b e)(q:∀c J,e.get? c=Z J->Vk.get? c=Z J):ea Vz H b Vk:=λh n d=>
 (f h n d).js (λc J W p=>q c J p) (λ_ p=>p) λ_ W p=>p
def ea.laid(f:ea Vz H b e)(q:∀c J,e.get? c=Z J->Vk.get? c=Z J)(i:e.objs.size<=h)(new:eb Vz H (upd b h n) Vk h n):ea Vz H (upd b h n) Vk:=λc J d=>by
 have a:=f.fresh i;by_cases g:c=h
 ·subst g;rw[d_]at d;cases d;exact new
 ·rw[cz g]at d;exact (f c J d).js (λo u W p=>q o u p) (λo p=>by rw[cz (j7 p a)];exact p) λo w p=>by rw[cz (j7 p a)];exact p
end
def jw(b:aD)(h:aj)(J:eV):Prop:=(b h=Z J\/∃n,b h=Z (.cV n J))
def jw.ok{J:eV}(s:jw b h J)(f:ea Vz H b e):eb Vz H b e h J:=by
 rcases s with s|⟨n,s⟩
 ·exact f h J s
 ·let@⟨_,p⟩:=f h _ s;exact p
def ro:Option eV->Prop
 |some (.lst _)=>True
 |some (.dJ _)=>True
 |some (.aw _)=>True
 |some (.set _ _)=>True
 |some (.ins _ _ _)=>True
 |some (.ext _)=>True
 |_=>False
section
variable{Vz:bE}{H:bg}{b:aD}{e Vk:a4}{f d:aj}{V4:eV}
def ea.write(ok:ea Vz H b e)(a:ro (b f))(k:d=f\/b d=Z (.own f))(q:∀c J,c≠d->e.get? c=Z J->Vk.get? c=Z J)(n:∃J,Vk.get? d=Z J)(new:eb Vz H (upd b f V4) Vk f V4):ea Vz H (upd b f V4) Vk:=λc J p=>by
 have l:∀o z,b o=Z (.own z)->o≠f:=λo z s i=>by subst i;rw[s]at a;exact a
 have r:∀o w,b o=Z (.tup w)->o≠f:=λo w s i=>by subst i;rw[s]at a;exact a
 by_cases g:c=f
 ·subst g;rw[d_]at p;cases p;exact new
 ·rw[cz g]at p;by_cases h:c=d
  ·have m:b c=Z (.own f):=by
    rcases k with i|i
    ·exact absurd (h.trans i) g
    ·rw[h];exact i
   rw[p]at m;cases m;let⟨@u,t⟩:=n;exact⟨u,by rw[h];exact t⟩
  ·refine (ok c J p).js (λo u j s=>q o u ?_ s) (λo s=>by rw[cz (l o c s)];exact s) λo w s=>by rw[cz (r o w s)];exact s
   rcases j with rfl|j
   ·exact h
   ·rintro rfl;rcases k with i|i
    ·exact l o c j i
    ·rw[j]at i;cases i;exact g rfl
end
structure fm(ah Wg:List aj)(b T:aD)(e Vk:a4):Prop where
 keep:∀c n,e.get? c=Z n->b c=X->c∉ah->c∉Wg->Vk.get? c=Z n
 slot:∀c n,e.get? c=Z n->b c=X->c∈ah->c∉Wg->∃bo,Vk.get? c=Z {n with slots:=bo}
 free:∀c n,e.get? c=Z n->b c=X->c∉Wg->T c=X
 jd:∀c n w,e.get? c=Z n->b c=Z (.tup w)->c∉Wg->Vk.get? c=Z n
 there:∀c n,e.get? c=Z n->c∉Wg->∃V4,Vk.get? c=Z V4
 i4:∀c w,b c=Z (.tup w)->T c=Z (.tup w)
 iT:∀c n J,b c=Z (.cV n J)->T c=Z (.cV n J)
 kS:∀c Vw,b c=Z (.oa Vw)->∃more,T c=Z (.oa<|Vw++more)
section
variable{ah k Wg a:List aj}{b Vt VF:aD}{e t A Vk:a4}{h f d:aj}{n:eV}
def fm.any(J:fm ah Wg b Vt e t){c:aj}{aQ:ba}(p:e.get? c=Z aQ)(x:b c=X)(a:c∉Wg):∃bo,t.get? c=Z {aQ with slots:=bo}:=by
 by_cases d:c∈ah
 ·exact J.slot c aQ p x d a
 ·exact⟨aQ.slots,J.keep c aQ p x d a⟩
def fm.kept(q:∀c J,e.get? c=Z J->Vk.get? c=Z J):fm ah Wg b b e Vk:=
 ⟨λc aQ p W W W=>q c aQ p,λc aQ p W W W=>⟨aQ.slots,q c aQ p⟩,λ_ W W x W=>x,λc aQ W p W W=>q c aQ p,λc aQ p W=>⟨aQ,q c aQ p⟩,λ_ W p=>p,λ_ W W p=>p,λ_ Vw p=>⟨#[],by rw[p];simp⟩⟩
def fm.refl:fm ah Wg b b e e:=fm.kept λ_ W p=>p
theorem fm.laid(q:∀c J,e.get? c=Z J->Vk.get? c=Z J)(d:e.objs.size<=h)(a:b h=X):fm ah Wg b (upd b h n) e Vk where
 keep:=λc J p W W W=>q c J p
 slot:=λc J p W W W=>⟨J.slots,q c J p⟩
 free:=λc J p x W=>by rw[cz (c0<|eJ (cA p) d)];exact x
 jd:=λc J W p W W=>q c J p
 there:=λc J p W=>⟨J,q c J p⟩
 i4:=λc w p=>by rw[cz (j7 p a)];exact p
 iT:=λc J w p=>by rw[cz (j7 p a)];exact p
 kS:=λc Vw p=>⟨#[],by rw[cz (j7 p a),p];simp⟩
def fm.write(a:ro (b f))(h:d=f\/b d=Z (.own f))(q:∀c J,c≠d->e.get? c=Z J->Vk.get? c=Z J)(m:∃J,Vk.get? d=Z J):fm ah Wg b (upd b f n) e Vk:=by
 have j:∀c,b c=X->c≠f:=λc x i=>by subst i;rw[x]at a;exact a
 have k:∀c,b c=X->c≠d:=λc x i=>by
  subst i;rcases h with s|s
  ·exact j c x s
  ·rw[x]at s;cases s
 have g:∀c J,b c=Z J->¬ ro (Z J)->c≠f:=λc J p E i=>by subst i;rw[p]at a;exact E a
 refine⟨λc J p x W W=>q c J (k c x) p,λc J p x W W=>⟨J.slots,q c J (k c x) p⟩,λc J p x W=>by rw[cz (j c x)];exact x,λc J w p D W=>q c J (λi=>by
   subst i;rcases h with s|s
   ·exact g c _ D (λi=>i) s
   ·rw[D]at s;cases s) p,λc J p W=>?_,
  λc w p=>by rw[cz (g c _ p λi=>i)];exact p,λc J w p=>by rw[cz (g c _ p λi=>i)];exact p,λc Vw p=>⟨#[],by rw[cz (g c _ p λi=>i),p];simp⟩⟩
 by_cases l:c=d
 ·subst l;exact m
 ·exact⟨J,q c J l p⟩
end
def uX(e:a4)(b:aD):List aj:=((range e.objs.size).filter λh=>(b h).isSome)
def BJ:List ae->Option (List au)
 |[.int g _,.int r _]=>Z [.int g,.int r]
 |_=>X
def sI(n:ba):Option (List au):=(
 match n.cls,n.dict,n.data with
 | .type "tuple",X,.seq VA _=>BJ VA.toList
 |_,_,_=>X)
def ky(n:ba):Option eV:=((sI n).map .tup)
def mg(e:a4)(b:aD):a4:=(PySem.W.hideAll e (uX e b))
def JQ(e:a4)(b:aD):(mg e b).objs.size=e.objs.size:=PySem.W.hideAll_size _ _
def JM(d:e.get? c=Z n)(x:b c=X):(mg e b).get? c=Z n:=
 PySem.W.hideAll_get _ d λa=>by
  have p:(b c).isSome=V:=(n9.mp a).2;rw[x]at p;simp at p
def zl(d:(mg e b).get? c=Z n):e.get? c=Z n/\b c=X:=by
 have a:e.get? c=Z n:=PySem.W.of_hideAll (uX e b) d;refine⟨a,?_⟩;cases p:b c with
 |none=>rfl
 |some f=>
  have g:c∈uX e b:=n9.mpr ⟨gI.mpr<|cA a,by simp[p]⟩;have i:(mg e b).get? c=X:=PySem.W.hideAll_none (uX e b) g;rw[i]at d;cases d
def Rn(L e:a4)(E:aj):List (aj×ba):=((range e.objs.size).filterMap λh=>if h=E\/(L.get? h).isSome=V then X else (e.get? h).map λn=>(h,n))
def c1(L e:a4)(E v:aj):List (aj×ba):=((Rn L e E).filter λm=>decide (m.1≠v))
structure Mod(R:Φ)(aU:az->Option ae)(VB:a4):Prop where
 qF:R.In VB
 glob:VB.Ns fw aU
 blt:∃Bh,VB.Ns v_ Bh/\∀f:az,f ≠ "__name__" -> Bh f=iA f
 nolimit:VB.NoLimit
structure aL where
 prog:bE
 w:bg
 K:Φ
 aU:az->Option ae
 base:a4
 A:bq
 N:List az
 e7:ao
 ng:aD
 env:d5
 outer:List d5
 stack:List d5
 ex:List aj
 fn:az->Bool
 calm:Bool
 k9:List (aj×ba)
 cR:ae->ao->Prop
variable{a:aL}
def ik(I:List d5):List aj:=(I.filterMap (·.frame))
abbrev aL.ah(a:aL):List aj:=ik a.outer
def tu(M:gY)(f:az):Prop:=(M.names.lookup f=Z .local\/M.names.lookup f=Z .cell\/M.names.lookup f=Z .free)
def j6(M:gY)(f:az):Prop:=(M.names.lookup f=Z .local\/M.names.lookup f=Z .cell)
def Jj(Vn:d5)(e:a4)(l:az->Option ae)(f:az)(J:ae):Prop:=(
 (Vn.kindOf f=Z .local/\l f=Z J)\/((Vn.kindOf f=Z .cell\/Vn.kindOf f=Z .free)/\∃o,Vn.cells.lookup f=Z o/\e.IsCell o (Z J)))
structure aL.Ok(a:aL):Prop where
 mod:Mod a.K a.aU a.base
 kind:a.env.scope.kind=.function
 glob:a.env.globals=fw
 blt:a.env.builtins=v_
 above:a.e7.heap.objs.size<=a.env.locals
 inj:∀f z o,a.env.cells.lookup f=Z o->a.env.cells.lookup z=Z o->f=z
 has:∀f,(a.env.kindOf f=Z .cell\/a.env.kindOf f=Z .free)->∃o,a.env.cells.lookup f=Z o
 nO:∀f o,a.fn f=V->a.env.cells.lookup f=Z o->a.e7.heap.objs.size<=o
 hd:a.calm=V->a.A.handled=X
 frames:a.A.frames=Z a.stack
 rQ:a.stack=a.outer\/(a.stack=a.env::a.outer/\a.env.frame=Z a.env.locals)
 y4:∀c∈a.ex,c≠a.env.locals/\∀f o,a.env.cells.lookup f=Z o->o≠c
 bs:∀c n,a.base.get? c=Z n->a.e7.heap.get? c=Z n/\a.ng c=ky n
 kl:a.base.objs.size<=a.e7.heap.objs.size
 nQ:∀c n,a.base.get? c=Z n->c∉a.ex
 qr:∀c∈a.ex,c∉a.ah
 ir:a.e7.heap.FunFrames a.base a.outer
 mu:∀c∈a.ah,a.ng c=X
structure aI(a:aL)(G:List (aj×ba))(B:List (Option au))(b:aD)(j:ao):Prop where
 ok:a.Ok
 os:j.os=a.e7.os
 bare:l5 j.gens
 base:fm a.ah a.ex a.ng b a.e7.heap j.heap
 loc:∃l,j.heap.Ns a.env.locals l/\∀(g:Nat) (f:az) (u:au),a.N[g]?=Z f->B[g]?=Z (Z u)->tu a.env.scope f->∃J,ck u J/\Jj a.env j.heap l f J
 cell:∀f o,a.env.cells.lookup f=Z o->∃u,j.heap.IsCell o u
 free:b a.env.locals=X
 iH:∀f o,a.env.cells.lookup f=Z o->b o=X
 pin:∀m∈a.k9++G,j.heap.get? m.1=Z m.2/\b m.1=X/\m.1≠a.env.locals/\m.1∉a.ah/\∀u,m.2.data≠.cell u
 a5:ea a.prog a.w b j.heap
 len:B.length=a.N.length
section
variable{a:aL}{G:List (aj×ba)}{B:List (Option au)}{b T:aD}{j:ao}{Vk:a4}
def aL.Ok.LY(ok:a.Ok){c:aj}{n:ba}(d:a.base.get? c=Z n):c∉a.ah:=λb=>by
 have:=(ok.ir.mem b).1;rw[d]at this;cases this
def aI.bs(y:aI a G B b j):∀c n,a.base.get? c=Z n->j.heap.get? c=Z n/\b c=ky n:=λc n d=>by
 let⟨t,A⟩:=y.ok.bs c n d;cases o:sI n with
 |none=>
  have x:a.ng c=X:=A.trans (by rw[ky,o];rfl);exact⟨y.base.keep c n t x (y.ok.LY d)<|y.ok.nQ c n d,(y.base.free c n t x<|y.ok.nQ c n d).trans<|x.symm.trans A⟩
 |some w=>
  have D:a.ng c=Z (.tup w):=A.trans (by rw[ky,o];rfl);exact⟨y.base.jd c n w t D<|y.ok.nQ c n d,(y.base.i4 c w D).trans<|D.symm.trans A⟩
def aI.d0(y:aI a G B b j):∀c n,a.base.get? c=Z n->j.heap.get? c=Z n:=λc n d=>(y.bs c n d).1
def aI.mod(y:aI a G B b j):Mod a.K a.aU a.base:=y.ok.mod
def aI.hC(y:aI a G B b j):a.K.In j.heap:=y.ok.mod.qF.keeps y.d0
def aI.lt(y:aI a G B b j):a.env.locals<j.heap.objs.size:=let ⟨_,c,_⟩:=y.loc;c.lt
def aI.g9(y:aI a G B b j):a.e7.heap.objs.size<=j.heap.objs.size:=dc y.ok.above (nc y.lt)
def aI.Mu(y:aI a G B b j){h:aj}(e:j.heap.objs.size<=h):h∉a.ah:=λc=>by
 let@⟨_,⟨@n,d,_⟩⟩:=y.ok.ir.mem c;exact absurd (eJ (cA d)<|dc y.g9 e) (iM _)
def aI.oY(y:aI a G B b j):∀f o,a.env.cells.lookup f=Z o->o≠a.env.locals:=λf o d i=>by
 let⟨u,@n,c,hd⟩:=y.cell f o d;let⟨@l,⟨V4,S,@VU,e,g,W⟩,W⟩:=y.loc;rw[i,e]at c;cases c;rw[g]at hd;cases hd
def aI.ir(y:aI a G B b j):j.heap.FunFrames a.base a.outer:=by
 have all:∀(I:List d5),(∀c∈ik I,c∈a.ah)->a.e7.heap.FunFrames a.base I->j.heap.FunFrames a.base I:=by
  intro I;induction I with
  |nil=>intro W W;trivial
  |cons Vn s h=>
   intro Vy k;let@⟨l,⟨E,@n,e,m,o,hd⟩,p⟩:=k;have f:E∈a.ah:=Vy E (by unfold ik;rw[rn,e];exact jE);let⟨@bo,d⟩:=y.base.slot E n o (y.ok.mu E f) f λi=>y.ok.qr E i f;exact⟨l,⟨E,_,e,m,d,hd⟩,h (λc g=>Vy c (by unfold ik;rw[rn,e];exact iw _ g)) p⟩
 exact all a.outer (λ_ g=>g) y.ok.ir
def aI.stack(y:aI a G B b j):j.heap.FunFrames a.base a.stack:=by
 rcases y.ok.rQ with d|⟨d,c⟩
 ·rw[d];exact y.ir
 ·rw[d];let⟨@l,e,W⟩:=y.loc;refine .cons (by rw[y.ok.kind];decide) c e ?_ y.ir;exact zr (dc y.ok.kl y.ok.above)
def aI.wF(y:aI a G B b j):∀c∈ik a.stack,c∈a.env.locals::a.ah:=λc e=>by
 rcases y.ok.rQ with d|⟨d,f⟩
 ·rw[d]at e;exact iw _ e
 ·rw[d]at e;unfold ik at e;rw[rn,f]at e;exact e
def aI.Ga(y:aI a G B b j):∀c∈ik a.stack,b c=X:=λc e=>by
 rcases cm.mp (y.wF c e) with d|e
 ·rw[d];exact y.free
 ·let@⟨_,⟨@n,f,_⟩⟩:=y.ok.ir.mem e;exact y.base.free c n f (y.ok.mu c e) λi=>y.ok.qr c i e
def aI.step{F:Array rp}{V1:Nat}{Q:Drawn}{WO:List aj}(y:aI a G B b j)(t:∀c∈WO,(c∈a.ex\/a.e7.heap.objs.size<=c)/\c≠a.env.locals/\(∀f o,a.env.cells.lookup f=Z o->o≠c)/\∀m∈a.k9++G,m.1≠c)(keep:∀c n,c≠a.env.locals->c∉a.ah->c∉WO->j.heap.get? c=Z n->b c=X->Vk.get? c=Z n)(WB:∀c n,c≠a.env.locals->c∈a.ah->c∉WO->j.heap.get? c=Z n->b c=X->∃bo,Vk.get? c=Z {n with slots:=bo})(E:∀c n,c∉WO->j.heap.get? c=Z n->b c=X->T c=X)(R:∀c n,c∉WO->j.heap.get? c=Z n->∃V4,Vk.get? c=Z V4)(jd:∀c n w,c∉WO->j.heap.get? c=Z n->b c=Z (.tup w)->Vk.get? c=Z n)(i4:∀c w,b c=Z (.tup w)->T c=Z (.tup w))(iT:∀c n J,b c=Z (.cV n J)->T c=Z (.cV n J))(kS:∀c Vw,b c=Z (.oa Vw)->∃S,T c=Z (.oa<|Vw++S))(VT:∀l,j.heap.Ns a.env.locals l->Vk.Ns a.env.locals l)(a5:ea a.prog a.w T Vk)(U:l5 F):
  aI a G B T {j with heap:=Vk,gens:=F,drawn:=Q,toks:=V1}:=by
 have L:∀c n,a.e7.heap.get? c=Z n->c≠a.env.locals:=λc n d=>c0 (eJ (cA d) y.ok.above);have z:∀c n,a.e7.heap.get? c=Z n->c∉a.ex->c∉WO:=λc n d e k=>by
  rcases (t c k).1 with i|i
  ·exact e i
  ·exact absurd (eJ (cA d) i) (iM _)
 have M:∀f o,a.env.cells.lookup f=Z o->∀u,j.heap.IsCell o u->Vk.IsCell o u:=λf o d u ⟨n,r,hd⟩=>by
  have A:o∉WO:=λi=>(t o i).2.2.1 f o d rfl;by_cases N:o∈a.ah
  ·let⟨@bo,p⟩:=WB o n (y.oY f o d) N A r (y.iH f o d);exact⟨_,p,hd⟩
  ·exact⟨n,keep o n (y.oY f o d) N A r<|y.iH f o d,hd⟩
 refine⟨y.ok,y.os,U,⟨λc n d x k e=>?_,λc n d x k e=>?_,λc n d x e=>?_,λc n w d D e=>jd c n w (z c n d e) (y.base.jd c n w d D e)<|y.base.i4 c w D,λc n d e=>?_,λc w d=>i4 c w<|y.base.i4 c w d,λc n w d=>iT c n w<|y.base.iT c n w d,λc Vw d=>?_⟩,?_,λf o d=>?_,?_,λf o d=>?_,λm O=>?_,a5,y.len⟩
 ·exact keep c n (L c n d) k (z c n d e) (y.base.keep c n d x k e) (y.base.free c n d x e)
 ·let⟨@bo,h⟩:=y.base.slot c n d x k e;let⟨@al,C⟩:=WB c _ (L c n d) k (z c n d e) h (y.base.free c n d x e);exact⟨al,C⟩
 ·let⟨@V4,h⟩:=y.base.there c n d e;exact E c V4 (z c n d e) h (y.base.free c n d x e)
 ·let⟨@V4,h⟩:=y.base.there c n d e;exact R c V4 (z c n d e) h
 ·let⟨@am,h⟩:=y.base.kS c Vw d;let⟨@an,C⟩:=kS c _ h;exact⟨am++an,by rw[C,Array.append_assoc]⟩
 ·let⟨@l,ap,as⟩:=y.loc;refine⟨l,VT l ap,λg f u h C a1=>?_⟩;let⟨@J,s,I⟩:=as g f u h C a1;refine⟨J,s,?_⟩;rcases I with I|⟨q,o,d,i⟩
  ·exact .inl I
  ·exact .inr ⟨q,o,d,M f o d _ i⟩
 ·let⟨@u,i⟩:=y.cell f o d;exact⟨u,M f o d u i⟩
 ·let⟨@l,⟨n,W,@W,r,W⟩,W⟩:=y.loc;exact E _ n (λi=>(t _ i).2.1 rfl) r y.free
 ·let⟨u,@n,r,hd⟩:=y.cell f o d;exact E o n (λi=>(t o i).2.2.1 f o d rfl) r (y.iH f o d)
 ·let@⟨d,x,ne,P,v⟩:=y.pin m O;have A:m.1∉WO:=λi=>(t m.1 i).2.2.2 m O rfl;exact⟨keep m.1 m.2 ne P A d x,E m.1 m.2 A d x,ne,P,v⟩
def aI.un(y:aI a G B b j)(J:fm a.ah [] b T j.heap Vk)(a5:ea a.prog a.w T Vk):aI a G B T {j with heap:=Vk,toks:=V1}:=by
 let⟨@l,⟨n,S,@VU,f,s⟩,W⟩:=id y.loc;let⟨@bo,h⟩:=J.any f y.free ↥0;exact y.step (F:=j.gens) (Q:=j.drawn) (WO:=[]) (λ_ i=>nomatch i) (λc n W e W d x=>J.keep c n d x e ↥0) (λc n W e W d x=>J.slot c n d x e ↥0) (λc n W d x=>J.free c n d x ↥0) (λc n W d=>J.there c n d ↥0) (λc n w W d D=>J.jd c n w d D ↥0) J.i4 J.iT J.kS (λr k=>by
  let⟨V4,m,@o,g,Wh⟩:=k;rw[f]at g;cases g;exact⟨_,m,o,h,Wh⟩) a5 y.bare
def aI.call{h:Array rp}{r:Drawn}(y:aI a G B b j)(J:fm (ik a.stack) WO b T j.heap Vk)(a5:ea a.prog a.w T Vk)(t:l5 h)(k:∀c∈WO,(c∈a.ex\/a.e7.heap.objs.size<=c)/\c≠a.env.locals/\(∀f o,a.env.cells.lookup f=Z o->o≠c)/\∀m∈a.k9++G,m.1≠c):
  aI a G B T {j with heap:=Vk,gens:=h,drawn:=r,toks:=V1}:=by
 let⟨@l,⟨n,S,@VU,p,s⟩,W⟩:=id y.loc;let⟨@bo,g⟩:=J.any p y.free λi=>(k _ i).2.1 rfl;exact y.step (WO:=WO) k (λc n g u e d x=>J.keep c n d x (λi=>(cm.mp<|y.wF c i).elim g u) e) (λc n W W e d x=>J.any d x e) (λc n e d x=>J.free c n d x e) (λc n e d=>J.there c n d e) (λc n w e d D=>J.jd c n w d D e) J.i4 J.iT J.kS (λC v=>by
  let⟨V4,z,@A,q,Wh⟩:=v;rw[p]at q;cases q;exact⟨_,z,A,g,Wh⟩) a5 t
def aI.turned(y:aI a G B b j)(q:∀c n,c≠Vr->j.heap.get? c=Z n->Vk.get? c=Z n)(k:b Vr=X)(g:Vr≠a.env.locals)(t:Vr∈a.ex\/a.e7.heap.objs.size<=Vr)(A:∀f o,a.env.cells.lookup f=Z o->o≠Vr)(r:∀m∈a.k9++G,m.1≠Vr):aI a G B b {j with heap:=Vk,toks:=V1}:=by
 have h:∀c J,b c=Z J->c≠Vr:=λc J d i=>by rw[i,k]at d;cases d
 refine y.step (F:=j.gens) (Q:=j.drawn) (WO:=[Vr]) (λc v=>?_) (λc n W W e d W=>q c n (λi=>e (by simp[i])) d) (λc n W W e d W=>⟨n.slots,q c n (λi=>e (by simp[i])) d⟩) (λ_ W W W x=>x)
  (λc n e d=>⟨n,q c n (λi=>e (by simp[i])) d⟩) (λc n W e d W=>q c n (λi=>e (by simp[i])) d) (λ_ W d=>d) (λ_ W W d=>d) (λc Vw d=>⟨#[],by rw[d];simp⟩) (λl w=>?_) (λc J d=>?_) y.bare
 ·have d:c=Vr:=by simpa using v
  subst d;exact⟨t,g,A,r⟩
 ·let⟨n,S,@VU,z,s⟩:=w;exact⟨n,S,VU,q _ n (eZ g) z,s⟩
 ·refine (y.a5 c J d).js (λo u e p=>q o u ?_ p) (λ_ p=>p) λ_ W p=>p;rcases e with i|i
  ·rw[i];exact h c J d
  ·exact h o _ i
def aI.tok(y:aI a G B b j)(D:Nat):aI a G B b {j with toks:=D}:=y.un (Vk:=j.heap) (V1:=D) fm.refl y.a5
def aI.kept(y:aI a G B b j)(q:∀c J,j.heap.get? c=Z J->Vk.get? c=Z J):aI a G B b {j with heap:=Vk,toks:=V1}:=y.un (fm.kept q) (y.a5.kept q)
def aI.laid{n:eV}(y:aI a G B b j)(q:∀c J,j.heap.get? c=Z J->Vk.get? c=Z J)(d:j.heap.objs.size<=h)(new:eb a.prog a.w (upd b h n) Vk h n):
  aI a G B (upd b h n) {j with heap:=Vk,toks:=V1}:=y.un (fm.laid q d<|y.a5.fresh d) (y.a5.laid q d new)
def aI.write{f d:aj}{n:eV}(y:aI a G B b j)(e:ro (b f))(g:d=f\/b d=Z (.own f))(q:∀c J,c≠d->j.heap.get? c=Z J->Vk.get? c=Z J)(h:∃J,Vk.get? d=Z J)(new:eb a.prog a.w (upd b f n) Vk f n):aI a G B (upd b f n) {j with heap:=Vk,toks:=V1}:=y.un (fm.write e g q h) (y.a5.write e g q h new)
def aI.weak{c:List (Option au)}(y:aI a G B b j)(d:c.length=B.length)(H:∀(g:Nat) u,c[g]?=Z (Z u)->B[g]?=Z (Z u)):aI a G c b j:=
 ⟨y.ok,y.os,y.bare,y.base,let ⟨l,e,h⟩:=y.loc;⟨l,e,λg f u i k m=>h g f u i (H g u k) m⟩,y.cell,y.free,y.iH,y.pin,y.a5,d.trans y.len⟩
def aI.qC{c:List (aj×ba)}(y:aI a G B b j)(e:∀m∈c,j.heap.get? m.1=Z m.2/\b m.1=X/\m.1≠a.env.locals/\m.1∉a.ah/\∀u,m.2.data≠.cell u):aI a c B b j:=
 ⟨y.ok,y.os,y.bare,y.base,y.loc,y.cell,y.free,y.iH,λm d=>(du.mp d).elim (λi=>y.pin m<|dW _ i)<|e m,y.a5,y.len⟩
def GH(a:VS.Nodup){g r:Nat}{f:az}(h:VS[g]?=Z f)(c:VS[r]?=Z f):g=r:=by
 let⟨@t,b⟩:=eX.mp h;let⟨@A,d⟩:=eX.mp c;exact (yv a).mp (b.trans d.symm)
variable{C:Unit->ao->Prop}
def HA{ay:gc}(y:aI a G B b j)(am:a.N.Nodup)(Vl:a.N[g]?=Z f)(k:j6 a.env.scope f)(s:ck u J)(e:∀Vm,aI a G (B.set g<|Z u) b Vm->(∃h,a4.SameBut h j.heap Vm.heap/\(h=a.env.locals\/a.env.cells.lookup f=Z h))->C () Vm)(bi:a.fn f=V\/a.env.scope.names.lookup f=Z .local:=by first|exact .inl rfl|exact .inr rfl|assumption):wpAny ay O (storeName a.env f J) C Vo j:=by
 let⟨@l,Q,an⟩:=id y.loc;have bm:(a.env.scope.kind==.class || (a.env.scope.kind==.module&&a.env.locals != a.env.globals))=aA:=by rw[y.ok.kind];rfl
 have ap:g<B.length:=by rw[y.len];exact (eX.mp Vl).1
 have oY:=y.oY;have as:∀{h:aj}{Vk:a4},(∃n,j.heap.get? h=Z n/\b h=X)->a4.SameBut h j.heap Vk->ea a.prog a.w b Vk:=λ{h Vk} bn Vy c aQ d=>by
  let⟨@W,W,a1⟩:=bn;refine (y.a5 c aQ d).js (λo M A p=>(Vy.2 o ?_).trans p) (λ_ p=>p) λ_ W p=>p;rintro rfl;rcases A with rfl|A
  ·rw[a1]at d;cases d
  ·rw[a1]at A;cases A
 rcases k with F|F
 ·refine wpAny_storeName_local F Q (λVk bs Vy=>?_) bm;let⟨bv,W,@W,ca,W⟩:=id Q;refine e _ ⟨y.ok,y.os,y.bare,⟨λc n d x I k=>?_,λc n d x I k=>?_,y.base.free,λc n w d D k=>(Vy.2 c<|c0<|eJ (cA d) y.ok.above).trans<|y.base.jd c n w d D k,λc n d k=>?_,y.base.i4,y.base.iT,y.base.kS⟩,⟨_,bs,λr z R t E S=>?_⟩,λz o d=>?_,y.free,y.iH,λm T=>?_,as ⟨bv,ca,y.free⟩ Vy,by simpa using y.len⟩ ⟨_,Vy,.inl rfl⟩
  ·exact (Vy.2 c<|c0<|eJ (cA d) y.ok.above).trans (y.base.keep c n d x I k)
  ·let⟨@bo,t⟩:=y.base.slot c n d x I k;exact⟨bo,(Vy.2 c<|c0<|eJ (cA d) y.ok.above).trans t⟩
  ·let⟨@V4,t⟩:=y.base.there c n d k;exact⟨V4,(Vy.2 c<|c0<|eJ (cA d) y.ok.above).trans t⟩
  ·by_cases L:r=g
   ·subst L;rw[Vl]at t;cases t;rw[va ap]at E;cases E;exact⟨J,s,.inl ⟨F,by simp⟩⟩
   ·rw[oR (eZ L)]at E;let⟨@U,Wh,p⟩:=an r z R t E S;refine⟨U,Wh,?_⟩;rcases p with ⟨q,d⟩|⟨q,o,d,i⟩
    ·refine .inl ⟨q,?_⟩;have:z≠f:=λd=>L (GH am t<|d ▸ Vl);simp[this,d]
    ·exact .inr ⟨q,o,d,i.sameBut Vy<|oY z o d⟩
  ·let⟨@M,i⟩:=y.cell z o d;exact⟨M,i.sameBut Vy<|oY z o d⟩
  ·let@⟨d,x,ne,al,v⟩:=y.pin m T;exact⟨(Vy.2 m.1 ne).trans d,x,ne,al,v⟩
 ·have P:a.fn f=V:=by
   rcases bi with i|i
   ·exact i
   ·rw[i]at F;cases F
  let⟨@o,A⟩:=y.ok.has f (.inl F);let⟨@M,i⟩:=y.cell f o A;refine wpAny_storeName_cell y.ok.kind F A i (λVk a2 Vy=>?_);let⟨@WU,bd,cd⟩:=id i;refine e {j with heap:=Vk} ⟨y.ok,y.os,y.bare,⟨λc n d x I k=>?_,λc n d x I k=>?_,y.base.free,λc n w d D k=>(Vy.2 c<|c0<|eJ (cA d)<|y.ok.nO f o P A).trans<|y.base.jd c n w d D k,λc n d k=>?_,y.base.i4,y.base.iT,y.base.kS⟩,⟨l,Q.sameBut Vy<|eZ<|oY f o A,λr z R t E S=>?_⟩,λz V9 d=>?_,y.free,y.iH,λm T=>?_,as ⟨WU,bd,y.iH f o A⟩ Vy,by simpa using y.len⟩ ⟨o,Vy,.inr A⟩
  ·exact (Vy.2 c<|c0<|eJ (cA d)<|y.ok.nO f o P A).trans (y.base.keep c n d x I k)
  ·let⟨@bo,t⟩:=y.base.slot c n d x I k;exact⟨bo,(Vy.2 c<|c0<|eJ (cA d)<|y.ok.nO f o P A).trans t⟩
  ·let⟨@V4,t⟩:=y.base.there c n d k;exact⟨V4,(Vy.2 c<|c0<|eJ (cA d)<|y.ok.nO f o P A).trans t⟩
  ·by_cases L:r=g
   ·subst L;rw[Vl]at t;cases t;rw[va ap]at E;cases E;exact⟨J,s,.inr ⟨.inl F,o,A,a2⟩⟩
   ·rw[oR (eZ L)]at E;let⟨@U,Wh,p⟩:=an r z R t E S;refine⟨U,Wh,?_⟩;rcases p with p|⟨q,V9,d,ce⟩
    ·exact .inl p
    ·refine .inr ⟨q,V9,d,ce.sameBut Vy ?_⟩;rintro rfl;exact L (GH am t<|y.ok.inj _ _ _ d A ▸ Vl)
  ·by_cases be:V9=o
   ·subst be;exact⟨_,a2⟩
   ·let⟨@cv,ch⟩:=y.cell z V9 d;exact⟨cv,ch.sameBut Vy be⟩
  ·let@⟨d,x,ne,al,v⟩:=y.pin m T;refine⟨(Vy.2 m.1 ?_).trans d,x,ne,al,v⟩;intro p;rw[p,bd]at d;have ci:WU=m.2:=Option.some.inj d;exact v M (by rw[<-ci];exact cd)
def u1{ay:gc}(y:aI a G B b j)(c:a.N.Nodup)(Vl:a.N[g]?=Z f)(d:j6 a.env.scope f)(s:ck u J)(e:∀Vm,aI a G (B.set g<|Z u) b Vm->C () Vm)(h:a.fn f=V\/a.env.scope.names.lookup f=Z .local:=by first|exact .inl rfl|exact .inr rfl|assumption):wpAny ay O (storeName a.env f J) C Vo j:=
 HA y c Vl d s (λVm i W=>e Vm i) h
def aI.UO(y:aI a G B b j)(h:Vm.os=j.os)(J:fm (ik a.stack) WO b T j.heap Vm.heap)(a5:ea a.prog a.w T Vm.heap)(i:l5 Vm.gens)(k:∀c∈WO,(c∈a.ex\/a.e7.heap.objs.size<=c)/\c≠a.env.locals/\(∀f o,a.env.cells.lookup f=Z o->o≠c)/\∀m∈a.k9++G,m.1≠c):aI a G B T Vm:=by
 let⟨Vk,e,g,V1,V4⟩:=Vm;have d:V4=j.os:=h;subst d;exact y.call (h:=e) (V1:=V1) (r:=g) J a5 i k
end
abbrev fv:=ae->Option aj->aD->Prop
abbrev a6:=List (Option au)
variable{B:a6}
abbrev cW:=au->aD->Prop
abbrev b5:=a6->aD->cW->Prop
variable{WA:b5}
abbrev eo:=a6->aD->(Bool->aD->Prop)->Prop
variable{Q:eo}
abbrev fh:=a6->aD->(List au->aD->Prop)->Prop
variable{We:fh}
structure og where
 aX:a6->aD->Prop
 ej:cW
 d0:a6->aD->Prop:=λ_ _=>False
 b3:a6->aD->Prop:=λ_ _=>False
abbrev e4:=og->a6->aD->Prop
variable{Wy:e4}
def eM(a:aL)(G:List (aj×ba))(B:a6)(C:cW)(J:ae)(Vm:ao):Prop:=(∃u T,aI a G B T Vm/\ck u J/\C u T)
def wo(a:aL)(G:List (aj×ba))(B:a6)(C:Bool->aD->Prop)(c:Bool)(Vm:ao):Prop:=(∃T,aI a G B T Vm/\C c T)
def NI(a:aL)(G:List (aj×ba))(B:a6)(C:List au->aD->Prop)(VH:List ae)(Vm:ao):Prop:=(∃Vj T,aI a G B T Vm/\bY Vj VH/\C Vj T)
def p0(a:aL)(G:List (aj×ba))(k:og)(F:Flow)(Vm:ao):Prop:=(
 match F with
 |.next=>∃b T,aI a G b T Vm/\k.aX b T
 |.brk=>∃b T,aI a G b T Vm/\k.d0 b T
 |.cont=>∃b T,aI a G b T Vm/\k.b3 b T
 |.ret J=>∃u b T,aI a G b T Vm/\ck u J/\k.ej u T)
def xi(a:aL)(d:bl)(D:b5)(G:List (aj×ba)):Prop:=(
 ∀(j:ao) (B:a6) (b:aD) (C:cW),aI a G B b j->D B b C->wpAny (aO a.prog a.w) a.A (bJ d a.env) (eM a G B C) a.cR j)
def bG(a:aL)(d:bl)(D:b5):Prop:=(∀G,xi a d D G)
def D2(a:aL)(d:bl)(D:eo)(G:List (aj×ba)):Prop:=(
 ∀(j:ao) (B:a6) (b:aD) (C:Bool->aD->Prop),aI a G B b j->D B b C->wpAny (aO a.prog a.w) a.A (o9 d a.env<|bJ d a.env) (wo a G B C) a.cR j)
def hA(a:aL)(d:bl)(D:eo):Prop:=(∀G,D2 a d D G)
def A1(a:aL)(d:bl)(D:eo)(c:dD ae):Prop:=(
 ∀(G:List (aj×ba)) (j:ao) (B:a6) (b:aD) (C:Bool->aD->Prop),aI a G B b j->D B b C->wpAny (aO a.prog a.w) a.A (o9 d a.env c) (wo a G B C) a.cR j)
def jZ(a:aL)(d:bl)(D:eo):Prop:=(∀b,A1 a d D b)
def jZ.pt{a:aL}{d:bl}{D:eo}(e:jZ a d D):hA a d D:=e _
def Dn(a:aL)(S:List bl)(D:fh)(VC:Pos):Prop:=(
 ∀(G:List (aj×ba)) (j:ao) (B:a6) (b:aD) (C:List au->aD->Prop),aI a G B b j->D B b C->wpAny (aO a.prog a.w) a.A (spliced<|d9 VC<|bP S a.env) (NI a G B C) a.cR j)
def hg(a:aL)(S:List bl)(D:fh):Prop:=(∀VC,Dn a S D VC)
def DB(a:aL)(Y:cf)(D:e4)(G:List (aj×ba)):Prop:=(
 ∀(j:ao) (B:a6) (b:aD) (k:og),aI a G B b j->D k B b->wpAny (aO a.prog a.w) a.A (exec Y a.env) (p0 a G k) a.cR j)
def hs(a:aL)(Y:cf)(D:e4):Prop:=(∀G,DB a Y D G)
def Bz(a:aL)(Y:List cf)(D:e4)(G:List (aj×ba)):Prop:=(
 ∀(j:ao) (B:a6) (b:aD) (k:og),aI a G B b j->D k B b->wpAny (aO a.prog a.w) a.A (execs Y a.env) (p0 a G k) a.cR j)
def h6(a:aL)(Y:List cf)(D:e4):Prop:=(∀G,Bz a Y D G)
def b0{D:dD VM}{C a:VM->ao->Prop}{ay:gc}(e:wpAny ay O D C Vo j)(b:∀h j,C h j->a h j):wpAny ay O D a Vo j:=hk e b λ_ W f=>f
section
variable{a:aL}
def fA(g:Nat):b5:=(λB b C=>∃u,B[g]?=Z (Z u)/\C u b)
def rz(u:au):b5:=(λ_ b C=>C u b)
variable{VC:Pos}
def FQ(k:a.N[g]?=Z f)(m:tu a.env.scope f)(hd:(f==("__debug__" : az))=aA:=by decide)(n:(f==("__classdict__" : az))=aA:=by decide):bG a (.Name f VC) (fA g):=by
 intro G j B b C y e;let⟨@u,d,e⟩:=e;let⟨@l,p,q⟩:=y.loc;let⟨@J,s,I⟩:=q g f u k d m;have fin:eM a G B C J j:=⟨u,b,y,s,e⟩;rcases I with ⟨c,r⟩|⟨c,o,h,i⟩
 ·exact yK (wpAny_loadName_local y.ok.kind c p r fin) hd
 ·rcases c with c|c
  ·exact yK (wpAny_loadName_cell y.ok.kind c h i fin) hd
  ·exact yK (wpAny_loadName_free y.ok.kind c h i fin n) hd
def T9{g r VC}:bG a (.Constant (.int g) r VC) (rz<|.int g):=λ_ W W b W y e=>wpAny_Constant_int ⟨.int g,b,y.tok _,⟨_,rfl⟩,e⟩
def Nk{c r VC}:bG a (.Constant (.bool c) r VC) (rz<|.av c):=λ_ W W b W y e=>Constant_bool ⟨.av c,b,y,rfl,e⟩
def eu(a:aL)(f:az):Prop:=(a.env.kindOf f=Z .globalImplicit)
def uz(y:aI a G B b j)(c:eu a f)(d:a.aU f=Z J)(e:C J j)(hd:(f==("__debug__" : az))=aA:=by decide):wpAny (aO a.prog a.w) a.A (bJ (.Name f VC) a.env) C Vo j:=
 CG y.ok.kind c (Calls.loadGlobal_global (by rw[y.ok.glob];exact y.mod.glob.keeps y.d0) d e) hd
def pU(y:aI a G B b j)(c:eu a f)(d:a.aU f=X)(g:iA f=Z J)(e:C J j)(h:f ≠ "__name__" := by decide)(hd:(f==("__debug__" : az))=aA:=by decide):wpAny (aO a.prog a.w) a.A (bJ (.Name f VC) a.env) C Vo j:=by
 let⟨@i,t,A⟩:=y.mod.blt;exact CG y.ok.kind c (Calls.loadGlobal_builtin (by rw[y.ok.glob];exact y.mod.glob.keeps y.d0) d (by rw[y.ok.blt];exact t.keeps y.d0) ((A f h).trans g) e) hd
def Bv(c:eu a f)(d:a.aU f=Z J)(s:ck u J)(hd:(f==("__debug__" : az))=aA:=by decide):bG a (.Name f VC) (rz u):=
 λ_ W W b W y e=>uz y c d ⟨u,b,y,s,e⟩ hd
def IX(c:eu a f)(d:a.aU f=X)(g:iA f=Z J)(s:ck u J)(h:f ≠ "__name__" := by decide)(hd:(f==("__debug__" : az))=aA:=by decide):bG a (.Name f VC) (rz u):=
 λ_ W W b W y e=>pU y c d g ⟨u,b,y,s,e⟩ h hd
variable{h c:bl}{We Wy:b5}{VC:Pos}
variable{ha i:eo}{c1:List bl}
def Gz(D J:eo):eo:=(λB b C=>D B b λo Vt=>if o=V then J B Vt C else C aA Vt)
def Cr(D J:eo):eo:=(λB b C=>D B b λo Vt=>if o=V then C V Vt else J B Vt C)
def JW(D:eo):eo:=(λB b C=>D B b λo Vt=>C (!o) Vt)
def Rj(c:hA a h ha):jZ a (.BoolOp .And [h] VC) ha:=by
 intro f G j B b C y e;refine isTrue_and (b0 (c G j B b C y e) λo g d=>?_);cases o with
 |true=>exact isTrue_and_nil d
 |false=>exact d
def MQ(c:hA a h ha):jZ a (.BoolOp .Or [h] VC) ha:=by
 intro f G j B b C y e;refine isTrue_or (b0 (c G j B b C y e) λo g d=>?_);cases o with
 |false=>exact isTrue_or_nil d
 |true=>exact d
def Lf(g:hA a h ha)(k:jZ a (.BoolOp .And (c::c1) VC) i):jZ a (.BoolOp .And (h::c::c1) VC) (Gz ha i):=by
 intro l G j B b C y e;refine isTrue_and (b0 (g G j B b _ y e) λo m n=>?_);let⟨@Vt,d,f⟩:=n;cases o with
 |true=>exact k l G m B Vt C d f
 |false=>exact⟨Vt,d,f⟩
def Nx(g:hA a h ha)(k:jZ a (.BoolOp .Or (c::c1) VC) i):jZ a (.BoolOp .Or (h::c::c1) VC) (Cr ha i):=by
 intro l G j B b C y e;refine isTrue_or (b0 (g G j B b _ y e) λo m n=>?_);let⟨@Vt,d,f⟩:=n;cases o with
 |true=>exact⟨Vt,d,f⟩
 |false=>exact k l G m B Vt C d f
def RF(c:hA a h ha):hA a (.UnaryOp .Not h VC) (JW ha):=by
 intro G j B b C y e;exact isTrue_not (c G j B b (λo Vt=>C (!o) Vt) y e)
def Pw(We Wy:b5):b5:=(λB b C=>We B b λf Vt=>∃o,f=.av o/\if o=V then Wy B Vt C else C (.av aA) Vt)
def PG(We:b5):b5:=(λB b C=>We B b λf Vt=>∃o,f=.av o/\C (.av<|!o) Vt)
def T6{Wa}{D:b5}(e:bG a h D):bG a (.BoolOp Wa [h] VC) D:=λG j B b C y c=>BoolOp_one (e G j B b C y c)
def LN(i:bG a h We)(k:bG a (.BoolOp .And (c::c1) VC) Wy):bG a (.BoolOp .And (h::c::c1) VC) (Pw We Wy):=by
 intro G j B b C y e;refine BoolOp_and (b0 (i G j B b _ y e) λu l m=>?_);let⟨f,@Vt,g,n,d⟩:=m;let⟨@o,rfl,d⟩:=d;cases n;refine lB ?_;cases o with
 |true=>exact k G l B Vt C g d
 |false=>exact⟨.av aA,Vt,g,rfl,d⟩
def IA(d:bG a h We):bG a (.UnaryOp .Not h VC) (PG We):=by
 intro G j B b C y e;refine UnaryOp_ (b0 (d G j B b _ y e) λu l g=>?_);let⟨f,@Vt,i,k,c⟩:=g;let⟨@o,rfl,c⟩:=c;cases k;exact not_of (lB ⟨.av<|!o,Vt,i,rfl,c⟩)
def T4(D:eo)(We Wy:b5):b5:=(λB b C=>D B b λo Vt=>if o=V then We B Vt C else Wy B Vt C)
def UE(i:hA a o ha)(k:bG a h We)(l:bG a c Wy):bG a (.IfExp o h c VC) (T4 ha We Wy):=by
 intro G j B b C y e;refine wpAny_IfExp (b0 (i G j B b _ y e) λv d m=>?_);let⟨@Vt,f,g⟩:=m;cases v with
 |true=>exact k G d B Vt C f g
 |false=>exact l G d B Vt C f g
end
def dw(R:Φ)(b:aD)(h:aj)(w:List au):Prop:=(
 jw b h (.lst w)\/
  ∃(n:ba) (VA:Array ae) (x:Nat),R.lookup h=Z n/\n.cls=.type "list" /\ n.dict=X/\n.data=.seq VA x/\VA.size<=sizeLine/\bY w VA.toList)
def cZ(R:Φ)(b:aD)(h:aj)(w:List au):Prop:=(
 jw b h (.tup w)\/
  ∃(n:ba) (VA:Array ae) (x:Nat),R.lookup h=Z n/\n.cls=.type "tuple" /\ n.data=.seq VA x/\VA.size<=sizeLine/\bY w VA.toList)
def TA:ae->Option au
 |.none=>Z .a3
 |.bool c=>Z (.av c)
 |.int g _=>Z (.int g)
 |.str f _=>Z (.str f)
 |.bytes c _=>Z (.pS c)
 |.float c _=>Z (.v8 c)
 |.ref h=>Z (.ref h)
 |.type x=>Z (.ty x)
 |_=>X
def ck.abs{f:au}(s:ck f J):TA J=Z f:=by
 cases f with
 |a3=>cases s;rfl
 |av _=>cases s;rfl
 |int _=>let⟨@D,rfl⟩:=s;rfl
 |str _=>let⟨@D,rfl⟩:=s;rfl
 |pS _=>let⟨@D,rfl⟩:=s;rfl
 |v8 _=>let⟨@D,rfl⟩:=s;rfl
 |ref _=>cases s;rfl
 |ty _=>cases s;rfl
def ck.inj{f:au}(s:ck f J)(p:ck z J):f=z:=Option.some.inj (s.abs.symm.trans p.abs)
theorem bY.inj:∀{w VJ:List au}{VH:List ae},bY w VH->bY VJ VH->w=VJ
 |_,_,_,.nil,.nil=>rfl
 |_,_,_,.cons s D,.cons Wh V1=>by rw[s.inj Wh,bY.inj D V1]
section
variable{a:aL}{G:List (aj×ba)}{B:a6}{b:aD}{j:ao}{h:aj}{w VJ:List au}
def dw.of(e:b h=Z (.lst w)):dw R b h w:=.inl (.inl e)
def cZ.of(e:b h=Z (.tup w)):cZ R b h w:=.inl (.inl e)
def aI.list(y:aI a G B b j)(e:dw a.K b h w):∃VA:List ae,bY w VA/\PlainL j.heap h VA.toArray/\w.length<=sizeLine:=by
 rcases e with e|⟨n,VA,x,c,f,hd,Vy,g,s⟩
 ·let@⟨i,⟨VA,@x,s,d⟩⟩:=e.ok y.a5;exact⟨VA,s,⟨_,x,d,rfl,rfl,rfl⟩,i⟩
 ·refine⟨VA.toList,s,⟨n,x,y.hC h n c,f,hd,by simpa using Vy⟩,?_⟩;have d:=s.length;simp only[df]at d;lia
def aI.tuple(y:aI a G B b j)(e:cZ a.K b h w):∃VA:List ae,bY w VA/\oz j.heap h VA.toArray/\w.length<=sizeLine:=by
 rcases e with e|⟨n,VA,x,c,f,Vy,g,s⟩
 ·let@⟨i,⟨@VA,s,m⟩⟩:=e.ok y.a5;exact⟨VA,s,m.tup,i⟩
 ·refine⟨VA.toList,s,⟨n,y.hC h n c,f,x,by simpa using Vy⟩,?_⟩;have d:=s.length;simp only[df]at d;lia
def aI.Uh(y:aI a G B b j)(e:dw a.K b h w)(Vk:dw a.K b h VJ):w=VJ:=by
 let⟨@VA,s,⟨n,@x,d,W,W,v⟩,W⟩:=y.list e;let⟨@U,Wh,⟨V4,@g,c,W,W,f⟩,W⟩:=y.list Vk;rw[d]at c;cases c;rw[v]at f;injection f with V2 _;have:VA=U:=by simpa using congrArg Array.toList V2
 subst this;exact s.inj Wh
def aI.PC(y:aI a G B b j)(e:cZ a.K b h w)(Vk:cZ a.K b h VJ):w=VJ:=by
 let⟨@VA,s,⟨@n,d,W,⟨@x,v⟩⟩,W⟩:=y.tuple e;let⟨@U,Wh,⟨@V4,c,W,⟨@g,f⟩⟩,W⟩:=y.tuple Vk;rw[d]at c;cases c;rw[v]at f;injection f with V2 _;have:VA=U:=by simpa using congrArg Array.toList V2
 subst this;exact s.inj Wh
end
abbrev aL.kx(a:aL)(Vo:ae->ao->Prop):aL:={a with cR:=Vo}
abbrev aL.ke(a:aL):aL:=a.kx λ_ _=>False
def aL.Ok.kx(ok:a.Ok)(Vo:ae->ao->Prop):(a.kx Vo).Ok:=
 ⟨ok.mod,ok.kind,ok.glob,ok.blt,ok.above,ok.inj,ok.has,ok.nO,ok.hd,ok.frames,ok.rQ,ok.y4,ok.bs,ok.kl,ok.nQ,ok.qr,ok.ir,ok.mu⟩
def aL.Ok.mT(ok:(a.kx Vo).Ok):a.Ok:=
 ⟨ok.mod,ok.kind,ok.glob,ok.blt,ok.above,ok.inj,ok.has,ok.nO,ok.hd,ok.frames,ok.rQ,ok.y4,ok.bs,ok.kl,ok.nQ,ok.qr,ok.ir,ok.mu⟩
section
variable{a:aL}{G:List (aj×ba)}{B:a6}{b:aD}{j:ao}{Vo:ae->ao->Prop}
def aI.kx(y:aI a G B b j)(Vo:ae->ao->Prop):aI (a.kx Vo) G B b j:=⟨y.ok.kx Vo,y.os,y.bare,y.base,y.loc,y.cell,y.free,y.iH,y.pin,y.a5,y.len⟩
def aI.mT(y:aI (a.kx Vo) G B b j):aI a G B b j:=⟨y.ok.mT,y.os,y.bare,y.base,y.loc,y.cell,y.free,y.iH,y.pin,y.a5,y.len⟩
def p0.mT{k:og}{F:Flow}(e:p0 (a.kx Vo) G k F Vm):p0 a G k F Vm:=by
 cases F with
 |next=>let⟨b,@T,y,p⟩:=e;exact⟨b,T,y.mT,p⟩
 |brk=>let⟨b,@T,y,p⟩:=e;exact⟨b,T,y.mT,p⟩
 |cont=>let⟨b,@T,y,p⟩:=e;exact⟨b,T,y.mT,p⟩
 |ret J=>let⟨u,b,@T,y,s,p⟩:=e;exact⟨u,b,T,y.mT,s,p⟩
def h6.ke{Y:List cf}{D:e4}(e:h6 a.ke Y D):h6 a Y D:=λG j B b k y c=>
 hk (e G j B b k (y.kx _) c) (λ_ W p=>p.mT) λ_ W i=>False.elim i
end
section
variable{a:aL}{Y:cf}{c1:List cf}{D J:e4}{d:bl}{WA:b5}{VC:Pos}
def LA:e4:=(λk B b=>k.aX B b)
def GN(D J:e4):e4:=(λk B b=>D {k with aX:=J k} B b)
def KO:h6 a [] LA:=λ_ W B b W y e=>tH ⟨B,b,y,e⟩
def Ta(t:hs a Y D)(A:h6 a c1 J):h6 a (Y::c1) (GN D J):=by
 intro G j B b k y e;refine Gn (b0 (t G j B b {k with aX:=J k} y e) λF c p=>?_);cases F with
 |next=>
  let⟨d,@T,f,p⟩:=p;exact A G c d T k f p
 |ret u=>exact p
 |brk=>exact p
 |cont=>exact p
def PY(t:hs a Y D):h6 a [Y] D:=by
 intro G j B b k y e;refine Gn (b0 (t G j B b k y e) λF c p=>?_);cases F with
 |next=>exact tH p
 |ret u=>exact p
 |brk=>exact p
 |cont=>exact p
def aI.quiet(y:aI a G B b j):interactive a.env=aA:=by simp[interactive,y.ok.kind]
def Sq(WA:b5):e4:=(λk B b=>WA B b λ_ Vt=>k.aX B Vt)
def J5(c:bG a d WA)(Vy:kC d X VC.line a.env=pure aA:=by rfl):hs a (.Expr d VC) (Sq WA):=by
 intro G j B b k y e;exact wpAny_Expr_any (b0 (c G j B b _ y e) λu i ⟨f,Vt,g,l,h⟩=>⟨B,Vt,g,h⟩) y.quiet Vy
def Ks(WA:b5):e4:=(λk B b=>WA B b k.ej)
def NR(c:bG a d WA):hs a (.Return (Z d) VC) (Ks WA):=by
 intro G j B b k y e;exact wpAny_Return_some (b0 (c G j B b _ y e) λu l ⟨f,Vt,g,h,i⟩=>⟨f,B,Vt,g,h,i⟩)
def Mq(o:eo)(D J:e4):e4:=(λk B b=>o B b λc Vt=>if c=V then D k B Vt else J k B Vt)
def LW{h c:List cf}(i:hA a o Q)(l:h6 a h D)(m:h6 a c J):hs a (.If o h c VC) (Mq Q D J):=by
 intro G j B b k y e;refine wpAny_If (b0 (i G j B b _ y e) λv d n=>?_);let⟨@Vt,f,g⟩:=n;cases v with
 |true=>exact l G d B Vt k f g
 |false=>exact m G d B Vt k f g
def Lw:e4:=(λ_ W W=>False)
def Mi:hs a Y Lw:=λ_ W W W W W e=>e.elim
end
abbrev gQ:=au->a6->aD->(a6->aD->Prop)->Prop
abbrev kn:=List au->a6->aD->(a6->aD->Prop)->Prop
def AV(a:aL)(d:bl)(D:gQ)(G:List (aj×ba)):Prop:=(
 ∀(j:ao) (B:a6) (b:aD) (u:au) (J:ae) (C:a6->aD->Prop),aI a G B b j->ck u J->D u B b C->
  wpAny (aO a.prog a.w) a.A (i2 d a.env J) (λ_ Vm=>∃c T,aI a G c T Vm/\C c T) a.cR j)
def j2(a:aL)(b:bl)(D:gQ):Prop:=(∀G,AV a b D G)
def BL(a:aL)(Wd:List bl)(D:kn)(G:List (aj×ba)):Prop:=(
 ∀(j:ao) (B:a6) (b:aD) (Vj:List au) (VH:List ae) (C:a6->aD->Prop),aI a G B b j->bY Vj VH->D Vj B b C->
  wpAny (aO a.prog a.w) a.A (Au ((jK Wd a.env).map (·.2)) VH) (λ_ Vm=>∃c T,aI a G c T Vm/\C c T) a.cR j)
def qq(a:aL)(Wd:List bl)(D:kn):Prop:=(∀G,BL a Wd D G)
abbrev ye:=au->au->au->aD->(aD->Prop)->Prop
def zW(a:aL)(D:ye):Prop:=(
 ∀(G:List (aj×ba)) (j:ao) (B:a6) (b:aD) (n g u:au) (c d J:ae) (C:aD->Prop),aI a G B b j->ck n c->ck g d->ck u J->D n g u b C->
  wpAny (aO a.prog a.w) a.A (p9 c d J) (λ_ Vm=>∃T,aI a G B T Vm/\C T) a.cR j)
section
variable{a:aL}{VC:Pos}
def zw(g:Nat):gQ:=(λu B b C=>C (B.set g<|Z u) b)
def UK(c:a.N.Nodup)(Vl:a.N[g]?=Z f)(d:j6 a.env.scope f)(h:a.fn f=V\/a.env.scope.names.lookup f=Z .local:=by first|exact .inl rfl|exact .inr rfl|assumption):j2 a (.Name f VC) (zw g):=by
 intro G j B b u J C y s e;exact D9 (u1 y c Vl d s (λVm i=>⟨_,b,i,e⟩) h)
def RS:kn:=(λVj B b C=>Vj=[]/\C B b)
def Mt(D:gQ)(J:kn):kn:=(λVj B b C=>∃u s,Vj=u::s/\D u B b λa T=>J s a T C)
def L_:qq a [] RS:=by
 intro G j B b Vj VH C y s e;let@⟨d,e⟩:=e;subst d;cases s;exact G4 ⟨B,b,y,e⟩
variable{S:List bl}
def Kb{D:gQ}{J:kn}(t:j2 a d D)(A:qq a S J)(Vy:(jK (d::S) a.env).map (·.2)=i2 d a.env::(jK S a.env).map (·.2):=by rfl):qq a (d::S) (Mt D J):=by
 intro G j B b Vj VH C y s e;let⟨u,@l,c,e⟩:=e;subst c;cases s with
 |cons s f=>
  rw[Vy];refine w2 (b0 (t G j B b _ _ _ y s e) λ_ g h=>?_);let⟨WW,@Vt,i,k⟩:=h;exact A G g WW Vt _ _ C i f k
def MV(R:Φ)(x:Nat)(D:kn):gQ:=(λu B b C=>∃h w,u=.ref h/\cZ R b h w/\w.length=x/\D w B b C)
def R9{D:kn}(i:a.calm=V)(e:qq a S D)(k:(jK S a.env).length=x:=by rfl)(l:(jK S a.env).findIdx? (·.1)=X:=by rfl):j2 a (.Tuple S q VC) (MV a.K x D):=by
 intro G j B b u J C y s f;let⟨h,@w,m,o,p,f⟩:=f;subst m;cases s;let⟨@VA,g,bI,v⟩:=y.tuple o;refine assign_Tuple_tuple (y.ok.hd i) bI (by simp[k,<-p,g.length]) l λVk r=>?_;have t:aI a G B b {j with heap:=Vk}:=y.kept (V1:=j.toks) λc n d=>r c n (c0<|cA d) d;exact e G _ B b w _ C t ⇑g f
def OA(k a:b5)(D:ye):gQ:=(λu B b C=>k B b λn Vt=>a B Vt λg VF=>D n g u VF λc=>C B c)
def yG{n g:bl}{k i:b5}{D:ye}(l:bG a n k)(Vl:bG a g i)(Vy:zW a D)(m:∀u,i2 (.Subscript n g VC) a.env u=(do
   let c <-holding [u] (bJ n a.env)
   let d <-holding [u,c] (bJ g a.env)
   standAt VC
   holding [u,c,d] (p9 c d u)
   release [u,c,d] []):=by intro W;rfl):j2 a (.Subscript n g VC) (OA k i D):=by
 intro G j B b u J C y s e;rw[m];refine aB (f9<|b0 (l G j B b _ y e) λc o h=>?_);let⟨f,@Vt,p,q,r⟩:=h;refine aB (f9<|b0 (Vl G o B Vt _ p r) λd t h=>?_);let⟨z,@VF,v,w,x⟩:=h;refine aB (tq<|aB<|f9<|b0 (Vy G t B VF f z u c d J _ v q w s x) λ_ H h=>?_);let⟨@A,E,F⟩:=h;exact wpAny_release ⟨B,A,E,F⟩
def zc(WA:b5)(L:gQ):e4:=(λk B b=>WA B b λf Vt=>L f B Vt k.aX)
def M9{L:gQ}(c:bG a d WA)(g:j2 a VR L)(Vy:tF [VR] d VC.line a.env=pure aA:=by rfl)(h:tR [VR] d a.env=pure X:=by rfl)(t:(jK [VR] a.env).map (·.2)=[i2 VR a.env]:=by rfl):hs a (.Assign [VR] d VC) (zc WA L):=by
 intro G j B b k y e;refine wpAny_Assign_stores (b0 (c G j B b _ y e) λu i ⟨f,Vt,l,m,n⟩=>?_) Vy h;rw[t];exact b0 (g G i B Vt f u _ l m n) λ_ o p=>p
def Ro{WM:Pos}(c:a.N.Nodup)(Vl:a.N[g]?=Z f)(h:j6 a.env.scope f)(i:bG a d WA)(Vy:kC d (Z<|.Name f WM) VC.line a.env=pure aA:=by rfl)(l:a.fn f=V\/a.env.scope.names.lookup f=Z .local:=by first|exact .inl rfl|exact .inr rfl|assumption):
  hs a (.Assign [.Name f WM] d VC) (zc WA<|zw g):=by
 intro G j B b k y e;refine wpAny_Assign_Name (b0 (i G j B b _ y e) λu q ⟨z,Vt,m,n,o⟩=>?_) Vy;exact u1 m c Vl h n (λr p=>⟨_,Vt,p,o⟩) l
def OL(g r:Nat)(We:fh):e4:=(λk B b=>We B b λVj Vt=>∃u H,Vj=[u,H]/\k.aX ((B.set g<|Z u).set r<|Z H) Vt)
def NM{z:az}{h c:bl}{mX q Wb:Pos}{Wf s t}(F:a.calm=V)(x:a.N.Nodup)(Vl:a.N[g]?=Z f)(I:a.N[r]?=Z z)(J:g≠r)(C:a.env.scope.names.lookup f=Z .local)(D:a.env.scope.names.lookup z=Z .local)(L:hg a [h,c] We)(M:tR [.Tuple [.Name f mX,.Name z q] Wf Wb] (.Tuple [h,c] s t) a.env=pure (Z [f,z]))(Vy:tF [.Tuple [.Name f mX,.Name z q] Wf Wb] (.Tuple [h,c] s t) VC.line a.env=pure aA:=by rfl):
  hs a (.Assign [.Tuple [.Name f mX,.Name z q] Wf Wb] (.Tuple [h,c] s t) VC) (OL g r We):=by
 intro G j B b k y e;rw[exec_Assign_arm];refine aB (tq ?_);rw[Vy];refine aB (aR ?_);rw[aJ ∅];refine aB (Tuple_<|b0 (L _ G j B b _ y e) λVH i P=>?_);let⟨Vj,@Vt,Q,R,v⟩:=P;let⟨u,@H,S,v⟩:=v;subst S;obtain⟨l,o,rfl,T,U⟩:∃l o,VH=[l,o]/\ck u l/\ck H o:=by
  cases R with
  |cons m p=>
   cases p with
   |cons al am=>
    cases am;exact⟨_,_,rfl,m,al⟩
 refine hp ?_ (by show 2<=sizeLine;decide);have an:aI a G B Vt {i with heap:=i.heap.push {cls:=.type "tuple",data:=.seq [l,o].toArray} }:=Q.kept (V1:=i.toks) λc n d=>cG _ d;rw[M];refine aB (aR ?_);show wpAny (aO a.prog a.w) a.A (do rule "assign.swapped-stores";let VP <-unpackItems (.ref i.heap.objs.size) 2 X;Au [λu=>wi a.env z u,λu=>wi a.env f u] VP.reverse;pure Flow.next) _ _ _;refine aB (j9<|aB<|unpackItems_tuple (items:=#[l,o]) (y.ok.hd F) (oz.new i.heap _) λVk ap=>?_);have as:=an.kept (Vk:=Vk) (V1:=i.toks) λc n d=>ap c n (c0<|cA d) d;show wpAny _ _ (Au [λu=>wi a.env z u,λu=>wi a.env f u] [o,l] >>= λ_=>pure Flow.next) _ _ _;refine aB (w2<|Ej<|u1 as x I (.inl D) U (λa2 a1=>?_)<|.inr D);refine w2 (Ej<|u1 a1 x Vl (.inl C) T (λbd E=>G4<|aR ?_)<|.inr C);rw[yI _ _ (eZ J)]at E;exact⟨_,Vt,E,v⟩
end
section
variable{a:aL}{VC:Pos}
def Ly(o:eo)(Wy:e4):e4:=(λk B b=>∃W:Nat->a6->aD->Prop,(∃l,W l B b)/\∀l B b,W l B b->
 o B b λc Vt=>if c=V then ∃VS:a6->aD->Prop,(∀a T,VS a T->∃d,d<l/\W d a T)/\Wy {k with aX:=VS,b3:=VS,d0:=k.aX} B Vt else k.aX B Vt)
def NX(p:q0 (aO a.prog a.w) a.A a.env a.cR)(t:hA a o Q)(v:h6 a WT Wy):hs a (.While o WT [] VC) (Ly Q Wy):=by
 intro G j B b k y e;let⟨@W,⟨@z,gi⟩,turn⟩:=e;refine wpAny_While (codeAny_whileLoop (λx Vm=>∃q T,aI a G q T Vm/\W x q T) ?_ z ⟨B,b,y,gi⟩);rintro x C ⟨WW,Vt,D,cp⟩;refine oH p (b0 (t G C WW Vt _ D<|turn x WW Vt cp) λc E I=>?_);let⟨@VF,r,g⟩:=I;cases c with
 |true=>
  let⟨@VS,s,g⟩:=g;rw[aF rfl];refine oH p (b0 (v G E WW VF _ r g) λF J h=>?_);cases F with
  |next=>
   let⟨d,@f,i,l⟩:=h;let⟨@m,n,de⟩:=s d f l;exact⟨m,n,d,f,i,de⟩
  |cont=>
   let⟨d,@f,i,l⟩:=h;let⟨@m,n,de⟩:=s d f l;exact⟨m,n,d,f,i,de⟩
  |brk=>exact h
  |ret u=>exact h
 |false=>
  rw[aJ da];exact tH ⟨WW,VF,r,g⟩
end
structure fs where
 go:Nat->aD->Prop
 vm:Nat->aD->au->aD->Prop
 stop:Nat->aD->Prop
def mh(a:aL)(G:List (aj×ba))(b:aD)(c:aj):Prop:=(
 b c=X/\c≠a.env.locals/\c∉a.ah/\(c∈a.ex\/a.e7.heap.objs.size<=c)/\(∀f o,a.env.cells.lookup f=Z o->o≠c)/\∀m∈a.k9++G,m.1≠c)
def aI.vZ(y:aI a G B b j)(e:j.heap.objs.size<=c)(g:T c=X):mh a G T c:=by
 refine⟨g,me<|eJ y.lt e,y.Mu e,.inr<|dc y.g9 e,λf o d i=>?_,λm h i=>?_⟩
 ·let⟨@u,p⟩:=y.cell f o d;exact absurd (eJ p.lt (by rw[i];exact e)) (iM _)
 ·exact absurd (eJ (cA (y.pin m h).1) (by rw[i];exact e)) (iM _)
structure se(Vz:bE)(H:bg)(R:Φ)(VR:bl)(Wk:fs)(cg:List aj)(Vr:aj)(E:Nat->a4->Prop):Prop where
 mem:Vr∈cg
 obj:∀g e,E g e->∀c∈cg,∃n,e.get? c=Z n/\∀u,n.data≠.cell u
 keep:∀g e Vk,E g e->(∀c∈cg,∀n,e.get? c=Z n->Vk.get? c=Z n)->E g Vk
 item:∀(a:aL),a.prog=Vz->a.w=H->a.K=R->a.calm=V->∀(g:Nat) (G:List (aj×ba)) (j:ao) (B:a6) (b:aD) (Vo:ae->ao->Prop),aI a G B b j->(∀c∈cg,mh a G b c)->E g j.heap->Wk.go g b->
  wpAny (aO Vz H) a.A (gm<|.ref Vr) (λs s1=>∃J,s=Z J/\
   wpAny (aO Vz H) a.A (u9 VR (.ref Vr) J) (λ_ s2=>∃f T,aI a G B T s2/\ck f J/\Wk.vm g b f T/\E (g+1) s2.heap/\∀c∈cg,T c=X) Vo s1) Vo j
 done:∀(a:aL),a.prog=Vz->a.w=H->a.K=R->a.calm=V->∀(g:Nat) (G:List (aj×ba)) (j:ao) (B:a6) (b:aD) (Vo:ae->ao->Prop),aI a G B b j->(∀c∈cg,mh a G b c)->E g j.heap->Wk.stop g b->
  wpAny (aO Vz H) a.A (gm<|.ref Vr) (λs s1=>s=X/\aI a G B b s1) Vo j
 self:∀(O:bq) (g:Nat) (j:ao) (C:ae->ao->Prop) (Vo:ae->ao->Prop),E g j.heap->C (.ref Vr) j->wpAny (aO Vz H) O (nB<|.ref Vr) C Vo j
abbrev jo:=a6->aD->(fs->aD->Prop)->Prop
def A5(a:aL)(G:List (aj×ba))(B:a6)(VR:bl)(Vp:fs->aD->Prop)(d:ae)(b:ao):Prop:=(
 ∃(Vr:aj) (cg:List aj) (E:Nat->a4->Prop) (Wk:fs) (T:aD),d=.ref Vr/\aI a G B T b/\se a.prog a.w a.K VR Wk cg Vr E/\E 0 b.heap/\(∀c∈cg,mh a G T c)/\Vp Wk T)
def Bc(a:aL)(VR Wo:bl)(WS:jo)(G:List (aj×ba)):Prop:=(
 ∀(j:ao) (B:a6) (b:aD) (Vp:fs->aD->Prop),aI a G B b j->WS B b Vp->
  wpAny (aO a.prog a.w) a.A (bJ Wo a.env) (λu c=>wpAny (aO a.prog a.w) a.A (nB u) (A5 a G B VR Vp) a.cR c) a.cR j)
def kF(a:aL)(VR Wo:bl)(WS:jo):Prop:=(∀G,Bc a VR Wo WS G)
def u4{ay:gc}{Vo:ae -> ao -> Prop}{x:String}{Vj:Array ae}{C:Unit -> ao -> Prop}(b:j.heap.get? Vr=Z n)(c:n.cls=.type x)(hd:n.data=.fields Vj)(d:["enumerate", "zip", "dict_itemiterator", "dict_reverseitemiterator", "odict_iterator", "itertools.zip_longest", "itertools.pairwise"].contains x=aA)(a:C () j): wpAny ay O (u9 VR (.ref Vr) J) C Vo j:=by
  unfold u9;cases VR <;> first
    | exact aR a
    | (cases J <;> first
        | exact aR a
        | (refine aB (zB b ?_)
           rw [c,hd];show wpAny ay O (if (["enumerate", "zip", "dict_itemiterator", "dict_reverseitemiterator", "odict_iterator", "itertools.zip_longest", "itertools.pairwise"].contains x&&Vj[0]? == Z (fq _))=V then _ else _) C Vo j;rw [aJ (by intro e; rw [d,Gp]at e; cases e)];exact aR a))
def sG(R:Φ)(h:aj):fs:=(
 ⟨λg b=>∃w f,dw R b h w/\w[g]?=Z f,λg b f T=>T=b/\∀w,dw R b h w->w[g]?=Z f,λg b=>∃w,dw R b h w/\w.length<=g⟩)
def uC(R:Φ)(h:aj):fs:=(
 ⟨λg b=>∃w f,cZ R b h w/\w[g]?=Z f,λg b f T=>T=b/\∀w,cZ R b h w->w[g]?=Z f,λg b=>∃w,cZ R b h w/\w.length<=g⟩)
def tK(M:Int)(x:Nat):fs:=(⟨λg W=>g<x,λg b f T=>T=b/\f=.int (M+g),λg W=>x<=g⟩)
theorem IT(h Vr:aj):se Vz H R VR (sG R h) [Vr] Vr (λg e=>e.IsListIter Vr h g) where
 mem:=by simp
 obj:=λg e Y c k=>by
  have d:c=Vr:=by simpa using k
  subst d;let⟨@n,d,o,v⟩:=Y;exact⟨n,d,λu i=>by rw[v]at i;cases i⟩
 keep:=λg e Vk Y q=>Y.at λn d=>q Vr ↥0 n d
 item:=by
  intro a r s t I g G j B b Vo y l Y x;subst r s t;let⟨w,@f,p,z⟩:=x;let⟨@VA,A,m,M⟩:=y.list p;let⟨@J,N,O⟩:=A.get z;let@⟨WK,C,P,D,E,F⟩:=l Vr ↥0;refine wpAny_pyNext_list_item Y m.isList (x:=J) ⇑N λVk L cP=>?_;have Q:aI a G B b {j with heap:=Vk}:=y.turned (V1:=j.toks) (λc n k d=>(cP.2 c k).trans d) WK C D E F;let⟨@n,d,o,v⟩:=id L;exact⟨J,rfl,u4 (j:={j with heap:=Vk}) d o v ∅ ⟨f,b,Q,O,⟨rfl,λVJ S=>by rw[y.Uh S p];exact z⟩,L,λc k=>(l c k).1⟩⟩
 done:=by
  intro a r s t I g G j B b Vo y l Y x;subst r s t;let⟨@w,p,z⟩:=x;let⟨@VA,A,m,M⟩:=y.list p;let@⟨WK,C,P,D,E,F⟩:=l Vr ↥0;have U:=A.length;exact wpAny_pyNext_list_end (y.ok.hd I) Y m.isList (by simp;lia) λVk T=>⟨rfl,y.turned (V1:=j.toks) (λc n k d=>T c n k d) WK C D E F⟩
 self:=λ_ W W W W Y e=>wpAny_pyIter_listiter Y e
theorem OC(h Vr:aj):se Vz H R VR (uC R h) [Vr] Vr (λg e=>e.IsTupleIter Vr h g) where
 mem:=by simp
 obj:=λg e Y c k=>by
  have d:c=Vr:=by simpa using k
  subst d;let⟨@n,d,o,v⟩:=Y;exact⟨n,d,λu i=>by rw[v]at i;cases i⟩
 keep:=λg e Vk Y q=>Y.at λn d=>q Vr ↥0 n d
 item:=by
  intro a r s t I g G j B b Vo y l Y x;subst r s t;let⟨w,@f,p,z⟩:=x;let⟨@VA,A,m,M⟩:=y.tuple p;let⟨@J,N,O⟩:=A.get z;let@⟨WK,C,P,D,E,F⟩:=l Vr ↥0;refine wpAny_pyNext_tuple_item Y (show j.heap.IsTuple h VA.toArray from m) (x:=J) ⇑N λVk L cP=>?_;have Q:aI a G B b {j with heap:=Vk}:=y.turned (V1:=j.toks) (λc n k d=>(cP.2 c k).trans d) WK C D E F;let⟨@n,d,o,v⟩:=id L;exact⟨J,rfl,u4 (j:={j with heap:=Vk}) d o v ∅ ⟨f,b,Q,O,⟨rfl,λVJ S=>by rw[y.PC S p];exact z⟩,L,λc k=>(l c k).1⟩⟩
 done:=by
  intro a r s t I g G j B b Vo y l Y x;subst r s t;let⟨@w,p,z⟩:=x;let⟨@VA,A,m,M⟩:=y.tuple p;let@⟨WK,C,P,D,E,F⟩:=l Vr ↥0;have U:=A.length;exact wpAny_pyNext_tuple_end (y.ok.hd I) Y (show j.heap.IsTuple h VA.toArray from m) (by simp;lia) λVk T=>⟨rfl,y.turned (V1:=j.toks) (λc n k d=>T c n k d) WK C D E F⟩
 self:=λ_ W W W W Y e=>wpAny_pyIter_tupleiter Y e
theorem Sg(Vr:aj)(M:Int)(x:Nat):se Vz H R VR (tK M x) [Vr] Vr (λg e=>IsRangeIter e Vr (M+(g:Nat)*1) ((x:Int)-(g:Nat)) 1) where
 mem:=by simp
 obj:=λg e Y c f=>by
  have d:c=Vr:=by simpa using f
  subst d;exact⟨_,Y,λu i=>by
   have A:Data.fields _=Data.cell u:=i;cases A⟩
 keep:=λg e Vk Y q=>q Vr ↥0 _ Y
 item:=by
  intro a k l m o g G j B b Vo y h Y p;subst k l m;let@⟨WK,r,C,s,t,v⟩:=h Vr ↥0;have W:=iK.range (prog:=a.prog) (w:=a.w) (y.ok.hd o) Vr M 1 x;refine W.item g j _ _ p Y λu Vk Vq E z dO=>?_;let⟨@D,rfl⟩:=E;have F:aI a G B b {j with heap:=Vk,toks:=Vq}:=y.turned (λc n f d=>dO c n ⇑f d) WK r s t v;refine⟨_,rfl,u4 (j:={j with heap:=Vk,toks:=Vq}) (x := "range_iterator") z rfl rfl ∅ ⟨.int<|M+g,b,F,⟨D,?_⟩,⟨rfl,rfl⟩,z,λc f=>(h c f).1⟩⟩;rw[Ex]
 done:=by
  intro a k l m o g G j B b Vo y h Y p;subst k l m;let@⟨WK,r,C,s,t,v⟩:=h Vr ↥0;exact wpAny_pyNext_range_end (y.ok.hd o) Y (by have:x<=g:=p;lia) λVk I=>⟨rfl,y.turned (V1:=j.toks) (λc n f d=>I c n f d) WK r s t v⟩
 self:=λ_ U U U U Y e=>wpAny_pyIter_rangeiter Y e
section
variable{a:aL}{VR:bl}
def MB{Vp:fs->aD->Prop}{M Vl:Int}{D J u:hX}{Vq:Nat}(y:aI a G B b j)(t : -(2^62)<=M)(A:M<2^62)(f : -(2^62)<=Vl)(g:Vl<2^62)(p:Vp (tK M (Vl-M).toNat) b):wpAny (aO a.prog a.w) a.A (nB<|.ref j.heap.objs.size) (A5 a G B VR Vp) Vo {j with heap:=j.heap.push {cls:=.type "range",data:=.fields #[.int M D,.int Vl J,.int 1 u]},toks:=Vq}:=by
 refine wpAny_pyIter_range (IsRange.new ..) (small_one t A f g) ?_;have e:aI a G B b {j with heap:=j.heap.push {cls:=.type "range",data:=.fields #[.int M D,.int Vl J,.int 1 u]},toks:=Vq}:=y.kept λc n d=>cG _ d;refine⟨(j.heap.push {cls:=.type "range",data:=.fields #[.int M D,.int Vl J,.int 1 u]}).objs.size,[(j.heap.push {cls:=.type "range",data:=.fields #[.int M D,.int Vl J,.int 1 u]}).objs.size],_,_,b,rfl,
  e.kept (V1:=Vq) λc n d=>cG _ d,Sg _ M (Vl-M).toNat,?_,λc h=>?_,p⟩
 ·have i:M+((0:Nat):Int)*1=M:=by simp
  have k:(((Vl-M).toNat:Nat):Int)-((0:Nat):Int)=bH.Range.rangeSize M Vl 1:=by rw[rangeSize_one];split<;>lia
  show IsRangeIter _ _ (M+((0:Nat):Int)*1) ((((Vl-M).toNat:Nat):Int)-((0:Nat):Int)) 1;rw[i,k];exact dM _ rfl
 ·have d:c=(j.heap.push {cls:=.type "range",data:=.fields #[.int M D,.int Vl J,.int 1 u]}).objs.size:=by simpa using h
  subst d;exact e.vZ (bD _) (e.a5.fresh<|bD _)
def Ss(We:fh):jo:=(λB b Vp=>We B b λVj Vt=>∃r:Int,Vj=[.int r] /\ -(2^62)<=r/\r<2^62/\Vp (tK 0 r.toNat) Vt)
variable{VC:Pos}
def LJ{h:bl}{m:Pos}(f:eu a "range")(g:a.aU "range" = X)(i:hg a [h] We)(Vy:bP [h] a.env=[(aA,bJ h a.env)]:=by rfl):kF a VR (.Call (.Name "range" m) [h] [] VC) (Ss We):=by
 intro G j B b Vp y e;refine Call_ (pU y f g boot_range<|zJ (b0 (i VC G j B b _ y e) λVH q ⟨Vj,Vt,k,l,c⟩=>?_) Vy rfl);let⟨@r,d,c,n,p⟩:=c;subst d;cases l with
 |cons s o=>
  cases o;let⟨@D,rfl⟩:=s;exact call_range_1 (MB k ⋯ ⋯ c n ⇑p)
def Fm(WS:jo)(L:gQ)(Wy:e4):e4:=(λk B b=>WS B b λWk Vt=>∃W:Nat->Nat->a6->aD->Prop,(∃l,W 0 l B Vt)/\∀g l B b,W g l B b->
 (Wk.stop g b/\k.aX B b)\/(Wk.go g b/\∃VS:a6->aD->Prop,(∀a T,VS a T->∃c,c<l/\W (g+1) c a T)/\∀f T,Wk.vm g b f T->L f B T λd VF=>Wy {k with aX:=VS,b3:=VS,d0:=k.aX} d VF))
def mr(cg:List aj)(e:a4):List (aj×ba):=(cg.filterMap λc=>(e.get? c).map λn=>(c,n))
def tU(a:c∈cg)(d:e.get? c=Z n):(c,n)∈mr cg e:=tj.mpr ⟨c,a,by rw[d];rfl⟩
def HW{m:aj×ba}(a:m∈mr cg e):m.1∈cg/\e.get? m.1=Z m.2:=by
 let⟨@c,b,d⟩:=tj.mp a;cases p:e.get? c with
 |none=>rw[p]at d;cases d
 |some n=>
  rw[p]at d;have f:(c,n)=m:=Option.some.inj d;subst f;exact⟨b,p⟩
def aI.pinned(y:aI a G B b j)(g:∀c∈cg,mh a G b c)(h:∀c∈cg,∃n,j.heap.get? c=Z n/\∀u,n.data≠.cell u):aI a (G++mr cg j.heap) B b j:=
 y.qC λm k=>(du.mp k).elim (λi=>y.pin m<|dy _ i) λi=>by
  let@⟨e,d⟩:=HW i;let@⟨WK,l,o,_⟩:=g m.1 e;let⟨@n,f,v⟩:=h m.1 e;rw[d]at f;cases f;exact⟨d,WK,l,o,v⟩
def aI.wG{aZ:List (aj×ba)}(y:aI a (G++aZ) B b j):aI a G B b j:=y.qC λm c=>y.pin m (dy _<|dW _ c)
def AW{Wo:bl}{WS:jo}{L:gQ}(r:q0 (aO a.prog a.w) a.A a.env a.cR)(R:a.calm=V)(Vl:kF a VR Wo WS)(a1:j2 a VR L)(h:h6 a WT Wy)(Vy:∀f,k4 Wo a.env f=pure f:=by intro O;rfl):hs a (.For VR Wo WT [] VC) (Fm WS L Wy):=by
 intro G j B b k y e;refine wpAny_For (b0 (Vl G j B b _ y e) λu fn t=>b0 t λfr f0 A=>?_) Vy;let⟨Vr,cg,E,Wk,@VF,d,a2,Vv,bd,S,⟨@W,⟨@be,gi⟩,turn⟩⟩:=A;subst d;have M:∀{T:aD},(∀c∈cg,T c=X)->∀c∈cg,mh a G T c:=λbi c h=>⟨bi c h,(S c h).2⟩;refine codeAny_forLoop_any (λx Vm=>∃g z T,aI a G z T Vm/\E g Vm.heap/\(∀c∈cg,T c=X)/\W g x z T) ?_ be ⟨0,B,VF,a2,bd,λc h=>(S c h).1,gi⟩;rintro x U ⟨g,C,I,al,am,an,de⟩;rcases turn g x C I de with ⟨stop,bm⟩|⟨go,VS,bn,step⟩
 ·refine oH r (b0 (Vv.done a rfl rfl rfl R g G U C I a.cR al (M an) am stop) λs bs q=>?_);let@⟨N,bv⟩:=q;subst N;exact tH ⟨C,I,bv,bm⟩
 ·refine oH r (b0 (Vv.item a rfl rfl rfl R g G U C I a.cR al (M an) am go) λs bs q=>?_);let⟨@J,N,ca⟩:=q;subst N;refine oH r (b0 ca λ_ ap q=>?_);let⟨f,@as,cd,ce,ch,P,ci⟩:=q;have cl:=cd.pinned (M ci) (Vv.obj _ _ P);refine oH r (b0 (a1 _ ap C as f J _ cl ce<|step f as ch) λ_ co q=>?_);let⟨cr,@cs,db,ds⟩:=q;refine oH r (b0 (h _ co cr cs _ db ds) λF Q p=>?_);have again:∀{i:a6}{m:aD},aI a (G++mr cg ap.heap) i m Q->VS i m->∃l,l<x/\∃g z T,aI a G z T Q/\E g Q.heap/\(∀c∈cg,T c=X)/\W g l z T:=λ{i m} o D=>by
   let⟨@dL,eq,ev⟩:=bn i m D;refine⟨dL,eq,g+1,i,m,o.wG,Vv.keep _ _ _ P λc h n d=>(o.pin (c,n)<|dy _<|dy _<|tU h d).1,λc h=>?_,ev⟩;let⟨@n,d,v⟩:=Vv.obj _ _ P c h;exact (o.pin (c,n)<|dy _<|dy _<|tU h d).2.1
  cases F with
  |next=>let⟨i,@m,o,D⟩:=p;exact again o D
  |cont=>let⟨i,@m,o,D⟩:=p;exact again o D
  |brk=>let⟨i,@m,o,p⟩:=p;exact⟨i,m,o.wG,p⟩
  |ret u=>let⟨ex,i,@m,o,fd,p⟩:=p;exact⟨ex,i,m,o.wG,fd,p⟩
end
abbrev bR:=au->au->aD->cW->Prop
variable{Wh s:bR}
def ek(a:aL)(F:ae->ae->dD ae)(s:bR):Prop:=(
 ∀(G:List (aj×ba)) (j:ao) (B:a6) (b:aD) (f z:au) (u J:ae) (C:cW),aI a G B b j->ck f u->ck z J->s f z b C->
  wpAny (aO a.prog a.w) a.A (F u J) (eM a G B C) a.cR j)
def eD(a:aL)(F:ae)(s:List au->aD->cW->Prop):Prop:=(
 ∀(G:List (aj×ba)) (j:ao) (B:a6) (b:aD) (w:List au) (VH:List ae) (C:cW),aI a G B b j->bY w VH->s w b C->
  wpAny (aO a.prog a.w) a.A (call F VH) (eM a G B C) a.cR j)
def I7(a:aL)(s:au->aD->(Bool->aD->Prop)->Prop):Prop:=(
 ∀(G:List (aj×ba)) (j:ao) (B:a6) (b:aD) (f:au) (u:ae) (C:Bool->aD->Prop),aI a G B b j->ck f u->s f b C->
  wpAny (aO a.prog a.w) a.A (truthy u) (wo a G B C) a.cR j)
def uu(s:bR)(We Wy:b5):b5:=(λB b C=>We B b λf Vt=>Wy B Vt λz VF=>s f z VF C)
def qY(ab:Int->Int->Prop)(L:Int->Int->au):bR:=(λf z b C=>∃g r,f=.int g/\z=.int r/\ab g r/\C (L g r) b)
def mY(L:Int->Int->au):bR:=(λf z b C=>∃g r,f=.int g/\z=.int r/\C (L g r) b)
section
variable{a:aL}{h c o:bl}{We Wy Q:b5}{VC:Pos}
def xp(i:bG a h We)(k:bG a c Wy){G:List (aj×ba)}{j:ao}{B:a6}{b:aD}{Vp:au->au->aD->Prop}(y:aI a G B b j)(e:We B b λf Vt=>Wy B Vt λz VF=>Vp f z VF){C:ae->ao->Prop}{F:ae->ae->dD ae}(l:∀u J d f z VF,aI a G B VF d->ck f u->ck z J->Vp f z VF->wpAny (aO a.prog a.w) a.A (F u J) C a.cR d):
  wpAny (aO a.prog a.w) a.A (bJ h a.env) (λu m=>wpAny (aO a.prog a.w) a.A (bJ c a.env) (λJ n=>wpAny (aO a.prog a.w) a.A (F u J) C a.cR n) a.cR m) a.cR j:=by
 refine b0 (i G j B b _ y e) λu o g=>?_;let⟨f,@Vt,p,q,r⟩:=g;refine b0 (k G o B Vt _ p r) λJ d g=>?_;let⟨z,@VF,s,t,v⟩:=g;exact l u J d f z VF s q t v
def R3{Wa:Operator}(d:ek a (gG Wa) s)(g:bG a h We)(i:bG a c Wy):bG a (.BinOp h Wa c VC) (uu s We Wy):=by
 intro G j B b C y e;exact wpAny_BinOp (xp g i y e λu J k f z VF l m n p=>d G k B VF f z u J C l m n p)
def tf{ab:Int->Int->Prop}(c:∀(g r:Int) (D J:hX) (j:ao) (C:ae->ao->Prop) (Vo:ae->ao->Prop),ab g r->C (.int (L g r) j.toks) {j with toks:=j.toks+1}->wpAny (aO a.prog a.w) a.A (F (.int g D)<|.int r J) C Vo j):
  ek a F (qY ab λg r=>.int<|L g r):=by
 intro G j B b f z u J C y d h e;let⟨g,@r,rfl,rfl,i,p⟩:=e;let⟨@D,rfl⟩:=d;let⟨@V1,rfl⟩:=h;exact c g r D V1 j _ _ i ⟨.int<|L g r,b,y.tok _,⟨_,rfl⟩,p⟩
def AQ(c:∀(g r:Int) (D J:hX) (j:ao) (C:ae->ao->Prop) (Vo:ae->ao->Prop),C (.int (L g r) j.toks) {j with toks:=j.toks+1}->wpAny (aO a.prog a.w) a.A (F (.int g D)<|.int r J) C Vo j):
  ek a F (mY λg r=>.int<|L g r):=by
 intro G j B b f z u J C y d h e;let⟨g,@r,rfl,rfl,p⟩:=e;let⟨@D,rfl⟩:=d;let⟨@V1,rfl⟩:=h;exact c g r D V1 j _ _ ⟨.int<|L g r,b,y.tok _,⟨_,rfl⟩,p⟩
def w_{L:Int->Int->Bool}(c:∀(g r:Int) (D J:hX) (j:ao) (C:ae->ao->Prop) (Vo:ae->ao->Prop),C (.bool<|L g r) j->wpAny (aO a.prog a.w) a.A (F (.int g D)<|.int r J) C Vo j):
  ek a F (mY λg r=>.av<|L g r):=by
 intro G j B b f z u J C y d h e;let⟨g,@r,rfl,rfl,p⟩:=e;let⟨@D,rfl⟩:=d;let⟨@V1,rfl⟩:=h;exact c g r D V1 j _ _ ⟨.av<|L g r,b,y,rfl,p⟩
def KN(g r:Int):Prop:=(0<r/\r<1073741824)
def RE(g r:Int):Prop:=(0<=r/\r<=1000000/\g.natAbs<2^64)
def M4:ek a (gG .Add) (mY λg r=>.int<|g+r):=AQ λ_ W W W W W W p=>add_int p
def Sw:ek a (gG .Sub) (mY λg r=>.int<|g-r):=AQ λ_ W W W W W W p=>sub_int p
def P6:ek a (gG .FloorDiv) (qY KN λg r=>.int<|g/r):=tf λg r W W W W W b p=>by
 have t:(0:Int)<r:=b.1;have A:r<1073741824:=b.2;exact floordiv_int ⋯ (by rw[Int.fdiv_eq_ediv_of_nonneg g ⋯];exact p) (.inl (PyProof.noPylong_small ⋯))
def Iv:ek a (gG .Mod) (qY (λ_ r=>0<r) λg r=>.int<|g%r):=tf λg r W W W W W b p=>by
 have t:(0:Int)<r:=b;exact mod_int' ⋯ (by rw[Int.fmod_eq_emod_of_nonneg g ⋯];exact p)
def Td:ek a (gG .Pow) (qY RE λg r=>.int<|g^r.toNat):=tf λ_ W W W W W W b p=>pow_int_small b.1 b.2.1 b.2.2 p
def KP:ek a (e2 .LtE) (mY λg r=>.av<|decide (g<=r)):=w_ λ_ W W W W W W p=>le_int p
def T_:ek a (e2 .Gt) (mY λg r=>.av<|decide (r<g)):=w_ λ_ W W W W W W p=>gt_int p
def OB:ek a (e2 .GtE) (mY λg r=>.av<|decide (r<=g)):=w_ λ_ W W W W W W p=>ge_int p
def ek.or(e:ek a F s)(Vk:ek a F Wh):ek a F (λf z b C=>s f z b C\/Wh f z b C):=by
 intro G j B b f z u J C y c d p;rcases p with p|p
 ·exact e G j B b f z u J C y c d p
 ·exact Vk G j B b f z u J C y c d p
def BY(c:bl){Wa:jI}(e:Wa≠.In:=by decide)(A:Wa≠.NotIn:=by decide):oL Wa c=aA:=by
 have a:(Wa==jI.In)=aA:=by cases Wa<;>first|rfl|exact absurd rfl e
 have b:(Wa==jI.NotIn)=aA:=by cases Wa<;>first|rfl|exact absurd rfl A
 cases c<;>simp[oL,a,b]
def N1(d:ek a (e2 Wa) s)(g:bG a h We)(i:bG a c Wy)(k:oL Wa c=aA):bG a (.Compare h [Wa] [c] VC) (uu s We Wy):=by
 intro G j B b C y e;exact wpAny_Compare1 (xp g i y e λu J l f z VF m n o p=>d G l B VF f z u J C m n o p) k
def Cz(D:b5):eo:=(λB b C=>D B b λf T=>∃q,f=.av q/\C q T)
def AU(g:ek a (e2 Wa) s)(k:bG a h We)(l:bG a c Wy)(m:oL Wa c=aA):hA a (.Compare h [Wa] [c] VC) (Cz<|uu s We Wy):=by
 intro G j B b C y e;refine wpAny_isTrue_Compare1 (b0 (k G j B b _ y e) λu n ⟨f,Vt,p,r,t⟩=>b0 (l G n B Vt _ p t) λJ v ⟨z,VF,w,x,A⟩=>
  b0 (g G v B VF f z u J _ w r x A) λo I ⟨i,D,E,F,q,d,H⟩=>?_) m;subst d;cases F;exact lB ⟨D,E,H⟩
def G0(s Wh:bR)(We Wy Q:b5):b5:=(λB b C=>We B b λf Vt=>Wy B Vt λz VF=>s f z VF λi a=>∃q,i=.av q/\
 (if q=V then Q B a λc d=>Wh z c d C else C (.av aA) a))
def Kq{g:jI}(p:ek a (e2 Wa) s)(r:ek a (e2 g) Wh)(t:bG a h We)(w:bG a c Wy)(x:bG a o Q)(A:lastMarks [Wa,g] [c,o]=aA:=by with_unfolding_all rfl):hA a (.Compare h [Wa,g] [c,o] VC) (Cz<|G0 s Wh We Wy Q):=by
 intro G j B b C y e;refine isTrue_chain (b0 (t G j B b _ y e) λu D ⟨f,Vt,E,F,H⟩=>test_link (b0 (w G D B Vt _ E H) λJ I ⟨z,VF,L,k,M⟩=>
  b0 (p G I B VF f z u J _ L F k M) λv N ⟨i,l,m,O,q,d,n⟩=>?_)) A;subst d;cases O;refine lB ?_;cases q with
 |false=>
  let⟨@bm,P,R⟩:=n;cases P;exact ite_ff ⟨l,m,R⟩
 |true=>
  refine ite_tt (test_last<|b0 (x G N B l _ m n) λS T ⟨U,al,am,an,ap⟩=>b0 (r G T B al z U J S _ am k an ap) λbn bs as=>?_);let⟨bv,@a1,a2,bd,⟨@ca,be,bi⟩⟩:=as;subst be;cases bd;exact lB ⟨a1,a2,bi⟩
def yr(R:Φ)(f:au)(b:aD)(q:Bool):Prop:=(
 match f with
 |.a3=>q=aA
 |.av c=>q=c
 |.int g=>q=(g != 0)
 |.str z=>z.length<=sizeLine/\q=((z.length:Int) != 0)
 |.pS z=>z.size<=sizeLine/\q=((z.size:Int) != 0)
 |.ref m=>(∃w,dw R b m w/\q=!w.isEmpty)\/(∃w,cZ R b m w/\q=!w.isEmpty)\/∃Vx,b m=Z (.dJ Vx)/\q=!Vx.isEmpty
 |_=>False)
def OU{VO:Type}{Vx:List (VO×au)}{Vj:List (VO×ae)}(s:gf Vx Vj):(!Vj.isEmpty)=!Vx.isEmpty:=by
 cases s<;>rfl
def Dd{w:List au}{VA:List ae}(s:bY w VA):(!VA.toArray.isEmpty)=!w.isEmpty:=by
 cases s<;>simp
def nR:(sizeLine:Nat)<2^63:=by rw[rX];decide
def Nn:I7 a (λf b C=>∃q,yr a.K f b q/\C q b):=by
 intro G j B b f u C y i e;let⟨@q,d,p⟩:=e;have v:=nR;have Vy:sizeLine=16777216:=rX;cases f with
 |a3=>
  cases i;have h:q=aA:=d;subst h;exact truthy_none ⟨b,y,p⟩
 |av c=>
  cases i;have h:q=c:=d;subst h;exact lB ⟨b,y,p⟩
 |int g=>
  let⟨@D,rfl⟩:=i;have h:q=(g != 0):=d;subst h;exact PySem.P.truthy_int ⟨b,y,p⟩
 |str z=>
  let⟨@D,rfl⟩:=i;obtain⟨r,h⟩:z.length<=sizeLine/\q=((z.length:Int) != 0):=d;subst h;exact PySem.P.truthy_str ⋯ ⟨b,y.tok _,p⟩
 |pS z=>
  let⟨@D,rfl⟩:=i;obtain⟨r,h⟩:z.size<=sizeLine/\q=((z.size:Int) != 0):=d;subst h;exact PySem.W.truthy_bytes ⋯ ⟨b,y.tok _,p⟩
 |ref m=>
  cases i;have h:(∃w,dw a.K b m w/\q=!w.isEmpty)\/(∃w,cZ a.K b m w/\q=!w.isEmpty)\/∃Vx,b m=Z (.dJ Vx)/\q=!Vx.isEmpty:=d;rcases h with ⟨w,k,h⟩|⟨w,k,h⟩|⟨Vx,k,h⟩
  ·subst h;let⟨@VA,s,aZ,n⟩:=y.list k;have o:=s.length;exact wpAny_truthy_list aZ.isList (by simp only[cN];lia) ⟨b,y.tok _,by rw[Dd s];exact p⟩
  ·subst h;let⟨@VA,s,aZ,n⟩:=y.tuple k;have o:=s.length;exact truthy_tuple aZ (by simp only[cN];lia) ⟨b,y.tok _,by rw[Dd s];exact p⟩
  ·subst h;obtain⟨n,t,Vj,s,l⟩:Vx.length<=sizeLine/\(m==iX)=aA/\∃Vj,gf Vx Vj/\j.heap.DictOf (mn a.prog a.w) m Vj:=y.a5 m _ k;have o:Vx.length=Vj.length:=dE.length s;exact wpAny_truthy_dict t l ⋯ ⟨b,y.tok _,by rw[OU s];exact p⟩
 |_=>exact (show False from d).elim
def RZ(d:bG a h We)(g:∀c,o9 h a.env c=(do let u <-c;standAt h.pos;holding [u] (truthy u))):
  hA a h (λB b C=>We B b λf T=>∃q,yr a.K f T q/\C q T):=by
 intro G j B b C y e;exact isTrue_plain (b0 (d G j B b _ y e) λu i ⟨f,Vt,k,l,m⟩=>Nn G i B Vt f u C k l m) (g _)
def LS:ek a (gG .Add) (λf z b C=>∃g r,f=.str g/\z=.str r/\g.length+r.length<=sizeLine/\C (.str<|g++r) b):=by
 intro G j B b f z u J C y c d e;let⟨g,@r,rfl,rfl,h,p⟩:=e;let⟨@D,rfl⟩:=c;let⟨@V1,rfl⟩:=d;exact add_str (λV1 Vq=>⟨.str<|g++r,b,y.tok _,⟨_,rfl⟩,p⟩) h
def h2{f:au}(s:bY [f] VH):∃J,VH=[J]/\ck f J:=by
 cases s with
 |cons a b=>cases b;exact⟨_,rfl,a⟩
def sJ{f:au}(s:bY [f,z] VH):∃J a,VH=[J,a]/\ck f J/\ck z a:=by
 cases s with
 |cons b c=>
  cases c with
  |cons d e=>cases e;exact⟨_,_,rfl,b,d⟩
def Rw(d:a.calm=V):eD a (.builtin "max") (λw b C=>∃g r,w=[.int g,.int r]/\C (.int<|if r>g then r else g) b):=by
 intro G j B b w VH C y s e;let⟨g,@r,rfl,p⟩:=e;let⟨J,@f,rfl,⟨@D,rfl⟩,⟨@V1,rfl⟩⟩:=sJ s;refine max_two_ints (y.ok.hd d) λVk Vq q=>⟨_,b,y.kept q,?_,p⟩;by_cases c:r>g
 ·rw[aF c,aF c];exact⟨_,rfl⟩
 ·rw[aJ c,aJ c];exact⟨_,rfl⟩
def RU(d:a.calm=V):eD a (.builtin "min") (λw b C=>∃g r,w=[.int g,.int r]/\C (.int<|if r<g then r else g) b):=by
 intro G j B b w VH C y s e;let⟨g,@r,rfl,p⟩:=e;let⟨J,@f,rfl,⟨@D,rfl⟩,⟨@V1,rfl⟩⟩:=sJ s;refine min_two_ints (y.ok.hd d) λVk Vq q=>⟨_,b,y.kept q,?_,p⟩;by_cases c:r<g
 ·rw[aF c,aF c];exact⟨_,rfl⟩
 ·rw[aJ c,aJ c];exact⟨_,rfl⟩
def O2:eD a (.type "int") (λw b C=>(∃g,w=[.int g]/\C (.int g) b)\/∃q,w=[.av q]/\C (.int<|if q then 1 else 0) b):=by
 intro G j B b w VH C y s e;rcases e with ⟨g,rfl,p⟩|⟨q,rfl,p⟩
 ·let⟨@J,rfl,⟨@D,rfl⟩⟩:=h2 s;exact call_int_int ⟨.int g,b,y,⟨_,rfl⟩,p⟩
 ·let⟨@J,rfl,c⟩:=h2 s;cases c;exact call_int_bool ⟨.int<|if q then 1 else 0,b,y.tok _,⟨_,rfl⟩,p⟩
end
structure nD(e:a4)(f V6 ab:aj)(Wx:az->Option ae):Prop where
 obj:e.get? f=Z (Γ ab V6)
 ns:e.Ns1 V6 Wx
 ne:V6≠f
def Qm(x:e.Ns1 V6 Wx):∃WI,e.get? V6=Z WI/\∀name,Φc name WI=Z (Wx name):=by
 let⟨n,S,@VU,a,hd,b,U,c⟩:=x;refine⟨n,a,λname=>?_⟩;have d:=c name;unfold nsFind findBy at d;rw[<-Array.find?_toList]at d;unfold Φc;rw[hd];dsimp only;split
 ·rename_i z p;rw[p]at d;exact congrArg Z d
 ·rename_i p;rw[p]at d;have h:S.toList.any (·.refKey)=aA:=by
   rw[CU];intro z f;let⟨i,@D,g⟩:=b z (zh.mp f);simp[qV.refKey,g]
  have j:¬ S.toList.any (·.refKey)=V:=by rw[h];exact da
  rw[aJ j];exact congrArg Z d
def nD.look{f:aj}(y:nD e f V6 ab Wx):∃WI,PySem.W.InstAt e f (Γ ab V6) ab (Z WI)/\∀name,Φc name WI=Z (Wx name):=
 let ⟨WI,a,b⟩:=Qm y.ns
 ⟨WI,⟨y.obj,rfl,rfl,a⟩,b⟩
section
variable{Vs:bE}{H:bg}{O:bq}{Vo:ae->ao->Prop}{j:ao}{R:Φ}{f V6 ab F:aj}{Wx:az->Option ae}{name:az}{u:ae}
def Tr{b:Bool}(a:R.In j.heap)(y:nD j.heap f V6 ab Wx)(c:Φd R ab name=V)(d:Φf R ab=V)(g:Ξ R (.ref ab) name=Z X)(h:Wx name=Z u)(i:PySem.W.handedIn u=V)(e:C u {j with toks:=j.toks+1}):
  wpAny (aO Vs H) O (getAttr (.ref f) name b) C Vo j:=by
 let⟨@WI,Wk,k⟩:=y.look;exact PySem.W.get_value a Wk (w8 c).1 (PySem.W.findObj_own d g rfl (by rw[k,h])) i e
def Lz{aZ:dD Bool}{C:ae×List ae->ao->Prop}(a:R.In j.heap)(y:nD j.heap f V6 ab Wx)(b:Φd R ab name=V)(c:Ξ R (.ref ab) name=Z (Z<|.ref F))(bI:Φb R (.ref F)=V)(d:Wx name=X)(e:C (.ref F,[.ref f]) j):
  wpAny (aO Vs H) O (oC (.ref f) name aZ) C Vo j:=by
 let⟨@WI,Wk,g⟩:=y.look;exact PySem.W.method_fn a Wk (w8 b).1 (w8 b).2 c (jm.mp bI) (by show (Φc name WI).map (·.isSome)=Z aA;rw[g,d];rfl) e
def Pz{VT:List az}{C:Unit->ao->Prop}(a:R.In j.heap)(y:nD j.heap f V6 ab Wx)(Vy:Ξ R (.ref ab) "__setattr__" = Z (Z<|.builtin "object.__setattr__"))(g:PySem.W.plainOver R ab=V)(bI:Φg R ab name=Z X)(i:Φf R ab=V)(k:PySem.Within Wx VT)(r:VT.length<=sizeLine)(e:∀Vk,nD Vk f V6 ab (λz=>if z=name then Z u else Wx z)->a4.SameBut V6 j.heap Vk->C () {j with heap:=Vk,toks:=j.toks+2}):
  wpAny (aO Vs H) O (setAttr (.ref f) name u) C Vo j:=by
 let⟨@WI,Wk,t⟩:=y.look;refine PySem.W.set_plain a Wk Vy (PySem.W.osa_open (s:={j with toks:=j.toks+1}) (r:=X) a Wk g bI λc=>?_);let⟨@v,l,m⟩:=PySem.W.any_some i;have n:j.heap.get? f=Z ⟨.ref ab,Z V6,.plain,#[]⟩:=y.obj;refine aB (aR<|aB<|aB<|wpAny_loadPart n<|aB<|Ud (s:={j with toks:=j.toks+1}) (PySem.W.looks_clsIn a l) ?_);rw[m];refine aR (a:=Z V6) (aB<|aR<|aB ?_);refine wpAny_nsSet1 (s:={j with toks:=j.toks+1}) y.ns λVk b d=>?_;let⟨w,x,@A,o,p,q⟩:=b.count (Np name u k);refine aB (wpAny_lookBehind o (by rw[p];exact pastItsLine_dict (dc q (by rw[dn];lia))) ?_);exact aR (e _ ⟨(d.2 _<|eZ y.ne).trans y.obj,b,y.ne⟩ d)
def Md{Vp:qf->ao->Prop}{Vj:List ae}(a:R.In j.heap)(b:Φh R ab=V)(Vl:Ξ R (.ref ab) "__init__" = Z (Z<|.ref F))(c:PySem.W.typeIn R (.ref F)=Z (.type "function"))(e:codeAny (aO Vs H) (O.under<|.builtin "type.__call__" ⟨.ref ab::Vj,WQ⟩) (.call (.ref F) ⟨.ref (j.heap.objs.size+1)::Vj,WQ⟩) (PySem.W.InitBack (j.heap.objs.size+1) Vp)
   {j with heap:=(j.heap.push Δ).push (Γ ab j.heap.objs.size)}):
  codeAny (aO Vs H) O (.call (.ref ab) ⟨Vj,WQ⟩) Vp j:=by
 let⟨d,L,v,D,VI⟩:=j;exact PySem.W.make_core (PySem.W.makes_of a b) (PySem.W.looks_findIn a Vl) (λself=>PySem.W.bind_fn a self c) (.inl rfl) e
end
def eN(F:az)(u:au):List (az×au)->List (az×au)
 |[]=>[(F,u)]
 | (L,f)::s=>if L=F then (L,u)::s else (L,f)::eN F u s
theorem FX(F L:az)(u:au):∀ah:List (az×au),(eN F u ah).lookup L=if L=F then Z u else ah.lookup L
 |[]=>by
  show List.lookup L [(F,u)]=_;by_cases e:L=F
  ·have a:(L==F)=V:=jm.mpr e;simp only[List.lookup,a,aF e]
  ·have a:(L==F)=aA:=mi.mpr e;simp only[List.lookup,a,aJ e]
 | (q,f)::s=>by
  have c:=FX F L u s;rw[show eN F u ((q,f)::s)=(if q=F then (q,u)::s else (q,f)::eN F u s) from rfl];by_cases b:q=F
  ·rw[aF b];by_cases e:L=q
   ·have a:(L==q)=V:=jm.mpr e;simp only[List.lookup,a,aF<|e.trans b]
   ·have a:(L==q)=aA:=mi.mpr e;simp only[List.lookup,a,aJ (λd:L=F=>e<|d.trans b.symm)]
  ·rw[aJ b];by_cases e:L=q
   ·have a:(L==q)=V:=jm.mpr e;simp only[List.lookup,a,aJ (λd:L=F=>b<|e.symm.trans d)]
   ·have a:(L==q)=aA:=mi.mpr e;simp only[List.lookup,a];exact c
theorem xu(F:az)(u:au):∀ah:List (az×au),F∈(eN F u ah).map (·.1)/\∀L,L∈ah.map (·.1)->L∈(eN F u ah).map (·.1)
 |[]=>⟨by simp[eN],λL e=>by simp at e⟩
 | (q,f)::s=>by
  let@⟨b,WJ⟩:=xu F u s;rw[show eN F u ((q,f)::s)=(if q=F then (q,u)::s else (q,f)::eN F u s) from rfl];by_cases a:q=F
  ·rw[aF a];subst a;exact⟨by simp,λL e=>by simpa using e⟩
  ·rw[aJ a];refine⟨?_,λL e=>?_⟩
   ·rw[b4];exact iw _ b
   ·rw[b4]at e ⊢;rcases cm.mp e with d|d
    ·exact cm.mpr (.inl d)
    ·exact iw _ (WJ L d)
theorem Bq(F:az)(u:au):∀ah:List (az×au),(eN F u ah).length<=ah.length+1
 |[]=>by simp[eN]
 | (q,f)::s=>by
  have b:=Bq F u s;rw[show eN F u ((q,f)::s)=(if q=F then (q,u)::s else (q,f)::eN F u s) from rfl];by_cases a:q=F
  ·rw[aF a,dn,dn];lia
  ·rw[aJ a,dn,dn];lia
def hF.some_of{n:Option ae}(s:hF (Z u) n):∃J,n=Z J/\ck u J:=by
 cases n with
 |none=>exact (show False from s).elim
 |some J=>exact⟨J,rfl,s⟩
def hF.none_of{n:Option ae}(s:hF X n):n=X:=by
 cases n with
 |none=>rfl
 |some J=>exact (show False from s).elim
def Tw(s:ck u J):PySem.W.handedIn J=V:=by
 cases u with
 |a3=>cases (show J=ae.none from s);rfl
 |av c=>cases (show J=ae.bool c from s);rfl
 |int g=>let⟨@D,d⟩:=(show ∃D,J=ae.int g D from s);cases d;rfl
 |str f=>let⟨@D,d⟩:=(show ∃D,J=ae.str f D from s);cases d;rfl
 |pS c=>let⟨@D,d⟩:=(show ∃D,J=ae.bytes c D from s);cases d;rfl
 |v8 c=>let⟨@D,d⟩:=(show ∃D,J=ae.float c D from s);cases d;rfl
 |ref h=>cases (show J=ae.ref h from s);rfl
 |ty x=>cases (show J=ae.type x from s);rfl
section
variable{Vz:bE}{H:bg}{b T:aD}{e Vk:a4}{h ab V6:aj}{ah k:List (az×au)}
def wI(a5:ea Vz H b e)(d:b h=Z (.ins ab V6 ah)):∃Wx,nD e h V6 ab Wx/\(∀F,hF (ah.lookup F)<|Wx F)/\PySem.Within Wx (ah.map (·.1))/\ah.length<=1000/\b V6=Z (.own h):=by
 let@⟨v,i,ne,aQ,⟨@Wx,x,s,p⟩⟩:=(show eb Vz H b e h (.ins ab V6 ah) from a5 h _ d);exact⟨Wx,⟨aQ,x,ne⟩,s,p,i,v⟩
end
structure fF(R:Φ)(ab:aj):Prop where
 hv:Φd R ab az.empty=V
 hd:Φf R ab=V
 po:PySem.W.plainOver R ab=V
 aN:Ξ R (.ref ab) "__setattr__" = Z (Z<|.builtin "object.__setattr__")
def fF.get(o:fF R ab)(F:az):Φd R ab F=V:=o.hv
def gz(R:Φ)(ab:aj)(F:az):Prop:=(Ξ R (.ref ab) F=Z X)
def gz.IY{F:az}(x:gz R ab F):Φg R ab F=Z X:=by
 unfold Φg;rw[show Ξ R (.ref ab) F=Z X from x];rfl
structure cX(R:Φ)(ab:aj)(l:az)(F:aj):Prop where
 at_:Ξ R (.ref ab) l=Z (Z<|.ref F)
 fn:Φb R (.ref F)=V
 cI:Θ R (.ref F)=V
section
variable{a:aL}{G:List (aj×ba)}{B:a6}{b:aD}{j:ao}{h ab V6:aj}{ah:List (az×au)}{F:az}{u:au}{O:bq}{Vo:ae->ao->Prop}
def Mg{c:Bool}(y:aI a G B b j)(d:b h=Z (.ins ab V6 ah))(o:fF a.K ab)(x:gz a.K ab F)(I:ah.lookup F=Z u)(e:∀J Vm,aI a G B b Vm->ck u J->C J Vm):wpAny (aO a.prog a.w) O (getAttr (.ref h) F c) C Vo j:=by
 let⟨@Wx,g,s,W,W,W⟩:=wI y.a5 d;let⟨@J,i,f⟩:=hF.some_of (u:=u) (n:=Wx F) (by rw[<-I];exact s F);exact Tr y.hC g (o.get F) o.hd x i (Tw f) (e J _ (y.tok _) f)
def Ep{l:az}{L:aj}{aZ:dD Bool}{C:ae×List ae->ao->Prop}(y:aI a G B b j)(d:b h=Z (.ins ab V6 ah))(o:fF a.K ab)(q:cX a.K ab l L)(I:ah.lookup l=X)(e:C (.ref L,[.ref h]) j):wpAny (aO a.prog a.w) O (oC (.ref h) l aZ) C Vo j:=by
 let⟨@Wx,c,s,W,W,W⟩:=wI y.a5 d;have f:Wx l=X:=hF.none_of (by rw[<-I];exact s l);exact Lz y.hC c (o.get l) q.at_ q.fn f e
def M6{C:Unit->ao->Prop}(y:aI a G B b j)(d:b h=Z (.ins ab V6 ah))(o:fF a.K ab)(x:gz a.K ab F)(A:ah.length<1000)(q:ck z J)(e:∀Vm,aI a G B (upd b h<|.ins ab V6<|eN F z ah) Vm->C () Vm):wpAny (aO a.prog a.w) O (setAttr (.ref h) F J) C Vo j:=by
 let⟨@Wx,g,s,WS,W,m⟩:=wI y.a5 d;have r:(ah.map (·.1)).length<=sizeLine:=by rw[a8,rX];lia
 refine Pz y.hC g o.aN o.po x.IY o.hd WS r λVk l cP=>e _ ?_;have hd:∃n,Vk.get? V6=Z n:=let ⟨n,_,_,t,_⟩:=l.ns;⟨n,t⟩
 refine y.write (f:=h) (d:=V6) (by rw[d];exact True.intro) (.inr m) (λc p u i=>(cP.2 c u).trans i) hd ?_;refine⟨by rw[cz g.ne];exact m,?_,g.ne,l.obj,_,l.ns,λL=>?_,λL v=>?_⟩
 ·have:=Bq F z ah;lia
 ·show hF ((eN F z ah).lookup L) (if L=F then Z J else Wx L);rw[FX];by_cases p:L=F
  ·rw[aF p,aF p];exact q
  ·rw[aJ p,aJ p];exact s L
 ·by_cases p:L=F
  ·rw[p];exact (xu F z ah).1
  ·refine (xu F z ah).2 L (WS L λi=>v ?_);show (if L=F then Z J else Wx L)=X;rw[aJ p];exact i
def aI.made(y:aI a G B b j):aI a G B (upd (upd b j.heap.objs.size<|.own<|j.heap.objs.size+1) (j.heap.objs.size+1)<|.ins ab j.heap.objs.size [])
  {j with heap:=(j.heap.push Δ).push (Γ ab j.heap.objs.size)}:=by
 have e:(j.heap.push Δ).get? j.heap.objs.size=Z Δ:=dM j.heap rfl;have f:((j.heap.push Δ).push<|Γ ab j.heap.objs.size).get? (j.heap.objs.size+1)=Z (Γ ab j.heap.objs.size):=by
  have:=dM (j.heap.push Δ) (o:=Γ ab j.heap.objs.size) rfl
  rwa [jz]at this
 have g:(j.heap.push Δ).Ns j.heap.objs.size (λ_=>X):=⟨Δ,#[],_,e,rfl,(λd i=>absurd i ↥0),λ_=>rfl⟩;have k:=y.laid (h:=j.heap.objs.size) (n:=.own (j.heap.objs.size+1)) (Vk:=j.heap.push Δ) (V1:=j.toks) (λc J p=>cG _ p) (bD _) ⟨_,e⟩;refine k.laid (h:=j.heap.objs.size+1) (n:=.ins ab j.heap.objs.size []) (V1:=j.toks) (λc J p=>cG _ p) (GO<|jz _ _) ?_;have ne:j.heap.objs.size≠j.heap.objs.size+1:=c0 (l7 _);refine⟨by rw[cz ne,d_],hl _,ne,f,λ_=>X,(a4.Ns1.of_empty g).at λn p=>cG _ p,λ_=>True.intro,λz l=>absurd rfl l⟩
def N4{Vs:bE}{Vn:d5}{F:az}{VC:Pos}{j:ao}(a:hG d F Vn (bJ d Vn)=bJ d Vn)(e:wpAny (aO Vs H) O (bJ d Vn) (λn b=>wpAny (aO Vs H) O (getAttr n F V) C Vo b) Vo j):wpAny (aO Vs H) O (bJ (.Attribute d F VC) Vn) C Vo j:=
 Attribute_any_ e (by rw[arm_eval_Attribute,a])
end
def RD(R:Φ)(We:b5)(F:az):b5:=(λB b C=>We B b λf Vt=>∃h ab V6 ah u,f=.ref h/\Vt h=Z (.ins ab V6 ah)/\fF R ab/\gz R ab F/\ah.lookup F=Z u/\C u Vt)
def QI(R:Φ)(We t:b5)(F:az):e4:=(λk B b=>t B b λz Vt=>We B Vt λf VF=>∃h ab V6 ah,f=.ref h/\VF h=Z (.ins ab V6 ah)/\fF R ab/\gz R ab F/\ah.length<1000/\
 k.aX B (upd VF h<|.ins ab V6<|eN F z ah))
section
variable{a:aL}{n d WV:bl}{F:az}{VC WM i:Pos}{We t:b5}
def lg(c:bG a d We)(g:hG d F a.env (bJ d a.env)=bJ d a.env):bG a (.Attribute d F VC) (RD a.K We F):=by
 intro G j B b C y e;refine N4 g (b0 (c G j B b _ y e) λJ r i=>?_);let⟨f,@Vt,k,l,⟨h,ab,V6,ah,@u,Wg,m,o,x,I,p⟩⟩:=i;subst Wg;obtain rfl:J=ae.ref h:=l;exact Mg k m o x I λs t n q=>⟨u,Vt,n,q,p⟩
def Rg(c:bG a n We)(d:bG a WV t)(Vy:kC WV (Z<|.Attribute n F WM) VC.line a.env=pure aA):hs a (.Assign [.Attribute n F WM] WV VC) (QI a.K We t F):=by
 intro G j B b k y e;refine plainObj_wpAny_Assign_Attribute (b0 (d G j B b _ y e) λJ g ⟨z,Vt,i,l,p⟩=>b0 (c G g B Vt _ i p) λm w ⟨f,VF,q,r,h,ab,V6,ah,Wg,s,o,x,I,u⟩=>?_) Vy;subst Wg;obtain rfl:m=ae.ref h:=r;exact M6 q s o x I l λA v=>⟨B,_,v,u⟩
end
structure dt(q:Nat)(O:bq):Prop where
 hd:O.handled=X
 u7:O.depth+3*q+5<B5
 un:O.units+16*q+200<bW
 zz:O.guards=Z []
def dt.mono(s:dt q O)(e:r<=q):dt r O:=⟨s.hd,by have:=s.u7;lia,by have:=s.un;lia,s.zz⟩
def dt.deeper(s:dt (q+1) O)(Vn:d5):dt q (O.deeper Vn):=
 ⟨s.hd,by have:=s.u7;show O.depth+1+3*q+5<_;lia,by have:=s.un;show O.units+3+16*q+200<_;lia,s.zz⟩
def OE:(O.under<|.builtin "type.__call__" ⟨.ref ab::VH,WQ⟩).depth=O.depth+1:=by
 first|rfl|simp[bq.under,ie.weight,ie.isCreation,ie.isGuard,ie.isCaller,ie.frames,ie.isFrame,guardIds]
def Uo:(O.under<|.builtin "type.__call__" ⟨.ref ab::VH,WQ⟩).units=O.units+1:=by
 first|rfl|simp[bq.under,ie.cUnits,ie.frames,ie.isFrame]
def dt.make(s:dt (q+1) O)(ab:aj)(VH:List ae)(WQ:List (az×ae)):dt q (O.under<|.builtin "type.__call__" ⟨.ref ab::VH,WQ⟩):=
 ⟨s.hd,by have:=s.u7;rw[OE];lia,by have:=s.un;rw[Uo];lia,by
  have:=s.zz;first|exact this|(simp[bq.under,ie.guards,ie.isGuard,guardIds,pushGuards];exact this)⟩
def dt.depth(s:dt q O):O.depth<B5:=by have:=s.u7;lia
def Fb:fh:=(λ_ b C=>C [] b)
def SK(We:b5)(a:fh):fh:=(λB b C=>We B b λf Vt=>a B Vt λw VF=>C (f::w) VF)
section
variable{a:aL}{d:bl}{S:List bl}{WA:b5}{D:fh}{VC:Pos}
def o8:hg a [] Fb:=λ_ W W W b C y e=>Ca ⟨[],b,y,.nil,e⟩
def lQ(g:bG a d WA)(h:hg a S D)(Vy:bP (d::S) a.env=(aA,bJ d a.env)::bP S a.env:=by rfl):hg a (d::S) (SK WA D):=by
 intro VC G j B b C y e;rw[Vy];show wpAny _ _ (spliced ((aA,bJ d a.env)::d9 VC (bP S a.env))) _ _ j;refine Cc (b0 (g G j B b _ y e) λJ i c=>?_);let⟨f,@Vt,k,l,m⟩:=c;refine b0 (h VC G i B Vt _ k m) λVH q c=>?_;let⟨w,@VF,n,o,p⟩:=c;exact⟨f::w,VF,n,.cons l o,p⟩
def Nm(D:fh):b5:=(λB b C=>D B b λw Vt=>w.length<=sizeLine/\∀m,Vt m=X->C (.ref m) (upd Vt m<|.tup w))
def TQ(D:fh):b5:=(λB b C=>D B b λw Vt=>w.length<=sizeLine/\∀m,Vt m=X->C (.ref m) (upd Vt m<|.lst w))
def Jv{h}(e:hg a S D):bG a (.Tuple S h VC) (Nm D):=by
 intro G j B b C y k;refine wpAny_Tuple_spliced (b0 (e VC G j B b _ y k) λVH f ⟨w,Vt,g,s,i,p⟩=>⟨by rw[<-s.length];exact i,?_⟩);have l:Vt f.heap.objs.size=X:=g.a5.fresh (bD _);refine⟨.ref f.heap.objs.size,upd Vt f.heap.objs.size<|.tup w,g.laid (V1:=f.toks) (λc J d=>cG _ d) (bD _) ?_,rfl,p _ l⟩;exact⟨i,VH,s,⟨_,dM _ rfl,rfl,_,rfl⟩⟩
def PZ(e:hg a S D):bG a (.List S VC) (TQ D):=by
 intro G j B b C y h;refine wpAny_List_spliced (b0 (e VC G j B b _ y h) λVH f ⟨w,Vt,g,s,i,p⟩=>⟨by rw[<-s.length];exact i,?_⟩);have k:Vt f.heap.objs.size=X:=g.a5.fresh (bD _);refine⟨.ref f.heap.objs.size,upd Vt f.heap.objs.size<|.lst w,g.laid (V1:=f.toks) (λc J d=>cG _ d) (bD _) ?_,rfl,p _ k⟩;exact⟨i,VH,0,s,dM _ rfl⟩
end
abbrev j0:=List au->aD->cW->fv->Prop
abbrev jL:=List d5->aD->ao->fv->ae->ao->Prop
variable{k:jL}
structure nW(Vz:bE)(H:bg)(R:Φ)(aU:az->Option ae)(VB:a4)(O:bq)(Wq:List d5)(j:ao)(b:aD):Prop where
 frames:O.frames=Z Wq
 mod:Mod R aU VB
 bs:∀c n,VB.get? c=Z n->j.heap.get? c=Z n/\b c=ky n
 kl:VB.objs.size<=j.heap.objs.size
 ir:j.heap.FunFrames VB Wq
 mu:∀c∈ik Wq,b c=X
 a5:ea Vz H b j.heap
 bare:l5 j.gens
def xR(Wq:List d5)(Vz:bE)(H:bg)(b:aD)(j:ao)(C:cW)(J:ae)(Vm:ao):Prop:=(
 ∃u T,Vm.os=j.os/\l5 Vm.gens/\fm (ik Wq) [] b T j.heap Vm.heap/\ea Vz H T Vm.heap/\ck u J/\C u T)
def Sr(k:jL)(Wq:List d5)(Vz:bE)(H:bg)(b:aD)(j:ao)(C:cW)(Vo:fv)(s:qf)(Vm:ao):Prop:=(
 match s with
 |.ok (.ret J)=>xR Wq Vz H b j C J Vm
 |.ok _=>False
 |.error d=>k Wq b j Vo d Vm)
structure fT(Vz:bE)(H:bg)(R:Φ)(aU:az->Option ae)(VB:a4)(k:jL)(q:Nat)(F:aj)(fd:gM)(Vw:List az)(Wz:j0):Prop where
 len:∀Vj b C Vo,Wz Vj b C Vo->Vj.length=Vw.length
 run:∀(O:bq) (Wq:List d5) (j:ao) (b:aD) (args:Args) (VH:List ae) (Vj:List au) (C:cW) (Vo:fv),dt q O->nW Vz H R aU VB O Wq j b->mj j fd args (Vw.zip VH)->bY Vj VH->Wz Vj b C Vo->
  codeAny (aO Vz H) O (.call (.ref F) args) (Sr k Wq Vz H b j C Vo) j
def nW.make(d:nW Vz H R aU VB O Wq j b)(ab:aj)(VH:List ae)(WQ:List (az×ae)):
  nW Vz H R aU VB (O.under<|.builtin "type.__call__" ⟨.ref ab::VH,WQ⟩) Wq j b:=⟨by first|exact d.frames|(simpa [bq.under,ie.envs,ie.isFrame,pushEnvs] using d.frames),d.mod,d.bs,d.kl,d.ir,d.mu,d.a5,d.bare⟩
section
variable{a:aL}{G:List (aj×ba)}{B:a6}{b:aD}{j Vm:ao}
def aI.Gq(y:aI a G B b j):nW a.prog a.w a.K a.aU a.base a.A a.stack j b:=
 ⟨y.ok.frames,y.ok.mod,y.bs,dc y.ok.kl y.g9,y.stack,y.Ga,y.a5,y.bare⟩
def aI.after{C:cW}(y:aI a G B b j)(e:xR a.stack a.prog a.w b j C J Vm):eM a G B C J Vm:=by
 let⟨u,@T,VI,d,un,a5,s,p⟩:=e;let⟨f,L,v,D,g⟩:=Vm;obtain rfl:g=j.os:=VI;exact⟨u,T,y.call (Vk:=f) (h:=L) (r:=v) (V1:=D) (WO:=[]) un a5 d (λc i=>absurd i ↥0),s,p⟩
end
def Cj(Wz:j0)(i:List au)(Vo:fv)(D:fh):b5:=(λB b C=>D B b λVj Vt=>Wz (Vj++i) Vt C Vo)
def Fu(ab:aj)(l:az)(Wz:j0)(i:List au)(Vo:fv)(We:b5)(D:fh):b5:=(λB b C=>We B b λf Vt=>∃h V6 ah,f=.ref h/\Vt h=Z (.ins ab V6 ah)/\ah.lookup l=X/\
 D B Vt λVj VF=>Wz (f::(Vj++i)) VF C Vo)
def Sb(ab:aj)(Wz:j0)(i:List au)(Vo:fv)(D:fh):b5:=(λB b C=>D B b λVj Vt=>∀f V6,Vt f=X->Vt V6=X->V6≠f->
 Wz (.ref f::(Vj++i)) (upd (upd Vt V6<|.own f) f<|.ins ab V6 []) (λu VF=>u=.a3/\C (.ref f) VF) Vo)
def f6(R:Φ)(fd:gM)(Vw:List az)(E:List ae):Prop:=(
 ∀(j:ao) (VH:List ae),R.In j.heap->(VH++E).length=Vw.length->mj j fd ⟨VH,[]⟩ (Vw.zip<|VH++E))
def f6.all{fd:gM}(e:∀VH:List ae,VH.length=Vw.length->iL fd ⟨VH,[]⟩=pure (Vw.zip VH)):f6 R fd Vw []:=λj VH W a=>by
 rw[bQ]at a ⊢;exact .of_eq (e VH a)
def ny(k:jL)(a:aL)(Vo:fv):Prop:=(∀(G:List (aj×ba)) (B:a6) (b:aD) (j:ao) (d:ae) (Vm:ao),aI a G B b j->k a.stack b j Vo d Vm->a.cR d Vm)
section
variable{a:aL}{k:jL}{q:Nat}{F ab:aj}{fd:gM}{Vw:List az}{Wz:j0}{i:List au}{E:List ae}{Vo:fv}{f l:az}{m VC WH:Pos}{d n:bl}{S:List bl}{We:b5}{D:fh}
def tI{C:cW}(N:fT a.prog a.w a.K a.aU a.base k q F fd Vw Wz)(g:dt q a.A)(h:f6 a.K fd Vw E)(hd:bY i E)(l:ny k a Vo)(y:aI a G B b j)(s:bY Vj VH)(e:Wz (Vj++i) b C Vo):wpAny (aO a.prog a.w) a.A (call (.ref F) VH) (eM a G B C) a.cR j:=by
 have f:bY (Vj++i) (VH++E):=s.append hd;have m:(VH++E).length=Vw.length:=by rw[<-f.length];exact N.len _ _ _ _ e
 refine yz (p6 (N.run a.A a.stack j b ⟨VH,[]⟩ (VH++E) (Vj++i) C Vo g y.Gq (h j VH y.hC m) f e) λs Vm c=>?_);cases s with
 |error d=>exact l G B b j d Vm y c
 |ok aW=>
  cases aW with
  |ret J=>exact y.after c
  |next=>exact False.elim c
  |brk=>exact False.elim c
  |cont=>exact False.elim c
def FW(N:fT a.prog a.w a.K a.aU a.base k q F fd Vw Wz)(g:dt q a.A)(h:eu a f)(l:a.aU f=Z (.ref F))(n:Θ a.K (.ref F)=V)(o:f6 a.K fd Vw E)(hd:bY i E)(r:ny k a Vo)(t:hg a (d::S) D)(u:(f==("__debug__" : az))=aA:=by decide)(v:bP (d::S) a.env=(aA,bJ d a.env)::bP S a.env:=by rfl)(x:(d9 VC<|bP S a.env).any (·.1)=aA:=by rfl):
  bG a (.Call (.Name f m) (d::S) [] VC) (Cj Wz i Vo D):=by
 intro G j B b C y e;refine qo (uz y h l ?_ u);refine vJ (h₀:=a.base) y.ok.mod.qF n (b0 (t VC G j B b _ y e) λVH I ⟨Vj,Vt,c,s,p⟩=>⟨c.hC,?_⟩) v x;exact tI N g o hd r c s p
variable{aZ:dD Bool}
def SY(t:bG a n We)(o:fF a.K ab)(c:cX a.K ab l F)(N:fT a.prog a.w a.K a.aU a.base k q F fd Vw Wz)(u:dt q a.A)(v:f6 a.K fd Vw E)(hd:bY i E)(x:ny k a Vo)(z:hg a (d::S) D)(L:bP (d::S) a.env=(aA,bJ d a.env)::bP S a.env:=by rfl)(M:(d9 VC<|bP S a.env).any (·.1)=aA:=by rfl)(bI:bJ (.Call (.Attribute n l WH) (d::S) [] VC) a.env=(do
   let g <-bJ n a.env
   standAt WH.atName
   let (F,first) <-holding [g] (oC g l aZ)
   callWith VC F first (d9 VC<|bP (d::S) a.env) (m4 VC<|nk [] a.env)):=by rfl):
  bG a (.Call (.Attribute n l WH) (d::S) [] VC) (Fu ab l Wz i Vo We D):=by
 intro G j B b C y e;refine DP (pl:=aZ) (b0 (t G j B b _ y e) λJ P ⟨f,Vt,m,Q,h,V6,ah,Wg,T,I,p⟩=>?_) bI;subst Wg;obtain rfl:J=ae.ref h:=Q;refine Ep m T o c I ?_;refine vJ (first:=[.ref h]) (h₀:=a.base) y.ok.mod.qF c.cI (b0 (z VC G P B Vt _ m p) λVH am ⟨Vj,VF,r,s,U⟩=>⟨r.hC,?_⟩) L M;exact tI (VH:=.ref h::VH) (Vj:=.ref h::Vj) N u v hd x r (.cons rfl s) U
def LR(m:bG a n We)(o:fF a.K ab)(d:cX a.K ab l F)(N:fT a.prog a.w a.K a.aU a.base k q F fd Vw Wz)(r:dt q a.A)(s:f6 a.K fd Vw E)(hd:bY i E)(t:ny k a Vo)(bI:bJ (.Call (.Attribute n l WH) [] [] VC) a.env=(do
   let g <-bJ n a.env
   standAt WH.atName
   let (F,first) <-holding [g] (oC g l aZ)
   callWith VC F first (d9 VC<|bP [] a.env) (m4 VC<|nk [] a.env)):=by rfl):
  bG a (.Call (.Attribute n l WH) [] [] VC) (Fu ab l Wz i Vo We Fb):=by
 intro G j B b C y e;refine DP (pl:=aZ) (b0 (m G j B b _ y e) λJ x ⟨f,Vt,c,u,h,V6,ah,Wg,v,I,p⟩=>?_) bI;subst Wg;obtain rfl:J=ae.ref h:=u;refine Ep c v o d I ?_;exact PySem.W.callWith_K0 (first:=[.ref h]) c.hC d.cI (tI (VH:=[.ref h]) (Vj:=[.ref h]) N r s hd t c (.cons rfl .nil) p)
structure lH(R:Φ)(ab F:aj):Prop where
 makes:Φh R ab=V
 init:Ξ R (.ref ab) "__init__" = Z (Z<|.ref F)
 fn:Φb R (.ref F)=V
 cI:Θ R (.ref ab)=V
def KX{C:cW}(ay:lH a.K ab F)(N:fT a.prog a.w a.K a.aU a.base k q F fd Vw Wz)(m:dt (q+1) a.A)(n:f6 a.K fd Vw E)(hd:bY i E)(o:ny k a Vo)(y:aI a G B b j)(s:bY Vj VH)(e:∀f V6,b f=X->b V6=X->V6≠f->Wz (.ref f::(Vj++i)) (upd (upd b V6<|.own f) f<|.ins ab V6 []) (λu VF=>u=.a3/\C (.ref f) VF) Vo):
  wpAny (aO a.prog a.w) a.A (call (.ref ab) VH) (eM a G B C) a.cR j:=by
 have h:=e (j.heap.objs.size+1) j.heap.objs.size (y.a5.fresh<|tr _) (y.a5.fresh<|bD _) (c0<|l7 _);have g:=aI.made (ab:=ab) y;have l:bY (au.ref (j.heap.objs.size+1)::(Vj++i)) (ae.ref (j.heap.objs.size+1)::(VH++E)):=.cons rfl (s.append hd);have p:(ae.ref (j.heap.objs.size+1)::VH++E).length=Vw.length:=by
  have d:=l.length;rw[N.len _ _ _ _ h]at d;exact d.symm
 refine yz (Md (F:=F) y.hC ay.makes ay.init (jm.mp ay.fn)<|p6 (N.run _ a.stack _ _ ⟨ae.ref (j.heap.objs.size+1)::VH,[]⟩ (ae.ref (j.heap.objs.size+1)::(VH++E)) _ _ Vo (m.make ab VH [])
  (g.Gq.make ab VH []) (n _ (ae.ref (j.heap.objs.size+1)::VH) g.hC p) l h) λs Vm c=>?_);cases s with
 |error d=>exact o G B _ _ d Vm g c
 |ok aW=>
  cases aW with
  |ret J=>
   let⟨u,@T,r,t,h8,v⟩:=g.after c;subst h8;exact⟨t,⟨au.ref<|j.heap.objs.size+1,T,r,rfl,v⟩⟩
  |next=>exact False.elim c
  |brk=>exact False.elim c
  |cont=>exact False.elim c
def Pl(ay:lH a.K ab F)(N:fT a.prog a.w a.K a.aU a.base k q F fd Vw Wz)(g:dt (q+1) a.A)(h:eu a f)(l:a.aU f=Z (.ref ab))(n:f6 a.K fd Vw E)(hd:bY i E)(o:ny k a Vo)(r:hg a (d::S) D)(t:(f==("__debug__" : az))=aA:=by decide)(u:bP (d::S) a.env=(aA,bJ d a.env)::bP S a.env:=by rfl)(v:(d9 VC<|bP S a.env).any (·.1)=aA:=by rfl):
  bG a (.Call (.Name f m) (d::S) [] VC) (Sb ab Wz i Vo D):=by
 intro G j B b C y e;refine qo (uz y h l ?_ t);refine vJ (h₀:=a.base) y.ok.mod.qF ay.cI (b0 (r VC G j B b _ y e) λVH z ⟨Vj,Vt,c,s,p⟩=>⟨c.hC,?_⟩) u v;exact KX ay N g n hd o c s p
end
structure kb(VS Vz:List az)(M:gY):Prop where
 kind:M.kind=.function
 co:M.isCoroutine=aA
 gen:M.isGenerator=aA
 aq:VS.Nodup
 pre:VS.take Vz.length=Vz
 par:∀f∈Vz,M.names.lookup f=Z .local\/M.names.lookup f=Z .cell
 Ue:∀z∈M.names,z.2≠.free
theorem Bl{a:az->Option c8}{f:az}:∀{binds:List (az×ae)}{l:az->Option ae},(∀u,(f,u)∉binds)->bindL a binds l f=l f
 |[],_,_=>rfl
 | (x,u)::s,l,e=>by
  unfold bindL;rw[Bl λH b=>e H<|iw _ b];split
  ·have:f≠x:=by rintro rfl;exact e u jE
   simp[this]
  ·rfl
theorem A3{a:az->Option c8}{f:az}:∀{binds:List (az×ae)}{l:az->Option ae},(∀u,(f,u)∉binds)->bindC a binds l f=l f
 |[],_,_=>rfl
 | (x,u)::s,l,e=>by
  unfold bindC;rw[A3 λH b=>e H<|iw _ b];split
  ·rfl
  ·have:f≠x:=by rintro rfl;exact e u jE
   simp[this]
theorem Eg{a:az->Option c8}{f:az}{u:ae}:∀{Vz:List az}{Vj:List ae}{g:Nat}{l:az->Option ae},Vz.Nodup->Vz[g]?=Z f->Vj[g]?=Z u->a f=Z .local->
  bindL a (Vz.zip Vj) l f=Z u
 |[],_,_,_,_,e,_,_=>by simp at e
 |_::_,[],_,_,_,_,e,_=>by simp at e
 |m::Vz,H::Vj,0,l,aq,t,A,b=>by
  simp at t A;subst t;subst A;show bindL a ((m,H)::Vz.zip Vj) l m=_;unfold bindL;rw[Bl λu c=>(gd.mp aq).1 (yC c).1,aF b];simp
 |m::Vz,H::Vj,g+1,l,aq,t,A,b=>by
  show bindL a ((m,H)::Vz.zip Vj) l f=_;unfold bindL;exact Eg (g:=g) (gd.mp aq).2 ⇑t ⇑A b
theorem BE{a:az->Option c8}{f:az}{u:ae}:∀{Vz:List az}{Vj:List ae}{g:Nat}{l:az->Option ae},Vz.Nodup->Vz[g]?=Z f->Vj[g]?=Z u->a f≠Z .local->
  bindC a (Vz.zip Vj) l f=Z u
 |[],_,_,_,_,e,_,_=>by simp at e
 |_::_,[],_,_,_,_,e,_=>by simp at e
 |m::Vz,H::Vj,0,l,aq,t,A,b=>by
  simp at t A;subst t;subst A;show bindC a ((m,H)::Vz.zip Vj) l m=_;unfold bindC;rw[A3 λu c=>(gd.mp aq).1 (yC c).1,aJ b];simp
 |m::Vz,H::Vj,g+1,l,aq,t,A,b=>by
  show bindC a ((m,H)::Vz.zip Vj) l f=_;unfold bindC;exact BE (g:=g) (gd.mp aq).2 ⇑t ⇑A b
def start(VS:List az)(Vj:List au):a6:=(Vj.map Z++List.replicate (VS.length-Vj.length) X)
def ju(k:jL)(Vz:bE)(H:bg)(R:Φ)(aU:az->Option ae)(VB:a4)(VS:List az)(Ww:az)(VK:gY)(F:aj)(a:ae)(O:bq)(Wq:List d5)(j:ao)(b:aD)(Vo:fv):aL where
 prog:=Vz
 w:=H
 K:=R
 aU:=aU
 base:=VB
 A:=O.deeper (h7 Ww VK j.heap.objs.size F a)
 N:=VS
 e7:=j
 ng:=b
 env:=h7 Ww VK j.heap.objs.size F a
 outer:=Wq
 stack:=h7 Ww VK j.heap.objs.size F a::Wq
 ex:=[]
 calm:=V
 fn:=λ_=>V
 k9:=[]
 cR:=λd Vm=>wpAny (aO Vz H) (O.deeper<|h7 Ww VK j.heap.objs.size F a) (leaving (h7 Ww VK j.heap.objs.size F a) d) (λ_ c=>k Wq b j Vo d c) (λe c=>k Wq b j Vo e c) Vm
def EM{M:gY}(e:M.names.lookup f=Z .cell):∃o,(Ac x M.names []).lookup f=Z o:=by
 have p:=Bp M.names x [] (.inl e);exact HQ.mp p
def N5{F:aj}{r:ae}{v:ao}{Vo:fv}(VD:kb VS Vw VK)(hd:O.handled=X)(a:nW Vz H R aU VB O Wq j b)(E:Vj.length=Vw.length)(s:bY Vj VH)(f:InCallC j j.heap.objs.size (bindL (h7 Ww VK j.heap.objs.size F r).kindOf (Vw.zip VH) λ_=>X) (Ac (j.heap.objs.size+1) VK.names []) (bindC (h7 Ww VK j.heap.objs.size F r).kindOf (Vw.zip VH) λ_=>X) v):
  aI (ju k Vz H R aU VB VS Ww VK F r O Wq j b Vo) [] (start VS Vj) b v:=by
 have G:Vw.length<=VS.length:=by have:=congrArg List.length VD.pre;rw[gN]at this;lia
 let⟨t,@Vq,rfl,w⟩:=f.done;have noA:∀c:aj,c∉(ju k Vz H R aU VB VS Ww VK F r O Wq j b Vo).ex:=λc i=>absurd (show c∈([]:List aj) from i) ↥0;refine⟨⟨a.mod,VD.kind,rfl,rfl,bD _,λz i o t A=>?_,λz l=>?_,λz o W e=>?_,λ_=>hd,bq.frames_deeper a.frames,.inr ⟨rfl,rfl⟩,λc i=>absurd i<|noA c,a.bs,a.kl,λc W W=>noA c,λc i=>absurd i<|noA c,a.ir,a.mu⟩,
  rfl,a.bare,fm.kept w,⟨_,f.toInCall.ns,λg z u t A I=>?_⟩,λz o e=>⟨_,f.cell z o e⟩,a.a5.fresh<|bD _,λz o e=>?_,λm n=>absurd (show m∈([]:List (aj×ba)) from n) ↥0,a.a5.kept w,?_⟩
 ·exact name_of_addr f.apart (PySem.mem_of_lookup t) (PySem.mem_of_lookup A)
 ·have l:VK.names.lookup z=Z .cell\/VK.names.lookup z=Z .free:=l;rcases l with l|l
  ·exact EM l
  ·exact absurd rfl (VD.Ue _<|PySem.mem_of_lookup l)
 ·exact nc (f.above z o<|PySem.mem_of_lookup e)
 ·have Vl:g<Vj.length:=by
   unfold start at A;by_cases Vl:g<Vj.length
   ·exact Vl
   ·rw[lX ⇑Vl]at A;rw[List.getElem?_replicate]at A;split at A<;>cases A
  have C:Vj[g]?=Z u:=by
   unfold start at A;rw[nh ⇑Vl,d3]at A;cases d:Vj[g]? with
   |none=>rw[d]at A;cases A
   |some h=>rw[d]at A;cases A;rfl
  let⟨@J,y,D⟩:=s.get C;have n:Vw[g]?=Z z:=by
   rw[<-VD.pre,List.getElem?_take_of_lt ⋯];exact t
  have B:Vw.Nodup:=by rw[<-VD.pre];exact VD.aq.sublist (rh _ _)
  refine⟨J,D,?_⟩;rcases VD.par z (eC n) with q|q
  ·exact .inl ⟨q,Eg B n y q⟩
  ·let⟨@o,d⟩:=EM (x:=j.heap.objs.size+1) q;refine .inr ⟨.inl q,o,d,?_⟩;have p:=f.cell z o d;rw[BE B n y (by show VK.names.lookup z≠_;rw[q];decide)]at p;exact p
 ·exact a.a5.fresh (nc<|f.above z o<|PySem.mem_of_lookup e)
 ·unfold start;show _=VS.length;rw[dd,a8,List.length_replicate];lia
def NK{F:aj}{name:az}{i:Arguments}{l b6 U VN Wc b3 WU:ae}{Ws WI:Option aj}{WX:Array (Option ae)}{Wz:j0}(lk:R.lookup F=Z ⟨WU,WI,.func<|Ψ name Ww i WT VK l b6 U VN Ws Wc b3,WX⟩)(t:Ω R Wc Ww=V)(VD:kb VS Vw VK)(len:∀Vj b C Vo,Wz Vj b C Vo->Vj.length=Vw.length)(v:∀(O:bq) (Wq:List d5) (j:ao) (b:aD) (Vj:List au) (C:cW) (Vo:fv),dt q (O.deeper<|h7 Ww VK j.heap.objs.size F Wc)->Wz Vj b C Vo->
   ∃D,h6 (ju k Vz H R aU VB VS Ww VK F Wc O Wq j b Vo) WT D/\D {aX:=λ_ T=>C .a3 T,ej:=C} (start VS Vj) b):
  fT Vz H R aU VB k (q+1) F (Ψ name Ww i WT VK l b6 U VN Ws Wc b3) Vw Wz:=by
 refine⟨len,λO Wq j b args VH Vj C Vo g a w s m=>?_⟩;have A:=len _ _ _ _ m;have o:R.In j.heap:=a.mod.qF.keeps λc n d=>(a.bs c n d).1;have B:j.heap.NoLimit:=a.mod.nolimit.keeps λc n d=>(a.bs c n d).1;have E:∀z∈Vw.zip VH,VK.names.lookup z.1=Z .local\/(VK.names.lookup z.1=Z .cell/\((Ac (j.heap.objs.size+1) VK.names []).lookup z.1).isSome=V):=λ⟨x,u⟩ G=>by
  rcases VD.par x (yC G).1 with p|p
  ·exact .inl p
  ·exact .inr ⟨p,Bp _ _ _<|.inl p⟩
 refine codeAny_call_function g.depth (o _ _ lk) rfl VD.co VD.gen rfl (PySem.W.codeRec_of o t) (w _ _ _ _ ?_);refine wpAny_newFunctionEnv_cells VD.kind E λVn I r f=>?_;subst I;refine⟨B.keeps f.toInCall.keep,codeAny_func ?_⟩;let⟨@D,bI,L⟩:=v O Wq j b Vj C Vo (g.deeper _) m;have y:aI (ju k Vz H R aU VB VS Ww VK F Wc O Wq j b Vo) [] (start VS Vj) b r:=N5 VD g.hd a A s f;refine hk (bI [] r (start VS Vj) b _ y L) (λaW Vm Vy=>?_) λd Vm Vy=>Vy;have fin:∀{e:a6}{T:aD}{u:au}{J:ae},aI (ju k Vz H R aU VB VS Ww VK F Wc O Wq j b Vo) [] e T Vm->ck u J->C u T->xR Wq Vz H b j C J Vm:=
  λ{e T u J} Wk h p=>⟨u,T,Wk.os,Wk.bare,Wk.base,Wk.a5,h,p⟩;cases aW with
 |ret J=>
  let⟨u,e,@T,Wk,h,p⟩:=Vy;exact fin Wk h p
 |next=>
  let⟨e,@T,Wk,p⟩:=Vy;exact fin (u:=au.a3) (J:=ae.none) Wk rfl p
 |brk=>
  let⟨S,@S,S,p⟩:=Vy;exact False.elim p
 |cont=>
  let⟨S,@S,S,p⟩:=Vy;exact False.elim p
section
variable{a:aL}{f:az}{m VC:Pos}{d:bl}{S:List bl}{D:fh}{id Vv:String}{s:List au->aD->cW->Prop}
def Bn(s:List au->aD->cW->Prop)(D:fh):b5:=(λB b C=>D B b λVj Vt=>s Vj Vt C)
def wZ(c:eD a (.builtin id) s)(g:eu a f)(h:a.aU f=X)(i:iA f=Z (.builtin id))(k:hg a (d::S) D)(l:f ≠ "__name__" := by decide)(n:(f==("__debug__" : az))=aA:=by decide)(o:bP (d::S) a.env=(aA,bJ d a.env)::bP S a.env:=by rfl)(p:(d9 VC<|bP S a.env).any (·.1)=aA:=by rfl):bG a (.Call (.Name f m) (d::S) [] VC) (Bn s D):=by
 intro G j B b C y e;refine qo (pU y g h i ?_ l n);exact Gk (b0 (k VC G j B b _ y e) λVH q ⟨Vj,Vt,r,t,u⟩=>c G q B Vt Vj VH C r t u) o p
def M7(c:eD a (.type Vv) s)(g:eu a f)(h:a.aU f=X)(i:iA f=Z (.type Vv))(k:hg a (d::S) D)(l:f ≠ "__name__" := by decide)(n:(f==("__debug__" : az))=aA:=by decide)(o:bP (d::S) a.env=(aA,bJ d a.env)::bP S a.env:=by rfl)(p:(d9 VC<|bP S a.env).any (·.1)=aA:=by rfl):bG a (.Call (.Name f m) (d::S) [] VC) (Bn s D):=by
 intro G j B b C y e;refine qo (pU y g h i ?_ l n);exact zJ (b0 (k VC G j B b _ y e) λVH q ⟨Vj,Vt,r,t,u⟩=>c G q B Vt Vj VH C r t u) o p
end
end L2
namespace dP
open PyProof.Rows
variable{Vl M:Option Int}{i cu:ae}{bo D:aj}{C:ae->ao->Prop}
theorem Rp(O:bq)(j:ao)(h:Int)(D:hX)(o:Int)(J:hX)(Vs:bE)(H:bg)(Vo:ae->ao->Prop)(C:ae->ao->Prop)(e:C (.bool<|decide (h<o)) j):
  wpAny (aO Vs H) O (om .Lt (.int h D)<|.int o J) C Vo j:=
 (Q5 e:wpAny (aO Vs H) O (e2 .Lt (.int h D)<|.int o J) C Vo j)
section
open PySem.SeqAt
open PySem.AutoSeq1 (wpAny_loadPart')
open PySem.MeetsSeq PySem.MeetsSeq2 PySem.MeetsSeq3
end
section
variable{Vs:bE}{H:bg}{O:bq}{Vo:ae->ao->Prop}{j:ao}
def Kt{c:aj}{Vj a:List ae}(bI:oz j.heap D Vj.toArray)(o:oz j.heap c a.toArray)(g:Vj≠[])(t:a=[]->C (.ref D) j)(A:a≠[]->C (.ref j.heap.objs.size) {j with heap:=j.heap.push {cls:=.type "tuple",data:=.seq (Vj++a).toArray} })(p:Vj.length+a.length<=sizeLine):wpAny (aO Vs H) O (gG .Add (.ref D)<|.ref c) C Vo j:=by
 let⟨@⟨cls,h,data,bo⟩,b,i,⟨@x,hd⟩⟩:=id bI;let⟨@⟨q,k,data2,l⟩,e,m,⟨@Wu,n⟩⟩:=id o;simp only at i hd m n;subst i hd m n;have d:Vj.toArray++a.toArray=(Vj++a).toArray:=by simp
 by_cases f:a=[]
 ·exact zG ⟨_,b,rfl⟩ ⟨_,e,rfl⟩ w9 Ap xK yp (zR _ _)
   (tuple_addW1 D c Vj.toArray a.toArray x Wu h k bo l ⇑g (by simp[f])) ⟨b,e,t f⟩
 ·refine zG ⟨_,b,rfl⟩ ⟨_,e,rfl⟩ w9 Ap xK yp (zR _ _)
   (tuple_addW2 D c Vj.toArray a.toArray x Wu h k bo l ⇑g ⇑f (by rw[cN,cN];exact p)) ⟨b,e,?_⟩;rw[d];exact A f
def cx(x v:Nat):Option Int->Nat
 |none=>v
 |some u=>if u<0 then (u+(x:Int)).toNat else min u.toNat x
def PA(x v:Nat)(hd:v<=x)(n:Option Int):cx x v n<=x:=by
 cases n with
 |none=>exact hd
 |some u=>
  show (if u<0 then (u+(x:Int)).toNat else min u.toNat x)<=x;by_cases a:u<0
  ·rw[aF a];lia
  ·rw[aJ a];exact Nat.min_le_right _ _
def Gf(u:Int)(x v:Nat):(if u<0 then max (u+(x:Int)) 0 else min u (x:Int))=((cx x v (Z u):Nat):Int):=by
 show (if u<0 then max (u+(x:Int)) 0 else min u (x:Int))=(((if u<0 then (u+(x:Int)).toNat else min u.toNat x):Nat):Int);by_cases a:u<0
 ·simp only[aF a];lia
 ·simp only[aJ a];lia
def RC(M Vl:Option Int)(x:Nat):bH.Slice.sliceAdjust M Vl 1 (x:Int)=(((cx x 0 M:Nat):Int),((cx x x Vl:Nat):Int)):=by
 have t:¬ ((1:Int)<0):=⋯
 unfold bH.Slice.sliceAdjust;simp only[t,fN];refine dQ ?_ ?_
 ·cases M with
  |none=>rfl
  |some u=>exact Gf u x 0
 ·cases Vl with
  |none=>rfl
  |some u=>exact Gf u x x
def LF(g r:Nat):bH.Slice.slicePlaces (g:Int) (r:Int) 1=r-g:=by
 unfold bH.Slice.slicePlaces;have t:(1:Int)>0:=⋯
 simp only[t,iQ,Int.ediv_one];split<;>lia
def G9{u:ae}{n:Option Int}{C:Option Int->ao->Prop}(m:kP u n)(e:C n j):wpAny (aO Vs H) O (bH.Slice.slicePartIndex u) C Vo j:=by
 cases m with
 |none=>exact CB e
 |int g D=>exact slicePart_int e
def DX{x:Nat}{C:Int×Int×Nat->ao->Prop}(Vy:j.heap.IsSliceOf bo cu i .none)(aZ:kP cu M)(c:kP i Vl)(e:C (((cx x 0 M:Nat):Int),1,cx x x Vl-cx x 0 M) j):wpAny (aO Vs H) O (bH.Slice.sliceApplied (.ref bo)<|pure (x:Int)) C Vo j:=by
 let⟨@VI,a,d,b⟩:=id Vy;unfold bH.Slice.sliceApplied bH.Slice.sliceFields;refine aB (aB<|z0 a b (x:=cu) rfl<|aB<|z0 a b (x:=i) rfl<|aB<|z0 a b (x:=.none) rfl<|aR ?_);refine aB (CB ?_);show wpAny _ _ (if ((1:Int)==0)=V then _ else _) _ _ j;rw[aJ ∅];refine aB (G9 aZ<|aB<|G9 c<|aB<|aR ?_);show wpAny _ _ (match bH.Slice.sliceAdjust M Vl 1 (x:Int) with|(M,Vl)=>pure (M,(1:Int),bH.Slice.slicePlaces M Vl 1)) _ _ j;rw[RC M Vl x];show wpAny _ _ (pure (((cx x 0 M:Nat):Int),(1:Int),bH.Slice.slicePlaces ((cx x 0 M:Nat):Int) ((cx x x Vl:Nat):Int) 1)) _ _ j;rw[LF];exact aR e
def Rh(w:Array ae)(g q:Nat):((range q).filterMap λ(l:Nat)=>w[((g:Int)+(l:Int)*1).toNat]?).toArray=((w.toList.drop g).take q).toArray:=by
 have d:(λ(l:Nat)=>w[((g:Int)+(l:Int)*1).toNat]?)=λl=>w[g+l]?:=by
  funext l;have:((g:Int)+(l:Int)*1).toNat=g+l:=⋯
  rw[this]
 rw[d];have:=pick_run w g q;rw[List.filterMap_map]at this;have a:((λf=>w[f]?) ∘ λf=>g+f)=λl=>w[g+l]?:=rfl;rw[a]at this;rw[this]
def OT{VP:Array ae}(bI:oz j.heap D VP)(Vy:j.heap.IsSliceOf bo cu i .none)(aZ:kP cu M)(b:kP i Vl)(c:¬ (cx VP.size 0 M=0/\cx VP.size VP.size Vl=VP.size))(e:C (.ref j.heap.objs.size) {j with heap:=j.heap.push {cls:=.type "tuple",data:=.seq ((VP.toList.drop<|cx VP.size 0 M).take<|cx VP.size VP.size Vl-cx VP.size 0 M).toArray} })(k:VP.size<=sizeLine):wpAny (aO Vs H) O (mP (.ref D)<|.ref bo) C Vo j:=by
 have a:sizeOk (.seq ((VP.toList.drop<|cx VP.size 0 M).take<|cx VP.size VP.size Vl-cx VP.size 0 M).toArray):=by
  show ((VP.toList.drop<|cx VP.size 0 M).take<|cx VP.size VP.size Vl-cx VP.size 0 M).toArray.size<=sizeLine;rw[cN,gN,hc,df];lia
 have m:cx VP.size VP.size Vl<=VP.size:=PA _ _ (bD _) Vl;let⟨@VI,d,f,n⟩:=id Vy;have g:j.TypeIs (.ref bo) "slice" := ⟨VI,d,f⟩;unfold mP;try with_reducible refine f9 ?_
 first|refine aB (aR ?_)|skip
 refine aB (Be bI.typeIs ∅ ?_);refine aB (qA (name:=az.ofString "__getitem__") bI.typeIs pO
  (iR pO bI.typeIs DN ?_<|Bi _ _));show wpAny _ _ (bH.Tuple.tupleItemsOf (.ref D) >>= _) _ _ j;refine aB (Gv bI ?_);refine aB (mE g ?_);rw[aF ∅];refine aB (DX Vy aZ b ?_);have h:¬ ((((cx VP.size 0 M:Nat):Int)==0&&(1:Int)==1&&(cx VP.size VP.size Vl-cx VP.size 0 M)==VP.size)=V):=by
  intro p;rw[cT,cT]at p;have o:((cx VP.size 0 M:Nat):Int)=0:=eq_of_beq p.1.1;have q:cx VP.size VP.size Vl-cx VP.size 0 M=VP.size:=eq_of_beq p.2;exact c ⟨⋯,⋯⟩
 show wpAny _ _ (if (((cx VP.size 0 M:Nat):Int)==0&&(1:Int)==1&&(cx VP.size VP.size Vl-cx VP.size 0 M)==VP.size)=V then _ else _) _ _ j;rw[aJ h,Rh];first
  | exact aB (m:=bH.Tuple.tupleExact _) (hp (aR ⟨_,rfl,aR e⟩) a)
  | exact aB (m:=bH.Tuple.tupleExact _) (hp (aB<|aR<|aR ⟨_,rfl,aR e⟩) a)
  | exact aB (aB (m:=bH.Tuple.tupleExact _)<|hp (aR<|aR ⟨_,rfl,aR e⟩) a)
  | exact aB (aB (m:=bH.Tuple.tupleExact _)<|hp (aR ⟨_,rfl,aR e⟩) a)
end
end dP
namespace L2
open Spec PyProof.Rows
variable{Vk:a4}{C:ae->ao->Prop}{T b:aD}{Vx:List (List aa×au)}{H:bg}{Vz:bE}{n:Option au}{V1 x:Nat}{U VA VH:List ae}{m:aj}{j:ao}{B:a6}{G:List (aj×ba)}{s:bR}{VM:Type}{g:Int}{w:List (List aa×aj×ae)}
abbrev mF:=a6->aD->(Option Int->aD->Prop)->Prop
def G2(a:aL)(d:Option bl)(D:mF)(G:List (aj×ba)):Prop:=(
 ∀(j:ao) (B:a6) (b:aD) (C:Option Int->aD->Prop),aI a G B b j->D B b C->
  wpAny (aO a.prog a.w) a.A (evalPart d a.env) (λJ Vm=>∃n T,aI a G B T Vm/\kP J n/\C n T) a.cR j)
def pA(a:aL)(d:Option bl)(D:mF):Prop:=(∀G,G2 a d D G)
def RB:mF:=(λ_ b C=>C X b)
def TU(D:b5):mF:=(λB b C=>D B b λf Vt=>∃g,f=.int g/\C (Z g) Vt)
section
variable{a:aL}{d:bl}{WA:b5}{M Vl:Option bl}{WY k:mF}{VC Wj:Pos}
def JN:pA a X RB:=by
 intro G j B b C y e;rw[B7];exact aR ⟨X,b,y,.none,e⟩
def NV(e:bG a d WA):pA a (Z d) (TU WA):=by
 intro G j B b C y c;rw[evalPart_some];refine b0 (e G j B b _ y c) λJ m h=>?_;let⟨f,@Vt,i,k,l⟩:=h;let⟨@g,rfl,p⟩:=l;let⟨@D,rfl⟩:=k;exact⟨Z g,Vt,i,.int g D,p⟩
def ri(a:aL)(s:au->Option Int->Option Int->aD->cW->Prop):Prop:=(
 ∀(G:List (aj×ba)) (j:ao) (B:a6) (b:aD) (f:au) (u cu i:ae) (M Vl:Option Int) (bo:aj) (C:cW),aI a G B b j->ck f u->j.heap.IsSliceOf bo cu i .none->kP cu M->kP i Vl->s f M Vl b C->
  ∃Vv id,yd (.type Vv) "__getitem__" = pure (Z<|.builtin id)/\j.TypeIs u Vv/\wpAny (aO a.prog a.w) a.A (mP u<|.ref bo) (eM a G B C) a.cR j)
def MT(s:au->Option Int->Option Int->aD->cW->Prop)(WA:b5)(WY k:mF):b5:=(λB b C=>WA B b λf Vt=>WY B Vt λI VF=>k B VF λJ a=>s f I J a C)
def SD{s:au->Option Int->Option Int->aD->cW->Prop}(m:ri a s)(n:bG a d WA)(o:pA a M WY)(q:pA a Vl k):bG a (.Subscript d (.Slice M Vl X Wj) VC) (MT s WA WY k):=by
 intro G j B b C y e;refine Subscript_ (b0 (n G j B b _ y e) λu r h=>?_);let⟨f,@Vt,t,v,x⟩:=h;refine wpAny_Slice (b0 (o G r B Vt _ t x) λcu z ⟨I,VF,D,aZ,E⟩=>b0 (q G z B VF _ D E) λi g h=>?_);let⟨J,@l,F,L,N⟩:=h;rw[B7];refine aR ?_;have P:aI a G B l {g with heap:=g.heap.push {cls:=.type "slice",data:=.fields #[cu,i,.none]} }:=F.kept (V1:=g.toks) λc aQ p=>cG _ p;let⟨Vv,@id,Q,bI,R⟩:=m G {g with heap:=g.heap.push {cls:=.type "slice",data:=.fields #[cu,i,.none]} } B l f u cu i I J g.heap.objs.size C P v (a4.IsSliceOf.new ..) aZ L N;show wpAny (aO a.prog a.w) a.A (Ee d (.Slice M Vl X Wj) u<|.ref g.heap.objs.size) (eM a G B C) a.cR {g with heap:=g.heap.push {cls:=.type "slice",data:=.fields #[cu,i,.none]} };exact yZ (ops:=[.ref g.heap.objs.size,u]) bI Q R (by with_unfolding_all rfl)
def mv(w:List au)(M Vl:Option Int):List au:=((w.drop<|dP.cx w.length 0 M).take (dP.cx w.length w.length Vl-dP.cx w.length 0 M))
def A9(w:List au)(M Vl:Option Int):(mv w M Vl).length<=w.length:=by
 unfold mv;rw[gN,hc];lia
def IB(R:Φ):au->Option Int->Option Int->aD->cW->Prop:=(λf M Vl b C=>∃h w,f=.ref h/\cZ R b h w/\
 ¬ (dP.cx w.length 0 M=0/\dP.cx w.length w.length Vl=w.length)/\∀m,b m=X->C (.ref m) (upd b m<|.tup<|mv w M Vl))
def Rm:ri a (IB a.K):=by
 intro G j B b f u cu i M Vl bo C y k Vy aZ l e;let⟨h,@w,rfl,m,o,p⟩:=e;cases k;let⟨@VA,s,bI,g⟩:=y.tuple m;have d:VA.toArray.size=w.length:=by rw[cN];exact s.length.symm
 refine⟨"tuple",_,pO.lookup,bI.typeIs,?_⟩;refine dP.OT bI Vy aZ l (by rw[d];exact o) ?_ (by rw[d];exact g);rw[d];refine⟨.ref j.heap.objs.size,_,y.laid (V1:=j.toks) (n:=.tup (mv w M Vl)) (λc aQ p=>cG _ p) (bD _) ?_,rfl,p _<|y.a5.fresh<|bD _⟩;exact⟨dc (A9 w M Vl) g,_,(s.drop<|dP.cx w.length 0 M).take<|dP.cx w.length w.length Vl-dP.cx w.length 0 M,mz.new _ _⟩
def JA(R:Φ):bR:=(λf z b C=>∃h c w VJ,f=.ref h/\z=.ref c/\cZ R b h w/\cZ R b c VJ/\w≠[]/\w.length+VJ.length<=sizeLine/\
 (VJ=[]->C (.ref h) b)/\(VJ≠[]->∀m,b m=X->C (.ref m) (upd b m<|.tup<|w++VJ)))
def bY.tY{w:List au}(s:bY w VH):VH=[]↔w=[]:=by
 cases s with
 |nil=>simp
 |cons _ _=>simp
def Io:ek a (gG .Add) (JA a.K):=by
 intro G j B b f z u J C y l m e;let⟨h,c,w,@VJ,rfl,rfl,o,q,r,k,s,t⟩:=e;cases l;cases m;let⟨@VA,g,v,W⟩:=y.tuple o;let⟨@x,d,Wj,W⟩:=y.tuple q;refine dP.Kt v Wj (λi=>r<|g.tY.mp i) (λi=>⟨.ref h,b,y,rfl,s<|d.tY.mp i⟩) (λi=>?_) (by rw[<-g.length,<-d.length];exact k);refine⟨.ref j.heap.objs.size,_,y.laid (V1:=j.toks) (n:=.tup (w++VJ)) (λc aQ p=>cG _ p) (bD _) ?_,rfl,t (λH=>i<|d.tY.mpr H) _<|y.a5.fresh<|bD _⟩;exact⟨by rw[dd];exact k,_,g.append d,mz.new _ _⟩
end
def mK(x:Nat)(g:Int):Option Nat:=(if 0<=g then (if g<x then Z g.toNat else X) else if -(x:Int)<=g then Z (g+x).toNat else X)
def fP{VM:Type}(w:List VM)(g:Int):Option VM:=((mK w.length g).bind λr=>w[r]?)
def BR{r:Nat}(e:mK x g=Z r):wU g x=Z r/\r<x /\ -(x:Int)<=g/\g<x:=by
 unfold mK at e;by_cases a:0<=g
 ·rw[aF a]at e;by_cases t:g<x
  ·rw[aF t]at e;have d:g.toNat=r:=Option.some.inj e;exact⟨by rw[uD a t,d],⋯,⋯,t⟩
  ·rw[aJ t]at e;cases e
 ·rw[aJ a]at e;by_cases t : -(x:Int)<=g
  ·rw[aF t]at e;have d:(g+x).toNat=r:=Option.some.inj e;exact⟨by rw[AN ⋯ t,d],⋯,t,⋯⟩
  ·rw[aJ t]at e;cases e
def BP{w:List VM}{u:VM}(e:fP w g=Z u):∃r,wU g w.length=Z r/\w[r]?=Z u/\r<w.length /\ -(w.length:Int)<=g/\g<w.length:=by
 unfold fP at e;cases d:mK w.length g with
 |none=>rw[d]at e;cases e
 |some r=>
  rw[d]at e;let@⟨t,A,a,b⟩:=BR d;exact⟨r,t,e,A,a,b⟩
def xO(c:bl):Prop:=(∀n g,subscripted c aA n g=operate [n,g] (mP n g))
def hL(a:aL)(s:bR):Prop:=(
 ∀(WV c:bl) (G:List (aj×ba)) (j:ao) (B:a6) (b:aD) (f z:au) (u J:ae) (C:cW),aI a G B b j->ck f u->ck z J->s f z b C->
  subscripted c aA u J=operate [u,J] (mP u J)->wpAny (aO a.prog a.w) a.A (Ee WV c u J) (eM a G B C) a.cR j)
def vf(a:aL)(id:String)(s:au->List au->aD->cW->Prop):Prop:=(
 ∀(G:List (aj×ba)) (j:ao) (B:a6) (b:aD) (f:au) (w:List au) (u:ae) (VH:List ae) (C:cW),aI a G B b j->ck f u->bY w VH->s f w b C->
  wpAny (aO a.prog a.w) a.A (call (.builtin id) (u::VH)) (eM a G B C) a.cR j)
section
variable{a:aL}{h c:bl}{We Wy:b5}{VC:Pos}
def hL.or{Wh:bR}(e:hL a s)(Vk:hL a Wh):hL a (λf z b C=>s f z b C\/Wh f z b C):=by
 intro WV c G j B b f z u J C y d g p Vy;rcases p with p|p
 ·exact e WV c G j B b f z u J C y d g p Vy
 ·exact Vk WV c G j B b f z u J C y d g p Vy
def Um(d:hL a s)(g:bG a h We)(i:bG a c Wy)(Vy:xO c):bG a (.Subscript h c VC) (uu s We Wy):=by
 intro G j B b C y e;exact Subscript_ (xp g i y e λu J k f z VF l m n p=>d h c G k B VF f z u J C l m n p<|Vy _ _)
def TK(R:Φ):bR:=(λf z b C=>∃m w g u,f=.ref m/\z=.int g/\dw R b m w/\fP w g=Z u/\C u b)
def J3(R:Φ):bR:=(λf z b C=>∃m w g u,f=.ref m/\z=.int g/\cZ R b m w/\fP w g=Z u/\C u b)
def Jr:hL a (TK a.K):=by
 intro WV F G j B b f z u J C y k l e Vy;let⟨m,w,g,@i,rfl,rfl,n,o,p⟩:=e;cases k;let⟨@D,rfl⟩:=l;let⟨@VA,s,aZ,I⟩:=y.list n;let⟨@r,t,A,L,q,v⟩:=BP o;let⟨@H,d,x⟩:=s.get A;have E:=s.length;have M:=nR;have fin:eM a G B C H j:=⟨i,b,y,x,p⟩;by_cases h:0<=g
 ·have c:g.toNat=r:=by
   rw[uD h v]at t;exact Option.some.inj t
  exact item_listR aZ.isList h ⋯ (by rw[c];simpa using d) fin Vy
 ·have c:(g+(VA.toArray.size:Int)).toNat=r:=by
   rw[AN ⋯ q]at t;rw[cN,<-E];exact Option.some.inj t
  exact FH (x:=H) aZ.isList.typeIs A6.lookup
   (wpAny_getItem_list_neg (Q:=λs Vm=>s=H/\eM a G B C s Vm) aZ.isList ⋯ (by rw[cN]<;>lia) ⋯ (by rw[c];simpa using d) ⟨rfl,fin⟩) Vy
def FI:hL a (J3 a.K):=by
 intro WV q G j B b f z u J C y c d e Vy;let⟨m,w,g,@i,rfl,rfl,h,k,p⟩:=e;cases c;let⟨@D,rfl⟩:=d;let⟨@VA,s,aZ,v⟩:=y.tuple h;let⟨@r,t,A,x,E,F⟩:=BP k;let⟨@H,l,n⟩:=s.get A;have o:=s.length;have I:=nR;have fin:eM a G B C H j:=⟨i,b,y,n,p⟩;exact FH (x:=H) aZ.typeIs slot_tuple_getitem.lookup
  (getItem_tuple (j:=r) (Q:=λs Vm=>s=H/\eM a G B C s Vm) aZ ⋯ ⋯ (by rw[cN,<-o];exact t) ⇑l ⟨rfl,fin⟩) Vy
def Kk(VA:List ae)(x r:Nat)(J:ae):ba.mapSeq (·.setIfInBounds r J) {cls:=.type "list",data:=.seq VA.toArray x}={cls:=.type "list",data:=.seq (VA.set r J).toArray x}:=by
 simp[ba.mapSeq]
variable{w:List au}
def aI.lst(y:aI a G B b j)(e:b m=Z (.lst w)):
  ∃(VA:List ae) (x:Nat),bY w VA/\j.heap.get? m=Z {cls:=.type "list",data:=.seq VA.toArray x}/\w.length<=sizeLine:=by
 let@⟨i,⟨VA,@x,s,d⟩⟩:=y.a5 m _ e;exact⟨VA,x,s,d,i⟩
def aI.PE{VJ:List au}{g:Nat}{F:ba->ba}(y:aI a G B b j)(e:b m=Z (.lst w))(i:j.heap.get? m=Z {cls:=.type "list",data:=.seq VA.toArray x})(h:F {cls:=.type "list",data:=.seq VA.toArray x}={cls:=.type "list",data:=.seq U.toArray g})(s:bY VJ U)(k:VJ.length<=sizeLine)(D:Nat):
  aI a G B (upd b m<|.lst VJ) {j with heap:=j.heap.update m F,toks:=D}:=by
 have d:(j.heap.update m F).get? m=Z {cls:=.type "list",data:=.seq U.toArray g}:=by
  rw[lE F i (by rw[h]<;>rfl),h]
 refine y.write (f:=m) (d:=m) (by rw[e];trivial) (.inl rfl) (λc J l p=>(ip _ _<|eZ l).trans p) ⟨_,d⟩ ?_;exact⟨k,U,g,s,d⟩
def MZ:au->au->au->aD->(aD->Prop)->Prop:=(λn g u b C=>∃m w q r,n=.ref m/\g=.int q/\b m=Z (.lst w)/\mK w.length q=Z r/\C (upd b m<|.lst<|w.set r u))
def JR:zW a MZ:=by
 intro G j B b n g u I L J C y k z E e;let⟨m,w,q,@r,rfl,rfl,h,F,p⟩:=e;cases k;let⟨@D,rfl⟩:=z;let⟨VA,@x,s,c,H⟩:=y.lst h;let@⟨t,A,i,l⟩:=BR F;have d:=s.length;have M:=nR;have o:aI a G B (upd b m<|.lst<|w.set r u) {j with heap:=j.heap.update m (ba.mapSeq (·.setIfInBounds r J))}:=
  y.PE h c (Kk VA x r J) (s.set E r) (by rw[tZ];exact H) j.toks;by_cases v:0<=q
 ·have f:q.toNat=r:=by
   rw[uD v l]at t;exact Option.some.inj t
  exact PySem.W.ki_setAt c v ⋯ (by rw[cN,<-d];exact l) (by rw[f];exact⟨_,o,p⟩)
 ·have f:(q+(VA.toArray.size:Int)).toNat=r:=by
   rw[AN ⋯ i]at t;rw[cN,<-d];exact Option.some.inj t
  exact PySem.W.ki_setBack c ⋯ (by rw[cN,<-d];exact i) ⋯ (by rw[f];exact⟨_,o,p⟩)
def Te(M Vl:Option Int)(x:Nat):(oF M Vl X x).1=((dP.cx x 0 M:Nat):Int)/\(oF M Vl X x).2.1=((dP.cx x x Vl:Nat):Int)/\(oF M Vl X x).2.2=1:=by
 refine⟨?_,?_,rfl⟩
 ·cases M with
  |none=>simp[oF,dP.cx]
  |some g=>
   simp only[oF,dP.cx,CY,show (1:Int)>0 by decide,iQ];by_cases e:g<0
   ·simp only[e,iQ]<;>lia
   ·simp only[e,fN]<;>lia
 ·cases Vl with
  |none=>simp[oF,dP.cx]
  |some g=>
   simp only[oF,dP.cx,CY,show (1:Int)>0 by decide,iQ];by_cases e:g<0
   ·simp only[e,iQ]<;>lia
   ·simp only[e,fN]<;>lia
def Jk(VA:List ae)(M Vl:Option Int):slicePick VA.toArray M Vl X=((VA.drop<|dP.cx VA.length 0 M).take<|dP.cx VA.length VA.length Vl-dP.cx VA.length 0 M).toArray:=by
 let@⟨t,A,a⟩:=Te M Vl VA.toArray.size;unfold slicePick;rw[t,A,a];simp only[sliceRange_one,pick_run,cN]<;>rfl
def R1(R:Φ):au->Option Int->Option Int->aD->cW->Prop:=(λf M Vl b C=>∃h w,f=.ref h/\dw R b h w/\∀m,b m=X->C (.ref m) (upd b m<|.lst<|mv w M Vl))
def Ec:ri a (R1 a.K):=by
 intro G j B b f u cu i M Vl bo C y d Vy aZ g e;let⟨h,@w,rfl,k,p⟩:=e;cases d;let⟨@VA,s,bI,l⟩:=y.list k;have m:=s.length;refine⟨"list",_,A6.lookup,bI.isList.typeIs,?_⟩;refine wpAny_getItem_list_slice bI.isList Vy aZ g .none ↥0 ?_ (by rw[cN]<;>lia);rw[Jk,<-m];refine⟨.ref j.heap.objs.size,_,y.laid (V1:=j.toks) (n:=.lst (mv w M Vl)) (λc aQ p=>cG _ p) (bD _) ?_,rfl,p _<|y.a5.fresh<|bD _⟩;exact⟨dc (A9 w M Vl) l,_,0,(s.drop<|dP.cx w.length 0 M).take<|dP.cx w.length w.length Vl-dP.cx w.length 0 M,dM _ rfl⟩
def MS:eD a (.builtin "len") (λw b C=>∃m VJ,w=[.ref m]/\(dw a.K b m VJ\/cZ a.K b m VJ)/\C (.int VJ.length) b):=by
 intro G j B b w VH C y s e;let⟨m,@VJ,rfl,c,p⟩:=e;let⟨@J,rfl,f⟩:=h2 s;cases f;have h:=nR;rcases c with c|c
 ·let⟨@VA,Wh,aZ,g⟩:=y.list c;have d:=Wh.length;exact Calls.call_len_list aZ.isList (by simp only[cN]<;>lia) ⟨.int VJ.length,b,y.tok _,⟨j.toks+1,by rw[cN,d]⟩,p⟩
 ·let⟨@VA,Wh,aZ,g⟩:=y.tuple c;have d:=Wh.length;exact len_tuple aZ (by simp only[cN]<;>lia) ⟨.int VJ.length,b,y.tok _,⟨j.toks+1,by rw[cN,d]⟩,p⟩
def IS:eD a (.builtin "len") (λw b C=>∃i,w=[.str i]/\i.length<=sizeLine/\C (.int i.length) b):=by
 intro G j B b w VH C y s e;let⟨@i,rfl,c,p⟩:=e;let⟨@J,rfl,⟨@D,rfl⟩⟩:=h2 s;have d:=nR;exact len_str ⋯ ⟨.int i.length,b,y.tok _,⟨_,rfl⟩,p⟩
def eD.or{F:ae}{s Wh:List au->aD->cW->Prop}(e:eD a F s)(Vk:eD a F Wh):eD a F (λw b C=>s w b C\/Wh w b C):=by
 intro G j B b w VH C y V7 p;rcases p with p|p
 ·exact e G j B b w VH C y V7 p
 ·exact Vk G j B b w VH C y V7 p
def UG:eD a (.type "list") (λw b C=>∃m VJ,w=[.ref m]/\(dw a.K b m VJ\/cZ a.K b m VJ)/\∀I,b I=X->C (.ref I) (upd b I<|.lst VJ)):=by
 intro G j B b w VH C y s e;let⟨m,@VJ,rfl,f,p⟩:=e;let⟨@J,rfl,k⟩:=h2 s;cases k;have fin:∀(VA:List ae),bY VJ VA->VJ.length<=sizeLine->∀(Vk:a4) (V9:Nat),(∀c V4,j.heap.get? c=Z V4->Vk.get? c=Z V4)->
   Vk.get? j.heap.objs.size=Z {cls:=.type "list",dict:=X,data:=.seq VA.toArray V9,slots:=#[]}->eM a G B C (.ref j.heap.objs.size) {j with heap:=Vk}:=λVA Wh g Vk V9 cI d=>
  ⟨.ref j.heap.objs.size,_,y.laid (V1:=j.toks) cI (bD _)<|show eb a.prog a.w _ Vk _ (.lst VJ) from ⟨g,VA,V9,Wh,d⟩,rfl,p _<|y.a5.fresh<|bD _⟩;rcases f with f|f
 ·let⟨@VA,Wh,aZ,g⟩:=y.list f;have l:=Wh.length;let⟨@n,h,i,⟨@x,hd⟩⟩:=aZ.isList;exact Fv m (.inl rfl) h i hd (λVk V9 cI d=>fin VA Wh g Vk V9 cI d) (by simp only[cN]<;>lia)
 ·let⟨@VA,Wh,aZ,g⟩:=y.tuple f;have l:=Wh.length;let⟨@n,h,i,⟨@x,hd⟩⟩:=aZ;exact Fv m (.inr rfl) h i hd (λVk V9 cI d=>fin VA Wh g Vk V9 cI d) (by simp only[cN]<;>lia)
def QR:eD a (.type "tuple") (λw b C=>∃m VJ,w=[.ref m]/\((dw a.K b m VJ/\∀I,b I=X->C (.ref I) (upd b I<|.tup VJ))\/(cZ a.K b m VJ/\C (.ref m) b))):=by
 intro G j B b w VH C y s e;let⟨m,@VJ,rfl,e⟩:=e;let⟨@J,rfl,i⟩:=h2 s;cases i;rcases e with ⟨f,p⟩|⟨f,p⟩
 ·let⟨@VA,Wh,aZ,g⟩:=y.list f;have l:=Wh.length;refine call_tuple_list aZ.isList (λVk cI=>?_) (by simp only[cN]<;>lia);have h:aI a G B b {j with heap:=Vk}:=y.kept (V1:=j.toks) cI;have k:aI a G B (upd b Vk.objs.size<|.tup VJ) {j with heap:=Vk.push {cls:=.type "tuple",data:=.seq VA.toArray} }:=
   h.laid (V1:=j.toks) (λc n d=>cG _ d) (bD _) (show eb a.prog a.w _ _ _ (.tup VJ) from ⟨g,VA,Wh,mz.new _ _⟩);exact⟨.ref Vk.objs.size,_,k,rfl,p _<|h.a5.fresh<|bD _⟩
 ·let⟨@VA,Wh,aZ,g⟩:=y.tuple f;exact call_tuple_same aZ ⟨.ref m,b,y,rfl,p⟩
def kd(R:Φ)(Vv:String)(f:au)(b:aD):Prop:=(match f with
 |.str _=>Vv = "str"
 |.int _=>Vv = "int"
 |.ref m=>(Vv = "list" /\ ∃w,dw R b m w)\/(Vv = "tuple" /\ ∃n,R.lookup m=Z n/\n.cls=.type "tuple" /\ n.dict=X)\/
   (Vv = "dict" /\ ((∃Vx,b m=Z (.dJ Vx))\/∃Vx,b m=Z (.aw Vx)))\/(Vv = "set" /\ ∃VD x,b m=Z (.set VD x))
 |_=>False)
def Fs{Vv:String}{f:au}{u:ae}(y:aI a G B b j)(s:ck f u)(ty:kd a.K Vv f b):
  j.TypeIs u Vv/\∀h,u=.ref h->∃aQ,j.heap.get? h=Z aQ/\aQ.dict=X:=by
 cases f with
 |str i=>
  let⟨@D,rfl⟩:=s;cases (show Vv = "str" from ty);exact⟨za j i D,λ_ d=>nomatch d⟩
 |int g=>
  let⟨@D,rfl⟩:=s;cases (show Vv = "int" from ty);exact⟨typeIs_int j g D,λ_ d=>nomatch d⟩
 |ref m=>
  cases s;rcases ty with ⟨rfl,w,k⟩|⟨rfl,n,c,l,hd⟩|⟨rfl,c⟩|⟨rfl,VD,x,c⟩
  ·let⟨@VA,W,aZ,W⟩:=y.list k;refine⟨aZ.isList.typeIs,λh d=>?_⟩;cases d;let⟨n,@x,d,o,hd,W⟩:=aZ;exact⟨n,d,hd⟩
  ·refine⟨⟨n,y.hC m n c,l⟩,λh d=>?_⟩;cases d;exact⟨n,y.hC _ n c,hd⟩
  ·have i:∃n,j.heap.get? m=Z n/\n.ExactDict:=by
    rcases c with ⟨Vx,c⟩|⟨Vx,c⟩
    ·let@⟨_,_,⟨@_,_,⟨n,_,@_,d,Wg,_⟩⟩⟩:=y.a5 m _ c;exact⟨n,d,Wg⟩
    ·let@⟨_,_,⟨@_,_,⟨n,_,@_,d,Wg,_⟩⟩⟩:=y.a5 m _ c;exact⟨n,d,Wg⟩
   let⟨@n,d,Wg⟩:=i;refine⟨⟨n,d,Wg.1⟩,λh e=>?_⟩;cases e;exact⟨n,d,Wg.2.1⟩
  ·let⟨n,W,W,@W,d,Wg,W⟩:=y.a5 m _ c;refine⟨⟨n,d,Wg.1⟩,λh e=>?_⟩;cases e;exact⟨n,d,Wg.2.1⟩
 |_=>exact False.elim ty
def UM(R:Φ)(Vv:String)(s:au->List au->aD->cW->Prop)(k:b5):b5:=(λB b C=>k B b λf Vt=>kd R Vv f Vt/\s f [] Vt C)
def IM(R:Φ)(Vv:String)(s:au->List au->aD->cW->Prop)(k:b5)(D:fh):b5:=(λB b C=>k B b λf Vt=>kd R Vv f Vt/\D B Vt λw VF=>s f w VF C)
variable{n d:bl}{S:List bl}{k:b5}{D:fh}{name:az}{WH l:Pos}{Vv id:String}{s:au->List au->aD->cW->Prop}
def Sz(bT:q7 Vv)(WB:nZ Vv name id)(g:pe (.builtin id)=pure (.type "method_descriptor"))(h:vf a id s)(i:bG a n k)(m:hG n name a.env (bJ n a.env)=bJ n a.env:=by rfl)(o:(WH.endLine==l.line)=V:=by rfl):bG a (.Call (.Attribute n name WH) [] [] l) (UM a.K Vv s k):=by
 intro G j B b C y e;refine wpAny_Call_method0_late m o (b0 (i G j B b _ y e) λu p q=>?_);let⟨f,@Vt,c,d,ty,r⟩:=q;let@⟨t,A⟩:=Fs c d ty;exact⟨Vv,id,bT,WB,g,t,A,HZ rfl<|PySem.evalArgs_none<|h G p B Vt f [] u [] C c d .nil r⟩
def H3(bT:q7 Vv)(WB:nZ Vv name id)(m:pe (.builtin id)=pure (.type "method_descriptor"))(o:vf a id s)(p:bG a n k)(q:hg a (d::S) D)(r:hG n name a.env (bJ n a.env)=bJ n a.env:=by rfl)(v:((d9 l<|bP (d::S) a.env).all (λf=>!f.1)&&(m4 l<|nk [] a.env).all (λf=>f.1.isSome)
   && decide ((d::S).length+([]:List nT).length+(if ([]:List nT).isEmpty then 0 else 1)<30))=V:=by rfl)(w:(WH.endLine==l.line)=V:=by rfl)(Vy:bP (d::S) a.env=(aA,bJ d a.env)::bP S a.env:=by rfl)(x:(d9 l<|bP S a.env).any (·.1)=aA:=by rfl):
  bG a (.Call (.Attribute n name WH) (d::S) [] l) (IM a.K Vv s k D):=by
 intro G j B b C y e;refine wpAny_Call_method_late r v w rfl (b0 (p G j B b _ y e) λu z c=>?_);let⟨f,@Vt,g,h,ty,E⟩:=c;let@⟨t,A⟩:=Fs g h ty;refine⟨Vv,id,bT,WB,m,t,A,?_⟩;have i:=q l G z B Vt _ g E;rw[Vy]at i ⊢;refine HZ (by show (aA || (d9 l<|bP S a.env).any (·.1))=aA;rw[x]<;>rfl) (Calls.evalArgs_plain ?_);refine b0 i λVH F c=>?_;let⟨Vj,@VF,H,I,J⟩:=c;exact o G F B VF f Vj u VH C H h I J
end
def tm(a:aL)(id:String)(s:au->List au->aD->cW->Prop):Prop:=(
 ∀(G:List (aj×ba)) (j:ao) (B:a6) (b:aD) (f:au) (w:List au) (u:ae) (VH:List ae) (C:cW),aI a G B b j->ck f u->bY w VH->s f w b C->
  wpAny (aO a.prog a.w) a.A (call (.builtin id) (u::VH)) (eM a G B C) a.cR j)
theorem bY.one:∀{f:au}{VH:List ae},bY [f] VH->∃J,VH=[J]/\ck f J
 |_,_,.cons s .nil=>⟨_,rfl,s⟩
theorem bY.zero:∀{VH:List ae},bY [] VH->VH=[]
 |_,.nil=>rfl
def bY.dropLast{w:List au}(e:bY w VH):bY w.dropLast VH.dropLast:=by
 induction e with
 |nil=>exact .nil
 |cons s D a=>
  cases D with
  |nil=>exact .nil
  |cons p V1=>exact .cons s a
theorem bY.eraseIdx:∀{w:List au}{VH:List ae} (g:Nat),bY w VH->bY (w.eraseIdx g) (VH.eraseIdx g)
 |_,_,_,.nil=>.nil
 |_,_,0,.cons _ D=>D
 |_,_,g+1,.cons s D=>.cons s (bY.eraseIdx g D)
def Qn(I:List VM):I.eraseIdx (I.length-1)=I.dropLast:=by
 induction I with
 |nil=>rfl
 |cons h s a=>
  cases s with
  |nil=>rfl
  |cons c s=>
   have d:(h::c::s).length-1=((c::s).length-1)+1:=by
    have t:(h::c::s).length=s.length+2:=rfl;have A:(c::s).length=s.length+1:=rfl;lia
   rw[d,List.eraseIdx_cons_succ,a];all_goals rfl
theorem Cs{VM:Type}:∀(I:List VM) (g:Nat),(I.eraseIdx g).length<=I.length
 |[],_=>bD _
 |_::_,0=>tr _
 |_::s,g+1=>BN (Cs s g)
section
variable{a:aL}{G:List (aj×ba)}{B:a6}{b:aD}{j:ao}{I c:aj}{w VJ Q:List au}
def aI.tO{F:Array ae->Array ae}(y:aI a G B b j)(c:b I=Z (.lst w))(d:j.heap.get? I=Z {cls:=.type "list",data:=.seq VA.toArray x})(e:F VA.toArray=U.toArray)(g:bY VJ U)(h:VJ.length<=sizeLine):
  aI a G B (upd b I<|.lst VJ) {j with heap:=j.heap.update I (ba.mapSeq F),toks:=V1}:=by
 have p:=GK d F;rw[e]at p;refine y.write (f:=I) (d:=I) (by rw[c];exact trivial) (.inl rfl) (λl J i k=>(ip j.heap (ba.mapSeq F)<|eZ i).trans k) ⟨_,p⟩ ?_;exact⟨h,U,_,g,p⟩
def aI.Jx(y:aI a G B b j)(c:bY VJ VA)(d:VJ.length<=sizeLine):
  aI a G B (upd b j.heap.objs.size<|.lst VJ) {j with heap:=j.heap.push {cls:=.type "list",data:=.seq VA.toArray},toks:=V1}:=
 y.laid (λ_ W p=>cG _ p) (bD _) ⟨d,VA,0,c,dM _ rfl⟩
def aI.fresh(y:aI a G B b j):b j.heap.objs.size=X:=y.a5.fresh (bD _)
def aI.hJ(y:aI a G B b j)(c:b I=Z (.lst w)):w.length<=sizeLine/\∃(VA:List ae) (x:Nat),bY w VA/\w.length=VA.length/\j.heap.get? I=Z {cls:=.type "list",data:=.seq VA.toArray x}:=by
 let@⟨i,⟨VA,@x,s,d⟩⟩:=y.a5 I _ c;exact⟨i,VA,x,s,s.length,d⟩
def RP(e:x<=sizeLine):bH.List.listTooLong x=aA:=by
 unfold bH.List.listTooLong;exact dU ⋯
end
section
variable{a:aL}
def NQ:au->List au->aD->cW->Prop:=(λf Vj b C=>∃I w z,f=.ref I/\Vj=[z]/\b I=Z (.lst w)/\w.length<sizeLine/\C .a3 (upd b I<|.lst<|w++[z]))
def K0:tm a "list.append" NQ:=by
 intro G j B b f Vj u VH C y g h e;let⟨I,w,@z,rfl,rfl,c,l,p⟩:=e;cases g;let⟨@J,rfl,k⟩:=h.one;let@⟨i,⟨VA,@x,s,m,d⟩⟩:=y.hJ c;refine qk B2 ⟨_,d,rfl⟩ Ft (Eh _ _) (FD I VA.toArray x J (by rw[cN];lia)) ⟨d,?_⟩;refine⟨.a3,_,y.tO (U:=VA++[J]) c d ↥0 (s.append<|.cons k .nil) ?_,rfl,p⟩;rw[dd,iJ];lia
def Jd:au->List au->aD->cW->Prop:=(λf Vj b C=>∃I c w Q,f=.ref I/\Vj=[.ref c]/\b I=Z (.lst w)/\b c=Z (.lst Q)/\w.length+Q.length<=sizeLine/\C .a3 (upd b I<|.lst<|w++Q))
def Mx:tm a "list.extend" Jd:=by
 intro G j B b f Vj u VH C y k l e;let⟨I,c,w,@Q,rfl,rfl,h,m,v,p⟩:=e;cases k;let⟨@J,rfl,n⟩:=l.one;cases n;let@⟨i,⟨VA,@x,s,z,d⟩⟩:=y.hJ h;let@⟨A,⟨g,@Wu,o,D,q⟩⟩:=y.hJ m;have r:VA.toArray.size+g.toArray.size<=sizeLine:=by rw[cN,cN];lia
 have t:¬ (!VA.toArray.isEmpty&&bH.List.listTooLong (VA.toArray.size+g.toArray.size))=V:=by
  rw[RP r,EN];exact da
 refine qk F.slot_list_extend ⟨_,d,rfl⟩ F.entry_list_extend (F.args_list_extend_2 _ _)
  (AutoSeq1.list_extend_list_list_0 I VA.toArray x c g.toArray Wu t (by rw[cN];lia) ⋯) ⟨d,q,?_⟩;refine⟨.a3,_,y.tO (U:=VA++g) h d ↥0 (s.append o) ?_,rfl,p⟩;rw[dd];lia
def Nd:au->List au->aD->cW->Prop:=(λf Vj b C=>∃I w z,f=.ref I/\Vj=[]/\b I=Z (.lst w)/\w[w.length-1]?=Z z/\C z (upd b I<|.lst w.dropLast))
def Pb:tm a "list.pop" Nd:=by
 intro G j B b f Vj u VH C y g h e;let⟨I,w,@z,rfl,rfl,c,k,p⟩:=e;cases g;have l:=h.zero;subst l;let@⟨i,⟨VA,@x,s,m,d⟩⟩:=y.hJ c;let⟨@J,n,o⟩:=s.get k;have q:VA.toArray[VA.toArray.size-1]?=Z J:=by
  show VA.toArray[VA.length-1]?=Z J;rw[<-eE,<-m];exact n
 refine qk DM ⟨_,d,rfl⟩ H6 (F.args_list_pop_1 _) (MeetsSeq.list_pop_last I VA.toArray x J q (by rw[cN];lia)) ⟨d,?_⟩;refine⟨z,_,y.tO (U:=VA.dropLast) c d ?_ s.dropLast ?_,o,p⟩
 ·show VA.toArray.eraseIdxIfInBounds (VA.toArray.size-1)=VA.dropLast.toArray;rw[cN,z9,Qn]
 ·rw[List.length_dropLast];lia
def Ka:au->List au->aD->cW->Prop:=(λf Vj b C=>∃I w g q z,f=.ref I/\Vj=[.int g]/\b I=Z (.lst w) /\ -(2^63)<=g/\g<2^63/\wU g w.length=Z q/\w[q]?=Z z/\C z (upd b I<|.lst<|w.eraseIdx q))
def Mh:tm a "list.pop" Ka:=by
 intro G j B b f Vj u VH C y h k e;let⟨I,w,g,q,@z,rfl,rfl,c,t,A,l,m,p⟩:=e;cases h;let⟨@J,rfl,n⟩:=k.one;let⟨@D,rfl⟩:=n;let@⟨i,⟨VA,@x,s,o,d⟩⟩:=y.hJ c;let⟨@H,r,v⟩:=s.get m;refine qk DM ⟨_,d,rfl⟩ H6 (F.args_list_pop_2 _ _)
  (MeetsSeq.list_pop_at I VA.toArray x g D q H (fitsIndex_both t A) (by rw[cN,<-o];exact l) (by rw[<-eE];exact r) (by rw[cN];lia)) ⟨d,?_⟩;refine⟨z,_,y.tO (U:=VA.eraseIdx q) c d ?_ (s.eraseIdx q) ?_,v,p⟩
 ·show VA.toArray.eraseIdxIfInBounds q=(VA.eraseIdx q).toArray;rw[z9]
 ·have:=Cs w q;lia
def S6:bR:=(λf z b C=>∃I c w Q,f=.ref I/\z=.ref c/\b I=Z (.lst w)/\b c=Z (.lst Q)/\w.length+Q.length<=sizeLine/\∀m,b m=X->C (.ref m) (upd b m<|.lst<|w++Q))
def LD:ek a (gG .Add) S6:=by
 intro G j B b f z u J C y h k e;let⟨I,c,w,@Q,rfl,rfl,l,m,r,p⟩:=e;cases h;cases k;let@⟨i,⟨VA,@x,s,t,d⟩⟩:=y.hJ l;let@⟨v,⟨g,@Wu,n,A,o⟩⟩:=y.hJ m;refine PySem.P.add_list d o ?_ (by rw[cN,cN];lia);have q:VA.toArray++g.toArray=(VA++g).toArray:=by simp
 rw[q];exact⟨.ref _,_,y.Jx (V1:=j.toks) (s.append n) (by rw[dd];lia),rfl,p _ y.fresh⟩
end
section
variable{VO:Type}[DecidableEq VO]
def h3(Vx:List (VO×au))(q:VO):Option au:=((Vx.find? λa=>decide (a.1=q)).map (·.2))
def hD(Vx:List (VO×au))(q:VO)(u:au):List (VO×au):=(
 if (Vx.any λa=>decide (a.1=q))=V then Vx.map (λa=>if a.1=q then (a.1,u) else a) else Vx++[(q,u)])
def ve{m:VO×au}{s:List (VO×au)}{q:VO}(d:m.1=q):h3 (m::s) q=Z m.2:=by simp[h3,jl,d]
def uI{m:VO×au}{s:List (VO×au)}{q:VO}(d:¬ m.1=q):h3 (m::s) q=h3 s q:=by simp[h3,jl,d]
theorem D6(q:VO):∀Vx:List (VO×au),(Vx.any λa=>decide (a.1=q))=(h3 Vx q).isSome
 |[]=>rfl
 |m::s=>by
  rw[n4];by_cases d:m.1=q
  ·simp only[ve d,di d,D_,Option.isSome_some]
  ·rw[uI d,dU d,DD];exact D6 q s
def ES(Vx:List (VO×au))(q:VO)(u:au):(hD Vx q u).length<=Vx.length+1:=by
 unfold hD;split
 ·rw[a8];lia
 ·rw[dd,dn,l1];lia
def hF.sD{J:Option ae}(s:hF n J):n.isSome=J.isSome:=by
 cases n with
 |none=>cases J with
  |none=>rfl
  |some _=>exact (show False from s).elim
 |some _=>cases J with
  |none=>exact (show False from s).elim
  |some _=>rfl
def gf.val{Vx:List (VO×au)}{Vj:List (VO×ae)}(s:gf Vx Vj)(q:VO):hF (h3 Vx q) (nI Vj q):=by
 unfold gf at s;induction s with
 |nil=>exact True.intro
 |@cons m p Vw a e D f=>
  let@⟨t,A⟩:=e;by_cases d:m.1=q
  ·have b:p.1=q:=t.symm.trans d;have c:nI (p::a) q=Z p.2:=by simp[nI,jl,b]
   rw[ve d,c];exact A
  ·have b:¬ p.1=q:=λi=>d (t.trans i);have c:nI (p::a) q=nI a q:=by simp[nI,jl,b]
   rw[uI d,c];exact f
def gf.any{Vx:List (VO×au)}{Vj:List (VO×ae)}(s:gf Vx Vj)(q:VO):(Vx.any λa=>decide (a.1=q))=Vj.any λa=>decide (a.1=q):=by
 unfold gf at s;induction s with
 |nil=>rfl
 |cons e D b=>rw[n4,n4,b,e.1]
def gf.zD{Vx:List (VO×au)}{Vj:List (VO×ae)}(s:gf Vx Vj)(q:VO){z:au}{J:ae}(b:ck z J):
  gf (Vx.map λa=>if a.1=q then (a.1,z) else a) (Vj.map λa=>if a.1=q then (a.1,J) else a):=by
 unfold gf at s ⊢;induction s with
 |nil=>exact .nil
 |@cons m p Vw f e D c=>
  rw[b4,b4];refine .cons ?_ c;let@⟨t,A⟩:=e;by_cases d:m.1=q
  ·rw[aF d,aF<|t.symm.trans d];exact⟨t,b⟩
  ·rw[aJ d,aJ<|λi=>d<|t.trans i];exact⟨t,A⟩
def gf.put{Vx:List (VO×au)}{Vj:List (VO×ae)}(s:gf Vx Vj)(q:VO){z:au}{J:ae}(a:ck z J):gf (hD Vx q z) (stored Vj q J):=by
 unfold hD stored;rw[s.any q];by_cases d:(Vj.any λb=>decide (b.1=q))=V
 ·rw[aF d,aF d];exact s.zD q a
 ·rw[aJ d,aJ d];exact dE.snoc s ⟨rfl,a⟩
def gf.length{Vx:List (VO×au)}{Vj:List (VO×ae)}(s:gf Vx Vj):Vx.length=Vj.length:=dE.length s
end
def wk{q:et}{J:ae}(s:ck (b6 q) J):(mn Vz H).is q J=V:=by
 cases q with
 |inl g=>let⟨@D,d⟩:=(show ∃D,J=ae.int g D from s);subst d;exact JB Vz H g D
 |inr f=>let⟨@D,d⟩:=(show ∃D,J=ae.str f D from s);subst d;exact Iq Vz H f D
abbrev e9(b:aD):List (List aa×au)->List (List aa×aj×ae)->Prop:=dE λm p=>m.1=p.1/\g6 b m.1 p.2.1/\ck m.2 p.2.2
def e9.val(s:e9 b Vx w)(q:List aa):hF (h3 Vx q) ((jD w q).map (·.2)):=by
 induction s with
 |nil=>exact True.intro
 |@cons m p Vw a e D g=>
  let@⟨t,_,A⟩:=e;by_cases d:m.1=q
  ·have f:p.1=q:=t.symm.trans d;have c:jD (p::a) q=Z p.2:=by simp[jD,jl,f]
   rw[ve d,c];exact A
  ·have f:¬ p.1=q:=λi=>d (t.trans i);have c:jD (p::a) q=jD a q:=by simp[jD,jl,f]
   rw[uI d,c];exact g
def e9.zD(s:e9 b Vx w)(q:List aa){z:au}{J:ae}(c:ck z J):
  e9 b (Vx.map λa=>if a.1=q then (a.1,z) else a) (w.map<|putAt q J):=by
 induction s with
 |nil=>exact .nil
 |@cons m p Vw h e D f=>
  rw[b4,b4];refine .cons ?_ f;let@⟨t,A,g⟩:=e;unfold putAt;by_cases d:m.1=q
  ·rw[aF d,aF<|t.symm.trans d];exact⟨t,A,c⟩
  ·rw[aJ d,aJ<|λi=>d<|t.trans i];exact⟨t,A,g⟩
def e9.put(s:e9 b Vx w)(q:List aa){c:aj}{z:au}{J:ae}(e:g6 b q c)(a:ck z J):
  e9 b (hD Vx q z) (storedH w q c J):=by
 have d:(Vx.any λf=>decide (f.1=q))=(jD w q).isSome:=by
  rw[D6,(s.val q).sD,qH]
 unfold hD storedH;rw[d];by_cases p:(jD w q).isSome=V
 ·rw[aF p,aF p];exact s.zD q a
 ·rw[aJ p,aJ p];exact dE.snoc s ⟨rfl,e,a⟩
def e9.keeps(s:e9 b Vx w)(bI:∀c VJ,b c=Z (.tup VJ)->T c=Z (.tup VJ)):e9 T Vx w:=
 dE.vE s λ_ W i=>⟨i.1,i.2.1.mono bI,i.2.2⟩
section
variable{Vz:bE}{H:bg}{b:aD}{e:a4}{h:aj}
def Dj{J:eV}(ok:ea Vz H b e)(d:jw b h J):eb Vz H b e h J:=d.ok ok
def qX{Vx:List (et×au)}(ok:ea Vz H b e)(d:jw b h (.dJ Vx)):Vx.length<=sizeLine/\(h==iX)=aA/\∃Vj,gf Vx Vj/\e.DictOf (mn Vz H) h Vj:=
 show eb Vz H b e h (.dJ Vx) from Dj ok d
def Ra{Vx:List (et×au)}(ok:ea Vz H b e)(d:b h=Z (.dJ Vx)):Vx.length<=sizeLine/\(h==iX)=aA/\∃Vj,gf Vx Vj/\e.DictOf (mn Vz H) h Vj:=qX ok (.inl d)
mutual
theorem cC.ft(ok:ea Vz H b e):∀{v:aa}{u:au}{J:ae},cC b v u->ck u J->dh e v J
 |.a3,_,_,d,s=>by cases (show _=au.a3 from d);exact s
 |.av c,_,_,d,s=>by cases (show _=au.av c from d);exact s
 |.int g,_,_,d,s=>by cases (show _=au.int g from d);exact s
 |.str f,_,_,d,s=>by cases (show _=au.str f from d);exact s
 |.fn h,_,_,d,s=>by cases (show _=au.ref h from d);exact s
 |.tup E,_,_,d,s=>by
  let⟨h,@w,rfl,t,A⟩:=d;cases s;let@⟨_,⟨@VA,a,⟨@n,i,j,⟨@x,k⟩⟩⟩⟩:=(show eb Vz H b e h (.tup w) from ok h _ t);exact⟨h,n,VA.toArray,x,rfl,i,(Prod.mk.inj j).1,k,by simpa using bM.ft ok A a⟩
 |.aW E,_,_,d,s=>by
  let⟨h,w,@n,rfl,t,A⟩:=d;cases s;exact⟨h,rfl⟩
 |.fd l,_,_,d,s=>by
  let⟨h,n,@M,rfl,t,A⟩:=d;cases s;exact⟨h,rfl⟩
theorem bM.ft(ok:ea Vz H b e):∀{E:List aa}{Vj:List au}{VH:List ae},bM b E Vj->bY Vj VH->dR e E VH
 |[],_,_,d,s=>by cases (show _=[] from d);cases s;rfl
 |v::E,_,_,d,s=>by
  let⟨u,@D,rfl,t,A⟩:=d;cases s with
  |cons a c=>exact⟨_,_,rfl,cC.ft ok t a,bM.ft ok A c⟩
end
def kT{P:List aa}(ok:ea Vz H b e)(d:g6 b P h):(eh Vz H).is e P h:=⟨d.1,d.2.ft ok rfl⟩
def nU{Vz:bE}{H:bg}{O:bq}(e:O.units+20<bW):(eh Vz H).room O.in1:=show O.units+1+10<bW by lia
def pk(ok:ea Vz H b e)(d:jw b h (.aw Vx)):Vx.length<=sizeLine/\(h==iX)=aA/\
  ∃w,e9 b Vx w/\e.DictOfH (eh Vz H) h w:=by
 let@⟨i,z,⟨@w,s,⟨n,S,@VU,t,A,g,j,k⟩⟩⟩:=(show eb Vz H b e h (.aw Vx) from Dj ok d);refine⟨i,z,w,s,n,S,VU,t,A,g,j,λf a=>?_,k⟩;have all:∀{I:List (List aa×au)}{l:List (List aa×aj×ae)},e9 b I l->∀f∈l,(eh Vz H).is e f.1 f.2.1:=by
  intro I l p;induction p with
  |nil=>intro f a;exact nomatch a
  |@cons m p Vw q c D o=>
   intro f a;rcases cm.mp a with d|a
   ·subst d;exact kT ok (by rw[<-c.1];exact c.2.1)
   ·exact o f a
 exact all s f a
def yR(ok:ea Vz H b e)(d:b h=Z (.aw Vx)):Vx.length<=sizeLine/\(h==iX)=aA/\
  ∃w,e9 b Vx w/\e.DictOfH (eh Vz H) h w:=pk ok (.inl d)
end
def gO(b:aD)(h:aj)(z:au)(s:Option au):Prop:=(
 (∃Vx q,jw b h (.dJ Vx)/\z=b6 q/\s=h3 Vx q)\/∃Vx q c,jw b h (.aw Vx)/\z=.ref c/\g6 b q c/\s=h3 Vx q)
def oc(b:aD)(h:aj)(z u:au)(T:aD):Prop:=(
 (∃Vx q,b h=Z (.dJ Vx)/\z=b6 q/\Vx.length<sizeLine/\T=upd b h (.dJ<|hD Vx q u))\/
 ∃Vx q c,b h=Z (.aw Vx)/\z=.ref c/\g6 b q c/\Vx.length<sizeLine/\T=upd b h (.aw<|hD Vx q u))
def gO.k{b:aD}{h:aj}{Vx:List (et×au)}{q:et}(d:b h=Z (.dJ Vx)):gO b h (b6 q) (h3 Vx q):=.inl ⟨Vx,q,.inl d,rfl,rfl⟩
def gO.t{b:aD}{h c:aj}{Vx:List (List aa×au)}{q:List aa}(d:b h=Z (.aw Vx))(a:g6 b q c):gO b h (.ref c) (h3 Vx q):=.inr ⟨Vx,q,c,.inl d,rfl,a,rfl⟩
def oc.k{b:aD}{h:aj}{Vx:List (et×au)}{q:et}{u:au}(d:b h=Z (.dJ Vx))(a:Vx.length<sizeLine):oc b h (b6 q) u (upd b h<|.dJ<|hD Vx q u):=.inl ⟨Vx,q,d,rfl,a,rfl⟩
def oc.t{b:aD}{h c:aj}{Vx:List (List aa×au)}{q:List aa}{u:au}(d:b h=Z (.aw Vx))(a:g6 b q c)(e:Vx.length<sizeLine):
  oc b h (.ref c) u (upd b h<|.aw<|hD Vx q u):=.inr ⟨Vx,q,c,d,rfl,a,e,rfl⟩
section
variable{a:aL}{G:List (aj×ba)}{B:a6}{b:aD}{j:ao}{h:aj}{z u:au}{J s:ae}{n:Option au}{O:bq}{Vo:ae->ao->Prop}
def aI.big(y:aI a G B b j):iX<j.heap.objs.size:=by
 have e:fw<j.heap.objs.size:=(y.mod.glob.keeps y.d0).lt;exact qg ∅ e
def Pn(s:O.units+20<bW)(y:aI a G B b j)(L:gO b h z (Z u))(r:ck z J)(e:∀f Vm,aI a G B b Vm->ck u f->C f Vm):
  wpAny (aO a.prog a.w) O (mP (.ref h) J) C Vo j:=by
 rcases L with ⟨Vx,q,d,g,I⟩|⟨Vx,q,c,d,g,t,I⟩
 ·subst g;let@⟨i,hd,⟨@Vj,k,l⟩⟩:=qX y.a5 d;let⟨@f,o,p⟩:=hF.some_of (u:=u) (n:=nI Vj q) (by rw[I];exact k.val q);exact wpAny_getItem_of (wk r) l.mapOf o (e f _ (y.tok _) p)
 ·subst g;cases (show J=ae.ref c from r);let@⟨i,hd,⟨@w,k,l⟩⟩:=pk y.a5 d;let⟨@f,o,p⟩:=hF.some_of (u:=u) (n:=(jD w q).map (·.2)) (by rw[I];exact k.val q);let⟨@m,v,x⟩:=b9.mp o;refine EZ (nU s) (kT y.a5 t) l v ?_;rw[x];exact e f _ (y.tok _) p
def wR(m:O.units+20<bW)(y:aI a G B b j)(L:gO b h z n)(l:ck z J)(e:∀Vm,aI a G B b Vm->C (.bool n.isSome) Vm):
  wpAny (aO a.prog a.w) O (e2 .In J<|.ref h) C Vo j:=by
 rcases L with ⟨Vx,q,d,f,I⟩|⟨Vx,q,c,d,f,o,I⟩
 ·subst f;let@⟨i,hd,⟨@Vj,g,k⟩⟩:=qX y.a5 d;refine wpAny_in_of (wk l) hd k.mapOf ?_;rw[<-(g.val q).sD,<-I];exact e _ (y.tok _)
 ·subst f;cases (show J=ae.ref c from l);let@⟨i,hd,⟨@w,g,k⟩⟩:=pk y.a5 d;refine wpAny_in_heap (nU m) (kT y.a5 o) hd k ?_;have p:=(g.val q).sD;rw[qH]at p;rw[<-p,<-I];exact e _ (y.tok _)
def AG(m:O.units+20<bW)(y:aI a G B b j)(L:gO b h z n)(l:ck z J)(e:∀Vm,aI a G B b Vm->C (.bool<|!n.isSome) Vm):
  wpAny (aO a.prog a.w) O (e2 .NotIn J<|.ref h) C Vo j:=by
 rcases L with ⟨Vx,q,d,f,I⟩|⟨Vx,q,c,d,f,o,I⟩
 ·subst f;let@⟨i,hd,⟨@Vj,g,k⟩⟩:=qX y.a5 d;refine wpAny_notIn_of (wk l) hd k.mapOf ?_;rw[<-(g.val q).sD,<-I];exact e _ (y.tok _)
 ·subst f;cases (show J=ae.ref c from l);let@⟨i,hd,⟨@w,g,k⟩⟩:=pk y.a5 d;refine wpAny_notIn_heap (nU m) (kT y.a5 o) hd k ?_;have p:=(g.val q).sD;rw[qH]at p;rw[<-p,<-I];exact e _ (y.tok _)
def vy{aQ:eV}(y:aI a G B b j)(e:ro (b h))(Vy:a4.SameBut h j.heap Vk)(g:∃p,Vk.get? h=Z p)(new:eb a.prog a.w (upd b h aQ) Vk h aQ):
  aI a G B (upd b h aQ) {j with heap:=Vk,toks:=V1}:=
 y.write (f:=h) (d:=h) e (.inl rfl) (λc p k i=>(Vy.2 c k).trans i) g new
def TV{Vx:List (et×au)}{Vj:List (et×ae)}(i:Vx.length<=sizeLine)(hd:(h==iX)=aA)(a:gf Vx Vj)(b:Vk.DictOf (mn Vz H) h Vj):
  eb Vz H T Vk h (.dJ Vx):=⟨i,hd,Vj,a,b⟩
def GQ{C:Unit->ao->Prop}(F:O.units+20<bW)(y:aI a G B b j)(L:oc b h z u T)(v:ck z J)(x:ck u s)(e:∀Vm,aI a G B T Vm->C () Vm):
  wpAny (aO a.prog a.w) O (p9 (.ref h) J s) C Vo j:=by
 rcases L with ⟨Vx,q,d,l,I,m⟩|⟨Vx,q,c,d,l,D,I,m⟩
 ·subst l m;let@⟨i,hd,⟨@Vj,f,n⟩⟩:=Ra y.a5 d;have r:Vj.length<=sizeLine:=by rw[<-f.length];exact i
  have t:(hD Vx q u).length<=sizeLine:=by have:=ES Vx q u;lia
  refine wpAny_setItem_pairs (hsz:=r) (wk v) n λVk g Vy=>e _ ?_;have N:∃p,Vk.get? h=Z p:=let ⟨p,_,_,k,_⟩:=g;⟨p,k⟩
  exact vy y (by rw[d];exact True.intro) Vy N (TV t hd (f.put q x) g)
 ·subst l m;cases (show J=ae.ref c from v);let@⟨i,hd,⟨@w,f,n⟩⟩:=yR y.a5 d;have r:w.length<=sizeLine:=by rw[<-dE.length f];exact i
  have t:(hD Vx q u).length<=sizeLine:=by have:=ES Vx q u;lia
  refine wpAny_setItem_heap (hsz:=r) (nU F) (kT y.a5 D) n λVk g Vy=>e _ ?_;let⟨p,S,@VU,k,A,P,Q,W,R⟩:=g;refine vy y (by rw[d];exact True.intro) Vy ⟨p,k⟩ ⟨t,hd,_,(f.put q D x).keeps λo VJ E=>?_,p,S,VU,k,A,P,Q,R⟩;rw[cz (zQ E d<|λi=>nomatch i)];exact E
end
section
variable{a:aL}{G:List (aj×ba)}{B:a6}{b:aD}{j:ao}{h:aj}{Vx:List (et×au)}{q:et}{J:ae}{O:bq}{Vo:ae->ao->Prop}
def T2(y:aI a G B b j)(d:jw b h (.dJ Vx))(e:∀D Vm,aI a G B b Vm->C (.int Vx.length D) Vm):wpAny (aO a.prog a.w) O (call (.builtin "len") [.ref h]) C Vo j:=by
 let@⟨i,hd,⟨@Vj,c,f⟩⟩:=qX y.a5 d;refine call_len_dict hd f (by rw[<-c.length];rw[rX]at i;lia) ?_;rw[<-c.length];exact e _ _ (y.tok _)
end
def Oy{a:aL}{h:aj}{z:au}(y:aI a G B b j)(L:gO b h z n):j.TypeIs (.ref h) "dict" := by
 rcases L with ⟨Vx,q,d,_,_⟩|⟨Vx,q,c,d,_,_,_⟩
 ·let@⟨_,_,⟨@Vj,_,e⟩⟩:=qX y.a5 d;exact e.typeIs
 ·let@⟨_,_,⟨@w,_,e⟩⟩:=pk y.a5 d;exact e.typeIs
def Hx(e:a4)(a:iX<e.objs.size):eb Vz H b (e.push {cls:=.type "dict",data:=.dict #[]}) e.objs.size (.aw []):=
 ⟨hl _,mi.mpr<|eZ<|c0 a,[],.nil,_,#[],0,dM _ rfl,⟨rfl,rfl,rfl⟩,rfl,rfl,hn⟩
def SV:b5:=(λ_ b C=>∀m,b m=X->C (.ref m) (upd b m<|.aw []))
section
variable{a:aL}{VC:Pos}
def Mf:bG a (.Dict [] [] VC) SV:=λG j B b C y e=>
 wpAny_Dict_empty ⟨.ref j.heap.objs.size,_,y.laid (h:=j.heap.objs.size) (n:=.aw []) (V1:=j.toks) (λ_ W p=>cG _ p) (bD _)<|Hx j.heap y.big,rfl,e _<|y.a5.fresh<|bD _⟩
end
end L2
namespace EV
open PySem.W PySem.Calls PyProof.Rows
variable{x:Nat}{I:OpenLaw}
def M0{Vz:t_}{e:a4}:∀(VT:List Int) (Vj:List ae),WellAll Vz e Vj (VT.map s7.int)->sb Vj VT:=by
 intro VT;induction VT with
 |nil=>
  intro Vj H;rw[Ck]at H;cases H;exact .nil
 |cons x VT a=>
  intro Vj H;rw[b4]at H;cases H with
  |cons h c=>
   cases h;exact .cons _ _ (a _ c)
def Qb(g:I.most=Z x){Vz:t_}{e:a4}{args:List s7}{c:List ae}(d:I.row.toRowW.claim.pre args=V)(i:WellAll Vz e c args):
  ∃h Vj VT,c=[ae.ref h]/\args=[s7.list (VT.map s7.int)]/\e.get? h=Z {cls:=.type "list",data:=.seq Vj.toArray}/\sb Vj VT/\VT.length<=x:=by
 have Eo:rl.hasAll [] args [.list .int]=V:=(pre_splitW d).1;have f:I.pre.holds [] {args:=args}=V:=(pre_splitW d).2;let⟨v,@s,rfl,t,A⟩:=hasAllW_cons Eo;obtain rfl:=hasAllW_nil A;let⟨@w,rfl,j⟩:=hasW_list t;let⟨@VT,rfl⟩:=items_int j;have k:VT.length<=x:=by
  unfold OpenLaw.pre at f;have a:(WTm.not<|.lt (.lit<|.int (x:Int))<|.len<|.arg 0).holds [] {args:=[.list (VT.map .int)]}=V:=by
   have a:=(holds_andW f).1;rw[g]at a;exact a
  have b:=condW_of a (w_not<|w_lt w_lit<|w_len_list<|w_arg rfl);rw[a8]at b;refine Nat.le_of_not_lt λp=>?_;have l:(x:Int)<((VT.length:Nat):Int):=⋯
  first
   | (rw[di l]at b;exact absurd b ∅)
   | (simp at b;lia)
 cases i with
 |cons cp cv=>
  cases cv;cases cp with
  |list m n=>exact⟨_,_,VT,rfl,rfl,m,M0 VT _ n,k⟩
def Q9(I:OpenLaw)(args:List s7):I.row.toRowW.claim.post args (.bool V) args=V:=
 postW_of (r:=I.row.toRowW) (X:=(V==V))
  (show rl.has [] (.bool V) .bool=V by first|rfl|decide|simp[rl.has,rl.arms,rl.armsAll])
  (show (WTm.eq .res<|.lit<|.bool V).value [] {args:=args,res:=Z (.bool V),after:=args}=Z (.bool<|V==V) from w_eq_bool (w_res rfl) w_lit) rfl
def OM{p:bE}{e:List az}{f:(az->Option ae)->a4->Prop}{g:bg->a4->Prop}{v:DefRec}(j:I.most=Z x)(k:v.params.defaults=[])(call:∀(H:bg) (e7 a:ao) (aU d:az->Option ae) (b:aj) (n:ba) (VN c U:ae) (h:aj) (Vj:List ae) (VT:List Int),
   Ground p e [] f H e7 aU d a.heap->g H a.heap->
   a.heap.get? b=Z n->n.data=.func (docDef v.name v.params v.body v.scope VN c U)->a.heap.CodeRec c v.name->aU v.name=Z (.ref b)->
   a.heap.get? h=Z {cls:=.type "list",data:=.seq Vj.toArray}->sb Vj VT->VT.length<=x->a.gens=#[]->
   codeAny (aO I.prog H) oO (.call (.ref b) ⟨[.ref h],[]⟩) (λs Vm=>s=.ok (.ret<|.bool V)/\OldK a.heap Vm.heap/\Vm.os=a.os/\l5 Vm.gens) a):
  WalkO p e f g I.row.toRowW v [] (λF Vj=>PySem.call F Vj):=by
 intro H e7 a aU d Q l b n VN c U m b6 o hd q i r t args J L u M N w O;obtain rfl:m=.none:=Dflts.none i k;obtain rfl:b6=.none:=Dflts.noKw i;let⟨h,Vj,@VT,rfl,rfl,y,z,B⟩:=Qb j u w;refine enter_call (p6 (call H e7 a aU d b n VN c U h Vj VT Q l o (fd_plain hd) q r y z B t) λs Vm C=>?_);let@⟨rfl,A,D,E⟩:=C;exact⟨.inl ⟨.bool V,.bool V,[],rfl,λ_=>rfl,.bool V,Q9 I _,λ_=>⟨List.Pairwise.nil,λ_ G=>(nomatch G)⟩⟩,A,D,E⟩
end EV
namespace L2
open Spec PyProof.Rows
variable{Vw:List az}{F c:aj}{Ww f:az}{Wz:j0}{fd:gM}{q:Nat}{J:eV}{e:a4}{b:aD}{H:bg}{Vz:bE}{n:ba}
theorem GF:∀{Vj:List ae}{VT:List Int},sb Vj VT->bY (VT.map au.int) Vj
 |_,_,.nil=>.nil
 |_,_,.cons x D e=>.cons ⟨D,rfl⟩ (GF e)
def sX(b:aD):Prop:=(∀c,b c=X\/(∃n w,b c=Z (.cV n<|.lst w))\/∃w,b c=Z (.tup w))
def Tn{w:List au}(o:sI n=Z w):∃g D r J x,(n.cls,n.dict)=(.type "tuple",X)/\n.data=.seq [.int g D,.int r J].toArray x/\w=[.int g,.int r]:=by
 unfold sI at o;split at o
 ·rename_i VA x t A a;unfold BJ at o;split at o
  ·rename_i g D r J d;cases o;exact⟨g,D,r,J,x,dQ t A,a.trans (by rw[<-d,Array.toArray_toList]),rfl⟩
  ·cases o
 ·cases o
def Dg(d:e.get? c=Z n)(o:ky n=Z J):∃w,J=.tup w/\eb Vz H b e c J:=by
 unfold ky at o;cases v:sI n with
 |none=>rw[v]at o;cases o
 |some w=>
  rw[v]at o;cases o;let⟨g,D,r,u,x,t,A,rfl⟩:=Tn v;exact⟨_,rfl,dc (show 2<=2 from bD 2) ∅,[.int g D,.int r u],.cons ⟨D,rfl⟩<|.cons ⟨u,rfl⟩ .nil,n,d,t,x,A⟩
def il(e:a4)(b:aD):aD:=(λc=>match b c with
 |some J=>Z J
 |none=>match e.get? c with
  |some n=>ky n
  |none=>X)
def QA(x:b c=X)(d:e.get? c=Z n):il e b c=ky n:=by
 unfold il;rw[x];dsimp only;rw[d]
def Rt(x:b c=Z J):il e b c=Z J:=by
 unfold il;rw[x]
def Hi(x:il e b c=Z J):b c=Z J\/∃n,e.get? c=Z n/\ky n=Z J:=by
 unfold il at x;cases p:b c with
 |some u=>rw[p]at x;cases x;exact .inl rfl
 |none=>
  rw[p]at x;dsimp only at x;cases d:e.get? c with
  |none=>rw[d]at x;cases x
  |some n=>rw[d]at x;exact .inr ⟨n,rfl,x⟩
def Qa{R:Φ}{aU z:az->Option ae}{k:jL}{B h:aj}{a:ao}{Vj:List ae}{VT:List Int}(E:R.In a.heap)(F:a.heap.Ns fw aU)(g:a.heap.Ns v_ z)(al:∀f:az,f ≠ "__name__" -> z f=iA f)(am:a.heap.NoLimit)(an:a.gens=#[])(r:a.heap.get? h=Z {cls:=.type "list",data:=.seq Vj.toArray})(Vl:sb Vj VT)(G:VT.length<=sizeLine)(ap:dt q oO)(N:∀VB:a4,R.In VB->VB.Ns fw aU->fT Vz H R aU VB k q B fd [f] Wz)(as:∀(j:ao) (J:ae),mj j fd ⟨[J],[]⟩ [(f,J)])(a1:∀b:aD,sX b->dw R b h (VT.map au.int)->Wz [.ref h] b (λu K=>u=.av V) λ_ K K=>False)(a2:∀b d Vm,k [] b a (λ_ K K=>False) d Vm->False):
  codeAny (aO Vz H) oO (.call (.ref B) ⟨[.ref h],[]⟩) (λs Vm=>s=.ok (.ret<|.bool V)/\OldK a.heap Vm.heap/\Vm.os=a.os/\l5 Vm.gens) a:=by
 have I:=GF Vl;have bd:=Vl.length;have L:∀cU:aD,sX cU->dw R (il a.heap cU) h (VT.map au.int)->(∀b c J,cU c=Z J->eb Vz H b a.heap c J)->(∀c,cU c≠X->c=h)->(cU h≠X->R.lookup h=X)->
   codeAny (aO Vz H) oO (.call (.ref B) ⟨[.ref h],[]⟩) (λs Vm=>s=.ok (.ret<|.bool V)/\OldK a.heap Vm.heap/\Vm.os=a.os/\l5 Vm.gens) a:=by
  intro cU be bi bm M bn;have O:∀{c:aj}{n:ba},a.heap.get? c=Z n->cU c=X->(mg a.heap cU).get? c=Z n:=λd x=>JM d x;have a5:ea Vz H (il a.heap cU) a.heap:=λc J p=>by
   rcases Hi p with p|⟨n,d,o⟩
   ·exact bm _ c J p
   ·exact (Dg d o).choose_spec.2
  have P:sX (il a.heap cU):=λc=>by
   cases p:il a.heap cU c with
   |none=>exact .inl rfl
   |some J=>
    rcases Hi p with p|⟨n,d,o⟩
    ·rcases be c with i|i
     ·rw[i]at p;cases p
     ·rw[<-p];exact .inr i
    ·let⟨w,rfl,K⟩:=Dg (Vz:=Vz) (H:=H) (b:=cU) d o;exact .inr (.inr ⟨w,rfl⟩)
  have noA:∀{c:aj}{n:ba}{S:Array qV}{VU:Nat},a.heap.get? c=Z n->n.data=.dict S VU->cU c=X:=λ{c n S VU} d v=>by
   cases p:cU c with
   |none=>rfl
   |some J=>
    have C:c=h:=M c (by rw[p];simp);subst C;rw[r]at d;cases d;have bs:Data.seq Vj.toArray _=Data.dict S VU:=v;cases bs
  have y:∀{c:aj}{l:az->Option ae},a.heap.Ns c l->(mg a.heap cU).Ns c l:=λ{c l} ⟨n,S,VU,d,v,s⟩=>⟨n,S,VU,O d<|noA d v,v,s⟩;have Q:R.In (mg a.heap cU):=λc n d=>O (E c n d) (by
   cases p:cU c with
   |none=>rfl
   |some J=>
    have C:c=h:=M c (by rw[p];simp);subst C;rw[bn (by rw[p];simp)]at d;cases d)
  have bv:Mod R aU (mg a.heap cU):=⟨Q,y F,⟨z,y g,al⟩,let ⟨ca,t,A⟩:=am;⟨ca,y t,A⟩⟩;have cd:nW Vz H R aU (mg a.heap cU) oO [] a (il a.heap cU):=⟨rfl,bv,λc n d=>⟨(zl d).1,QA (zl d).2 (zl d).1⟩,GO<|JQ _ _,trivial,λc g=>absurd (show c∈([]:List aj) from g) ↥0,a5,.of_eq an⟩;refine p6 ((N _ Q<|y F).run oO [] a (il a.heap cU) ⟨[.ref h],[]⟩ [.ref h] [.ref h] _ _ ap cd (as a<|.ref h) (.cons rfl .nil)<|a1 (il a.heap cU) P bi) λs Vm e=>?_;cases s with
  |error d=>exact (a2 (il a.heap cU) d Vm e).elim
  |ok aW=>
   cases aW with
   |next=>exact False.elim e
   |brk=>exact False.elim e
   |cont=>exact False.elim e
   |ret J=>
    let⟨u,T,VI,ce,un,ch,Wh,p⟩:=e;have ci:u=.av V:=p;subst ci;obtain rfl:J=ae.bool V:=Wh;refine⟨rfl,OldK.of_keep λc n d=>?_,VI,ce⟩;rcases P c with p|⟨aQ,w,i⟩|⟨w,i⟩
    ·exact un.keep c n d p (by intro i;exact absurd (show c∈([]:List aj) from i) ↥0) ↥0
    ·have cl:=un.iT c aQ _ i;let⟨U,K⟩:=a5 c _ i;let⟨co,K⟩:=ch c _ cl;rw[d]at U;cases U;exact co
    ·exact un.jd c n w d i ↥0
 cases D:R.lookup h with
 |some n=>
  have d:=E h n D;rw[r]at d;cases d;refine L (λ_=>X) (λ_=>.inl rfl) (.inr ⟨_,Vj.toArray,_,D,rfl,rfl,rfl,by rw[cN,bd];exact G,by simpa using I⟩) (λb c J i=>by have m:(X:Option eV)=Z J:=i;cases m) (λc i=>absurd rfl i) λi=>absurd rfl i
 |none=>
  refine L (λc=>if c=h then Z (.cV {cls:=.type "list",data:=.seq Vj.toArray} (.lst<|VT.map au.int)) else X) (λc=>?_) (.inl<|.inr ⟨{cls:=.type "list",data:=.seq Vj.toArray},Rt<|aF rfl⟩) (λb c J i=>?_) (λc i=>?_) λ_=>D
  ·by_cases g:c=h
   ·exact .inr (.inl ⟨_,_,aF g⟩)
   ·exact .inl (aJ g)
  ·by_cases g:c=h
   ·have m:=(aF g).symm.trans i;cases m;subst g;exact⟨r,by rw[a8];exact G,Vj,_,I,r⟩
   ·have m:=(aJ g).symm.trans i;cases m
  ·by_cases g:c=h
   ·exact g
   ·exact absurd (aJ g) i
def JY{I:PySem.W.OpenLaw}{x:Nat}{p:bE}{o:List az}{r:(az->Option ae)->a4->Prop}{i:bg->a4->Prop}{v:DefRec}{R:t_->Φ}{k:bg->jL}{Wz:bg->j0}(s:I.most=Z x)(t:x<=sizeLine)(w:v.params.defaults=[])(y:dt q oO)(z:∀(H:bg) (e:a4),i H e->(R H.params).In e)(N:∀(H:bg) (aU:az->Option ae) (a:aj) (e:a4),(R H.params).In e->e.Ns fw aU->aU v.name=Z (.ref a)->
   ∃fd:gM,(∀(j:ao) (J:ae),mj j fd ⟨[J],[]⟩ [(f,J)])/\
    ∀VB:a4,(R H.params).In VB->VB.Ns fw aU->fT I.prog H (R H.params) aU VB (k H) q a fd [f] (Wz H))(A:∀(H:bg) (b:aD) (h:aj) (VT:List Int),VT.length<=x->sX b->dw (R H.params) b h (VT.map au.int)->Wz H [.ref h] b (λu L=>u=.av V) λ_ L L=>False)(B:∀(H:bg) (b:aD) (j:ao) (d:ae) (Vm:ao),k H [] b j (λ_ L L=>False) d Vm->False):
  PySem.W.WalkO p o r i I.row.toRowW v [] (λF Vj=>PySem.call F Vj):=by
 refine EV.OM s w λH e7 C aU an a n VN ap U h Vj VT Q D as hd a1 E G M l O=>?_;have m:=z H _ D;let⟨@fd,P,S⟩:=N H aU a _ m Q.T.g E;exact Qa m Q.T.g Q.T.b Q.T.builtins Q.T.nolimit O G M (dc l t) y S P (λb al am=>A H b h VT l al am) λb d Vm=>B H b C d Vm
def f5(j:cf):Arguments:=(match j with
 |.FunctionDef _ h _ _ _ _ _ _ _ _=>h
 |_=>{posonlyargs:=[],args:=[],vararg:=X,kwonlyargs:=[],kw_defaults:=[],kwarg:=X,defaults:=[]})
def eQ(j:cf):List cf:=(match j with
 |.FunctionDef _ _ c _ _ _ _ _ _ _=>c
 |_=>[])
def dq(j:cf):gY:=(match j with
 |.FunctionDef _ _ _ _ _ _ M _ _ _=>M
 |_=>{kind:=.function,names:=[],isGenerator:=aA,isCoroutine:=aA})
abbrev gr:jL:=λ_ _ _ _ _ _=>False
abbrev L1:fv:=λ_ _ _=>False
def qK{a:aL}:ny gr a L1:=λ_ W W W W W W e=>e.elim
structure f7(R:Φ)(f Ww:az)(Y:cf)(F:aj)(fd:gM):Prop where
 ex:∃(WU:ae) (WI:Option aj) (b6 U VN:ae) (Ws:Option aj) (Wc b3:ae) (WX:Array (Option ae)),
  fd=Ψ f Ww (f5 Y) (eQ Y) (dq Y) .none b6 U VN Ws Wc b3/\R.lookup F=Z ⟨WU,WI,.func fd,WX⟩/\Ω R Wc Ww=V
 cI:Θ R (.ref F)=V
section
variable{Vz:bE}{H:bg}{R:Φ}{aU:az->Option ae}{VB:a4}
def f7.ok{Y:cf}{VS:List az}(N:f7 R f Ww Y F fd)(VD:kb VS Vw (dq Y))(len:∀Vj b C Vo,Wz Vj b C Vo->Vj.length=Vw.length)(a:∀(Wc:ae) (O:bq) (Wq:List d5) (j:ao) (b:aD) (Vj:List au) (C:cW) (Vo:fv),dt q (O.deeper<|h7 Ww (dq Y) j.heap.objs.size F Wc)->Wz Vj b C Vo->
   ∃D,h6 (ju gr Vz H R aU VB VS Ww (dq Y) F Wc O Wq j b Vo).ke (eQ Y) D/\D {aX:=λ_ T=>C .a3 T,ej:=C} (start VS Vj) b):fT Vz H R aU VB gr (q+1) F fd Vw Wz:=by
 let⟨WU,WI,b6,U,VN,Ws,Wc,b3,@WX,rfl,lk,c⟩:=N.ex;refine NK lk c VD len λO Wq j b Vj C Vo d g=>?_;let⟨@D,e,p⟩:=a Wc O Wq j b Vj C Vo d g;exact⟨D,e.ke,p⟩
def f7.binds{Y:cf}(N:f7 R f Ww Y F fd)(e:∀(b6 U VN:ae) (Ws:Option aj) (Wc b3:ae) (VH:List ae),VH.length=Vw.length->iL (Ψ f Ww (f5 Y) (eQ Y) (dq Y) .none b6 U VN Ws Wc b3) ⟨VH,[]⟩=pure (Vw.zip VH)):f6 R fd Vw []:=by
 let⟨WU,WI,b6,U,VN,Ws,Wc,b3,@WX,rfl,lk,a⟩:=N.ex;exact .all (e b6 U VN Ws Wc b3)
def HN{Y:cf}{WU:ae}{WI Ws:Option aj}{WX:Array (Option ae)}{b6 U VN Wc b3:ae}(I:R.lookup F=Z ⟨WU,WI,.func<|Ψ f Ww (f5 Y) (eQ Y) (dq Y) .none b6 U VN Ws Wc b3,WX⟩)(o:Ω R Wc Ww=V)(q:Θ R (.ref F)=V):f7 R f Ww Y F (Ψ f Ww (f5 Y) (eQ Y) (dq Y) .none b6 U VN Ws Wc b3):=⟨⟨WU,WI,b6,U,VN,Ws,Wc,b3,WX,rfl,I,o⟩,q⟩
end
section
variable{a:aL}
def e_(g:Nat){f:az}{VC:Pos}(b:a.N[g]?=Z f:=by rfl)(c:tu a.env.scope f:=by first|exact Or.inl rfl|exact Or.inr (Or.inl rfl)|exact Or.inr (Or.inr rfl))(hd:(f==("__debug__" : az))=aA:=by decide)(d:(f==("__classdict__" : az))=aA:=by decide):bG a (.Name f VC) (fA g):=FQ b c hd d
end
def cY(b T:aD):Prop:=(∀c n,b c=Z n->T c=Z n)
def cY.refl(b:aD):cY b b:=λ_ W e=>e
end L2
namespace L2
section
variable{a:aL}
def R4:eD a (.builtin "len") (λw b C=>∃h Vx,w=[au.ref h]/\b h=Z (.dJ Vx)/\C (.int Vx.length) b):=by
 intro G j B b w VH C y s e;let⟨h,@Vx,rfl,c,p⟩:=e;let⟨@J,rfl,d⟩:=h2 s;cases d;exact T2 y (.inl c) λD Vm f=>⟨.int Vx.length,b,f,⟨D,rfl⟩,p⟩
end
end L2
namespace L2
open Spec PyProof.Rows
variable{Vw V3:List Nat}{VM:Type}{W4 Wu WB x g VU W0:Nat}{n VW:ba}{VP aZ:Array ae}{I Wt VD y Vr v ab:aj}{Wr:Bool}{Vz:List aa->aj->Prop}{f WK:ae}{D:aS}{S:Array (Int×ae)}{C:Option ae->ao->Prop}{Vk e t:a4}{P:List ae}{WS:jo}{VR Wo WL:bl}{U:List (az×aj)}{cg:List aj}{b:aD}{B:a6}{G:List (aj×ba)}{own:List az}{Vn:d5}{VC:Pos}{VK:gY}{WD:List bl}{j:ao}{Vp:qf->ao->Prop}{O:bq}{H:bg}
def JJ{Vs:bE}{b:bl}{Vr d:ae}(y:Nat->ao->Prop)(n:∀x j,y x j->wpAny (aO Vs H) O (gm Vr) (λs a=>match s with
   |none=>Vp (.ok .next) a
   |some u=>wpAny (aO Vs H) O (u9 b Vr u) (λ_ a=>wpAny (aO Vs H) O (i2 b Vn u) (λ_ h=>
     wpAny (aO Vs H) O (forIn WD V λo s=>if s=V then do let ok <-o9 o Vn (bJ o Vn);pure (ForInStep.yield ok) else pure (ForInStep.yield s)) (λok g=>
      if ok=V then wpAny (aO Vs H) O (bJ WL Vn) (λf i=>
       wpAny (aO Vs H) O (call (.builtin "list.append") [d,f]) (λ_ k=>∃l,l<x/\y l k) (λ_ W=>False) i) (λ_ W=>False) g
      else ∃l,l<x/\y l g) (λ_ W=>False) h) (λ_ W=>False) a) (λ_ W=>False) a) (λ_ W=>False) j)(x:Nat)(e:y x j):
  codeAny (aO Vs H) O (.compLoop (.ListComp WL [⟨b,Wo,WD,0⟩] VK VC) 0 Vr d Vn) Vp j:=by
 refine codeAny_loop rfl y (λx j fe=>?_) x e;show wpAny _ O ((compTurn (.ListComp WL [⟨b,Wo,WD,0⟩] VK VC) 0 Vr d Vn).onRaise (λf=>do noteFrame f Vn;theTreesLotGoes f)) _ _ j;refine wpAny_noted ?_;rw[compTurn_list];refine aB (tq<|aB<|hk (n x j fe) (λs a c=>?_) λ_ W Vk=>Vk.elim);cases s with
 |none=>exact aR c
 |some u=>
  refine aB (hk c (λ_ a c=>?_) λ_ W Vk=>Vk.elim);refine aB (hk c (λ_ h p=>aB<|hk p (λok g m=>?_) λ_ W Vk=>Vk.elim) λ_ W Vk=>Vk.elim);cases ok with
  |false=>exact aR ⟨rfl,m⟩
  |true=>
   exact aB (aB<|hk m (λf i q=>aB<|hk q (λ_ k r=>aR<|aR ⟨rfl,r⟩) λ_ W Vk=>Vk.elim) λ_ W Vk=>Vk.elim)
def lb(Vn:d5)(V5:List (az×c8)):List (az×aj):=(V5.foldl (λU z=>if z.2==.free then (z.1,(Vn.cells.lookup z.1).getD 0)::U else U) [])
theorem yH{Vn:d5}:∀(V5:List (az×c8)) (U:List (az×aj)),(∀z∈V5,z.2=.free->∃o,Vn.cells.lookup z.1=Z o)->
  (forIn V5 U λ(z:az×c8) U=>if z.2==.free then (do let o <-u2 Vn z.1;pure (ForInStep.yield ((z.1,o)::U))) else pure (ForInStep.yield U):dD _)=
   pure (V5.foldl (λU z=>if z.2==.free then (z.1,(Vn.cells.lookup z.1).getD 0)::U else U) U)
 |[],U,_=>rfl
 |z::s,U,e=>by
  rw[Ey,jT];by_cases a:z.2=.free
  ·let⟨@o,c⟩:=e z jE a;have d:(z.2==c8.free)=V:=by simp[a]
   rw[aF d,aF d];have f:u2 Vn z.1=pure o:=by unfold u2;rw[c]
   rw[f,c];show (forIn s ((z.1,o)::U) _:dD _)=_;exact yH s _ λi b=>e i (iw _ b)
  ·have d:¬ (z.2==c8.free)=V:=by simp[a]
   rw[aJ d,aJ d];show (forIn s U _:dD _)=_;exact yH s _ λi b=>e i (iw _ b)
def NJ(e:∀z∈VK.names,z.2=.free->∃o,Vn.cells.lookup z.1=Z o):closureFor VK Vn=pure (lb Vn VK.names):=by
 have:=yH (Vn:=Vn) VK.names [] e;unfold closureFor;dsimp only;have d:(forIn VK.names ([]:List (az×aj))<|λ(f:az×c8) (s:List (az×aj))=>(if f.2==.free then (do let o <-u2 Vn f.1;pure (ForInStep.yield ((f.1,o)::s))) else pure (ForInStep.yield s):dD (ForInStep<|List<|az×aj)))=pure (lb Vn VK.names):=this;rw[d];rfl
theorem Cf{Vn:d5}:∀(V5:List (az×c8)) (U:List (az×aj)) (f:az) (o:aj),
  (V5.foldl (λU z=>if z.2==.free then (z.1,(Vn.cells.lookup z.1).getD 0)::U else U) U).lookup f=Z o->
  (o=(Vn.cells.lookup f).getD 0/\(f,c8.free)∈V5)\/U.lookup f=Z o
 |[],U,f,o,e=>.inr e
 |z::s,U,f,o,e=>by
  rw[jT]at e;rcases Cf s _ f o e with ⟨d,l⟩|e
  ·exact .inl ⟨d,iw _ l⟩
  ·by_cases a:z.2=.free
   ·rw[aF (by simp[a])]at e;rw[g0]at e;by_cases b:f=z.1
    ·subst b;rw[hW]at e;refine .inl ⟨(Option.some.inj e).symm,?_⟩;rw[<-a];exact jE
    ·have:(f==z.1)=aA:=by simpa using b
     rw[this]at e;exact .inr e
   ·rw[aJ (by simp[a])]at e;exact .inr e
theorem wD{Vn:d5}:∀(V5:List (az×c8)) (U:List (az×aj)) (f:az),(f,c8.free)∈V5\/(∃o,U.lookup f=Z o)->
  ∃o,(V5.foldl (λU z=>if z.2==.free then (z.1,(Vn.cells.lookup z.1).getD 0)::U else U) U).lookup f=Z o
 |[],U,f,e=>by
  rcases e with e|e
  ·cases e
  ·exact e
 |z::s,U,f,e=>by
  rw[jT];apply wD s _ f;rcases e with e|⟨o,e⟩
  ·rcases cm.mp e with d|e
   ·right;subst d;rw[aF (by rfl),g0,hW];exact⟨_,rfl⟩
   ·exact .inl e
  ·right;by_cases a:(z.2==c8.free)=V
   ·rw[aF a,g0];cases f==z.1
    ·exact⟨o,e⟩
    ·exact⟨_,rfl⟩
   ·rw[aJ a];exact⟨o,e⟩
structure j8 where
 ab:aj
 s:ao
 H:aD
 cg:List aj
 cs:List (az×aj)
variable{WA:j8->b5}{W2:j8->eo}{L:j8->gQ}
def aL.d4(a:aL)(d:List az)(VK:gY)(c:j8): aL :=(
  {prog:=a.prog,w:=a.w,K:=a.K,aU:=a.aU,base:=a.base,A:=a.A,N:=d,e7:=c.s,ng:=c.H,env:=uR VK (c.cs ++ lb a.env VK.names) c.ab a.env,outer:=a.stack,stack:=a.stack,
    ex:=c.cg,fn:=λf => VK.names.lookup f==Z .cell,calm:=a.calm,k9:=[],cR:=λ_ W => False})
structure uQ(W0:Nat)(V5:List (az×c8))(U:List (az×aj))(e:a4):Prop where
 i9:∀f o,U.lookup f=Z o->W0<=o/\e.IsCell o X/\(f,c8.cell)∈V5
 inj:∀f z o,U.lookup f=Z o->U.lookup z=Z o->f=z
def Mk{ay:gc}{Vo:ae->ao->Prop}{r:aj}{cl:List (az×aj)}{Ww:az}{C:d5->ao->Prop}(e:∀Vk U,(∀c n,j.heap.get? c=Z n->Vk.get? c=Z n)->Vk.Ns j.heap.objs.size (λ_=>X)->uQ (j.heap.objs.size+1) VK.names U Vk->(∀f,(f,c8.cell)∈VK.names->∃o,U.lookup f=Z o)->
   C (newEnv VK j.heap.objs.size r (U++cl) Ww X .none (Z Vn) v_) {j with heap:=Vk}):
  wpAny ay O (CM VK r cl [] Ww X .none<|Z Vn) C Vo j:=by
 unfold CM;refine aB (yu ?_);have W0:(j.heap.push {cls:=.type (if (Z Vn).isSome=V then "dict" else "frame"),data:=.dict #[]}).Ns j.heap.objs.size λ_=>X:=⟨_,#[],_,dM _ rfl,rfl,by intro g Vl;simp at Vl,λ_=>rfl⟩;refine aB (mH _ (λc1 cells Vm=>∃done U Vk,done++c1=VK.names/\cells=U++cl/\Vm={j with heap:=Vk}/\j.heap.objs.size+1<=Vk.objs.size/\(∀c n,j.heap.get? c=Z n->Vk.get? c=Z n)/\Vk.Ns j.heap.objs.size (λ_=>X)/\uQ (j.heap.objs.size+1) VK.names U Vk/\∀f,(f,c8.cell)∈done->∃o,U.lookup f=Z o) _ ?_ ?_ _ _ ⟨[],[],_,rfl,rfl,rfl,by rw[jz];exact bD _,λc n d=>cG _ d,W0,⟨(λf o d=>by simp at d),(λf z o d=>by simp at d)⟩,(λf a=>nomatch a)⟩)
 ·rintro⟨E,cM⟩ c1 cells Vm ⟨done,U,Vk,l,rfl,rfl,g9,ext,VT,b,Vy⟩;by_cases p:cM=.cell
  ·subst p;show wpAny ay O (alloc {cls:=.type "cell",data:=.cell X} >>= λh=>pure<|ForInStep.yield ((E,h)::(U++cl))) _ _ _;refine aB (yu<|aR ?_);have s:∀c n,Vk.get? c=Z n->(Vk.push {cls:=.type "cell",data:=.cell X}).get? c=Z n:=λc n d=>cG _ d;have t:∀o,(∃u,Vk.IsCell o u)->o≠Vk.objs.size:=λo ⟨u,n,d,_⟩=>c0 (cA d);refine⟨done++[(E,.cell)],(E,Vk.objs.size)::U,_,by rw[bk];exact l,rfl,rfl,by rw[jz];exact Gu g9,λc n d=>s c n<|ext c n d,VT.push _,⟨λf o d=>?_,λf z o Wg k=>?_⟩,λf a=>?_⟩
   ·rw[g0]at d;by_cases a:f=E
    ·subst a;rw[hW]at d;cases d;exact⟨g9,⟨_,dM _ rfl,rfl⟩,by rw[<-l];exact dy _ (.head _)⟩
    ·rw[show (f==E)=aA by simpa using a]at d;let⟨v,⟨n,w,x⟩,y⟩:=b.i9 f o d;exact⟨v,⟨n,s o n w,x⟩,y⟩
   ·rw[g0]at Wg k;by_cases a:f=E
    ·by_cases m:z=E
     ·rw[a,m]
     ·rw[a,hW]at Wg;rw[show (z==E)=aA by simpa using m]at k;cases Wg;exact absurd rfl (t _ ⟨_,(b.i9 z _ k).2.1⟩)
    ·rw[show (f==E)=aA by simpa using a]at Wg;by_cases m:z=E
     ·rw[m,hW]at k;cases k;exact absurd rfl (t _ ⟨_,(b.i9 f _ Wg).2.1⟩)
     ·rw[show (z==E)=aA by simpa using m]at k;exact b.inj f z o Wg k
   ·rw[g0];by_cases q:f=E
    ·rw[q,hW];exact⟨_,rfl⟩
    ·rw[show (f==E)=aA by simpa using q];refine Vy f ((du.mp a).resolve_right λi=>?_);exact q (Prod.mk.inj<|cb.mp i).1
  ·have d:(cM==c8.cell)=aA:=by simpa using p
   show wpAny ay O (if (cM==c8.cell)=V then _ else pure (ForInStep.yield<|U++cl)) _ _ _;rw[aJ (by rw[d];exact da)];refine aR ⟨done++[(E,cM)],U,Vk,by rw[bk];exact l,rfl,rfl,g9,ext,VT,b,λf a=>Vy f<|(du.mp a).resolve_right λi=>?_⟩;exact p (Prod.mk.inj<|cb.mp i).2.symm
 ·rintro cells Vm ⟨done,U,Vk,l,rfl,rfl,g9,ext,VT,b,Vy⟩;rw[bQ]at l;subst l;exact aB (aR<|aR<|e Vk U ext VT b Vy)
theorem mem_of_lookup:∀{I:List (az×c8)}{f:az}{q:c8},I.lookup f=Z q->(f,q)∈I
 |[],_,_,e=>by simp at e
 | (x,b)::s,f,q,e=>by
  rw[g0]at e;by_cases a:f=x
  ·subst a;rw[hW]at e;cases e;exact jE
  ·rw[show (f==x)=aA by simpa using a]at e;exact iw _ (mem_of_lookup e)
theorem xC{Vn:d5}:∀{V5:List (az×c8)}{f:az}{q:c8},
  (V5.map λ(x,q)=>if (q==c8.free&&Vn.scope.kind==.function&&Vn.kindOf x==Z .cell) then (x,c8.cell) else (x,q)).lookup f=Z q->
  (q=.cell\/q=.free)->(f,c8.free)∈V5\/V5.lookup f=Z .cell
 |[],f,q,e,_=>by simp at e
 | (x,c)::s,f,q,e,a=>by
  rw[b4]at e;dsimp only at e;by_cases h:f=x
  ·subst h;by_cases b:(c==c8.free&&Vn.scope.kind==.function&&Vn.kindOf f==Z .cell)=V
   ·have:c=c8.free:=by
     simp only[cT]at b;exact by simpa using b.1.1
    subst this;exact .inl jE
   ·simp only[b]at e;have d:c=q:=by simpa [g0] using e
    subst d;rcases a with a|a
    ·exact .inr (by rw[g0,hW,a])
    ·rw[a];exact .inl jE
  ·have g:(f==x)=aA:=by simpa using h
   have Vk:(s.map λ(x,q)=>if (q==c8.free&&Vn.scope.kind==.function&&Vn.kindOf x==Z .cell) then (x,c8.cell) else (x,q)).lookup f=Z q:=by
    by_cases b:(c==c8.free&&Vn.scope.kind==.function&&Vn.kindOf x==Z .cell)=V
    ·rw[aF b,g0,g]at e;exact e
    ·rw[aJ b,g0,g]at e;exact e
   rcases xC Vk a with i|i
   ·exact .inl (iw _ i)
   ·exact .inr (by rw[g0,g];exact i)
section
variable{a:aL}
structure iy(a:aL)(VK:gY)(own:List az)(V3:List Nat):Prop where
 kind:VK.kind=.function
 JF:∀z∈VK.names,z.2=.cell->VK.names.lookup z.1=Z .cell
 free:∀z∈VK.names,z.2=.free->a.env.scope.names.lookup z.1=Z .cell
 loc:∀z∈VK.names,z.2=.local->VK.names.lookup z.1=Z .local
 KY:∀g∈V3,∃f,a.N[g]?=Z f/\(f,c8.free)∈VK.names/\VK.names.lookup f=Z .free
def ff(a:aL)(own:List az)(V3:List Nat):List az:=(own++V3.map λg=>a.N.getD g "")
def jX(own:List az)(V3:List Nat)(B:a6):a6:=(own.map (λ_=>X)++V3.map λg=>B.getD g X)
def iy.cells(VD:iy a VK own V3)(ok:a.Ok):∀z∈VK.names,z.2=.free->∃o,a.env.cells.lookup z.1=Z o:=
 λz b c=>ok.has z.1 (.inl<|VD.free z b c)
def iy.sub(VD:iy a VK own V3)(ok:a.Ok){f:az}{o:aj}(e:(lb a.env VK.names).lookup f=Z o):a.env.cells.lookup f=Z o/\(f,c8.free)∈VK.names:=by
 rcases Cf VK.names [] f o e with ⟨d,l⟩|e
 ·let⟨@V9,b⟩:=VD.cells ok (f,.free) l rfl;rw[show (List.lookup f a.env.cells)=Z V9 from b]at d;refine⟨?_,l⟩;rw[d];exact b
 ·simp at e
def iy.two(VD:iy a VK own V3)(ok:a.Ok){U:List (az×aj)}{f:az}{o:aj}(e:(U++lb a.env VK.names).lookup f=Z o):U.lookup f=Z o\/(U.lookup f=X/\a.env.cells.lookup f=Z o):=by
 rw[xm]at e;cases p:U.lookup f with
 |some v=>rw[p]at e;exact .inl e
 |none=>rw[p]at e;exact .inr ⟨rfl,(VD.sub ok e).1⟩
def aI.xH(y:aI a G B b j){f:az}{o:aj}(e:a.env.cells.lookup f=Z o):o<j.heap.objs.size:=by
 let⟨u,n,c,W⟩:=y.cell f o e;exact cA c
theorem GZ(VD:iy a VK own V3)(y:aI a G B b j)(w:j.heap.objs.size<=ab)(s:∀c∈cg,mh a G b c)(x:∀c∈cg,c<j.heap.objs.size)(k:uQ W0 VK.names U t)(u:j.heap.objs.size<=W0)(Vy:∀f,(f,c8.cell)∈VK.names->∃o,U.lookup f=Z o):(a.d4 (ff a own V3) VK ⟨ab,j,b,cg,U⟩).Ok where
 mod:=y.ok.mod
 kind:=VD.kind
 glob:=y.ok.glob
 blt:=y.ok.blt
 above:=w
 inj:=λf z o t A=>by
  rcases VD.two y.ok t with m|⟨_,m⟩<;>rcases VD.two y.ok A with q|⟨_,q⟩
  ·exact k.inj f z o m q
  ·exact absurd (eJ (y.xH q)<|dc u (k.i9 f o m).1) (iM _)
  ·exact absurd (eJ (y.xH m)<|dc u (k.i9 z o q).1) (iM _)
  ·exact y.ok.inj f z o m q
 has:=λf h=>by
  have l:(f,c8.free)∈VK.names\/VK.names.lookup f=Z .cell:=by
   rcases h with h|h
   ·exact xC h (.inl rfl)
   ·exact xC h (.inr rfl)
  show ∃o,(U++lb a.env VK.names).lookup f=Z o;rw[xm];cases p:U.lookup f with
  |some v=>exact⟨v,rfl⟩
  |none=>
   rcases l with l|l
   ·exact wD VK.names [] f (.inl l)
   ·let⟨o,r⟩:=Vy f (mem_of_lookup l);rw[p]at r;cases r
 nO:=λf o e C=>by
  have h:VK.names.lookup f=Z .cell:=eq_of_beq e;let⟨V9,r⟩:=Vy f (mem_of_lookup h);rcases VD.two y.ok C with i|⟨i,_⟩
  ·exact dc u (k.i9 f o i).1
  ·rw[i]at r;cases r
 hd:=y.ok.hd
 frames:=y.ok.frames
 rQ:=.inl rfl
 y4:=λc g=>⟨c0<|eJ (x c g) w,λf o e=>by
  rcases VD.two y.ok e with i|⟨_,i⟩
  ·exact me (eJ (x c g)<|dc u (k.i9 f o i).1)
  ·exact (s c g).2.2.2.2.1 f o i⟩
 bs:=y.bs
 kl:=dc y.ok.kl y.g9
 nQ:=λc n d g=>by
  rcases (s c g).2.2.2.1 with i|i
  ·exact y.ok.nQ c n d i
  ·exact absurd (eJ (cA d)<|dc y.ok.kl i) (iM _)
 qr:=λc g i=>by
  rcases cm.mp (y.wF c i) with d|d
  ·exact (s c g).2.1 d
  ·exact (s c g).2.2.1 d
 ir:=y.stack
 mu:=y.Ga
theorem Rb{Vq:Nat}{l:az->Option ae}(VD:iy a VK own V3)(y:aI a G B b j)(I:j.heap.objs.size<=ab)(al:∀c∈cg,mh a G b c)(am:∀c∈cg,c<j.heap.objs.size)(C:∀c n,j.heap.get? c=Z n->t.get? c=Z n)(an:t.Ns ab l)(D:uQ W0 VK.names U t)(E:j.heap.objs.size<=W0)(Vy:∀f,(f,c8.cell)∈VK.names->∃o,U.lookup f=Z o):
  aI (a.d4 (ff a own V3) VK ⟨ab,j,b,cg,U⟩) [] (jX own V3 B) b {j with heap:=t,toks:=Vq} where
 ok:=GZ VD y I al am D E Vy
 os:=rfl
 bare:=y.bare
 base:=fm.kept C
 loc:=by
  let⟨@bn,E,ap⟩:=y.loc;refine⟨l,an,λr f u k d w=>?_⟩;have k:(own++V3.map λg=>a.N.getD g "")[r]?=Z f:=k;have d:(own.map (λ_=>(X:Option au))++V3.map λg=>B.getD g X)[r]?=Z (Z u):=d;by_cases as:r<own.length
  ·rw[nh (by rw[a8];exact as),d3]at d;cases p:own[r]? with
   |none=>rw[p]at d;cases d
   |some i=>rw[p]at d;cases d
  ·rw[lX ⋯,d3]at k;rw[lX (by rw[a8];lia),d3,a8]at d;cases p:V3[r-own.length]? with
   |none=>rw[p]at k;cases k
   |some g=>
    rw[p]at k d;have k:a.N.getD g "" = f:=Option.some.inj k;have d:B.getD g X=Z u:=Option.some.inj d;let⟨@h,L,M,O⟩:=VD.KY g (eC p);have Wg:h=f:=by
     rw[<-k,cK,L];rfl
    subst Wg;have Vy:B[g]?=Z (Z u):=by
     rw[cK]at d;cases P:B[g]? with
     |none=>rw[P]at d;cases d
     |some i=>rw[P]at d;rw[show i=Z u from d]
    have Q:=VD.free (h,.free) M rfl;let⟨@J,s,lk⟩:=ap g h u L Vy (.inr<|.inl Q);refine⟨J,s,.inr ⟨?_,?_⟩⟩
    ·rcases w with w|w|w
     ·
      exfalso;have:∀{V5:List (az×c8)},V5.lookup h=Z .free->(V5.map λ(x,q)=>if (q==c8.free&&a.env.scope.kind==.function&&a.env.kindOf x==Z .cell) then (x,c8.cell) else (x,q)).lookup h≠Z .local:=by
       intro V5;induction V5 with
       |nil=>intro e;simp at e
       |cons z s R=>
        let⟨x,q⟩:=z;intro e;rw[b4];dsimp only;by_cases S:h=x
        ·subst S;have a1:q=.free:=by simpa [g0] using e
         subst a1;by_cases A:(c8.free==c8.free&&a.env.scope.kind==ScopeKind.function&&a.env.kindOf h==Z c8.cell)=V
         ·rw[aF A];simp[g0]
         ·rw[aJ A];simp[g0]
        ·have F:(h==x)=aA:=by simpa using S
         rw[g0,F]at e;by_cases A:(q==c8.free&&a.env.scope.kind==ScopeKind.function&&a.env.kindOf x==Z c8.cell)=V
         ·rw[aF A,g0,F];exact R e
         ·rw[aJ A,g0,F];exact R e
      exact this O w
     ·exact .inl w
     ·exact .inr w
    ·rcases lk with ⟨a2,_⟩|⟨_,o,bd,be⟩
     ·exact absurd (a2.symm.trans Q) ↥0
     ·let⟨@V9,T⟩:=wD (Vn:=a.env) VK.names [] h (.inl M);have:=(VD.sub y.ok T).1;rw[bd]at this;cases this;let⟨@n,H,hd⟩:=be;have bi:U.lookup h=X:=by
       cases p:U.lookup h with
       |none=>rfl
       |some v=>
        have:=VD.JF _ (D.i9 h v p).2.2 rfl;rw[O]at this;cases this
      exact⟨o,by show (U++lb a.env VK.names).lookup h=Z o;rw[xm,bi];exact T,n,C _ _ H,hd⟩
 cell:=λf o e=>by
  rcases VD.two y.ok e with i|⟨_,i⟩
  ·exact⟨_,(D.i9 f o i).2.1⟩
  ·let⟨u,@n,H,hd⟩:=y.cell f o i;exact⟨u,n,C _ _ H,hd⟩
 free:=y.a5.fresh I
 iH:=λf o e=>by
  rcases VD.two y.ok e with i|⟨_,i⟩
  ·exact y.a5.fresh (dc E (D.i9 f o i).1)
  ·exact y.iH f o i
 pin:=λm bm=>nomatch bm
 a5:=y.a5.kept C
 len:=by simp[jX,ff,aL.d4]
def E5(a:aL)(WD:List bl)(D:eo)(G:List (aj×ba)):Prop:=(
 ∀(j:ao) (B:a6) (b:aD) (C:Bool->aD->Prop),aI a G B b j->D B b C->
  wpAny (aO a.prog a.w) a.A (forIn WD V λo s=>if s=V then do let ok <-o9 o a.env (bJ o a.env);pure (ForInStep.yield ok) else pure (ForInStep.yield s)) (wo a G B C) a.cR j)
def sh(a:aL)(WD:List bl)(D:eo):Prop:=(∀G,E5 a WD D G)
def NW:eo:=(λ_ b C=>C V b)
def Kn:sh a [] NW:=λG j B b C y e=>wpAny_tests_nil ⟨b,y,e⟩
def Jy{o:bl}{D:eo}(e:hA a o D):sh a [o] D:=λG j B b C y c=>wpAny_tests_one (e G j B b C y c)
def Ug(own:List az)(V3:List Nat)(L:gQ)(W2:eo)(WA:b5)(B:a6)(VS:List au->aD->Prop)(VJ:List au)(f:au)(T:aD):Prop:=(
 L f (jX own V3 B) T λa VF=>(∀(r:Nat) (u:au),(jX own V3 B)[r]?=Z (Z u)->a[r]?=Z (Z u))/\W2 a VF λc b=>if c=V then WA a b λu d=>VJ.length<sizeLine/\VS (VJ++[u]) d else VS VJ b)
def Ti(Wk:fs)(own:List az)(V3:List Nat)(L:gQ)(W2:eo)(WA:b5)(B:a6)(Vt:aD)(C:cW):Prop:=(
 ∃W:Nat->Nat->List au->aD->Prop,(∃l,W 0 l [] Vt)/\∀g l VJ b,W g l VJ b->(Wk.stop g b/\∀k,b k=X->C (.ref k) (upd b k<|.lst VJ))\/
  (Wk.go g b/\∃VS:List au->aD->Prop,(∀a T,VS a T->∃c,c<l/\W (g+1) c a T)/\∀f T,Wk.vm g b f T->Ug own V3 L W2 WA B VS VJ f T))
def uV(own:List az)(V3:List Nat)(WS:jo)(L:j8->gQ)(W2:j8->eo)(WA:j8->b5):b5:=(λB b C=>WS B b λWk Vt=>∀a:j8,Ti Wk own V3 (L a) (W2 a) (WA a) B Vt C)
def wg(M:gY)(VS:List az)(VK:gY)(V3:List Nat):Bool:=(
 VK.kind==.function&&VK.names.all (λz=>z.2 != .cell || VK.names.lookup z.1==Z .cell)&&VK.names.all (λz=>z.2 != .free || M.names.lookup z.1==Z .cell)&&VK.names.all (λz=>z.2 != .local || VK.names.lookup z.1==Z .local) &&
  V3.all (λg=>match VS[g]? with|some f=>VK.names.lookup f==Z .free|none=>aA))
def EL{a:aL}(M:gY)(VS:List az)(e:wg M VS VK V3=V)(d:a.env.scope=M:=by rfl)(j:a.N=VS:=by rfl):iy a VK own V3:=by
 unfold wg at e;simp only[cT,jC,bne_iff_ne,ne_eq,vS,jm]at e;let@⟨@⟨@⟨@⟨t,A⟩,k⟩,l⟩,m⟩:=e;refine⟨t,λz b c=>(A z b).resolve_left λi=>i c,λz b c=>?_,λz b c=>?_,λg Vl=>?_⟩
 ·rw[d];exact (k z b).resolve_left λi=>i c
 ·exact (l z b).resolve_left λi=>i c
 ·have:=m g Vl;rw[j];cases p:VS[g]? with
  |none=>rw[p]at this;cases this
  |some f=>
   rw[p]at this;have h:VK.names.lookup f=Z .free:=by simpa using this
   exact⟨f,rfl,mem_of_lookup h,h⟩
def Hu{Wj:Pos}{use:Option (ae->dD Unit)}{f1:ae->ao->Prop}{lc:cW}(o0:a.calm=V)(VD:iy a VK own V3)(Vl:kF a VR Wo WS)(pc:∀ap,j2 (a.d4 (ff a own V3) VK ap) VR<|L ap)(bI:∀ap,sh (a.d4 (ff a own V3) VK ap) WD<|W2 ap)(pi:∀ap,bG (a.d4 (ff a own V3) VK ap) WL<|WA ap)(Vy:∀f,k4 Wo a.env f=pure f)(y:aI a G B b j)(e:uV own V3 WS L W2 WA B b lc)(pm:∀(k ab:aj) (f2:aD) (I:ao) (l:az->Option ae),aI a G B f2 I->I.heap.Ns ab l->f2 ab=X->a.env.locals≠ab->(∀f o,a.env.cells.lookup f=Z o->o≠ab)->a.e7.heap.objs.size<=ab->(∀m∈a.k9++G,m.1≠ab)->lc (.ref k) f2->compPost (aO a.prog a.w) a.A a.cR use f1 (.ref k) ab (.ok .next) I):
  wpAny (aO a.prog a.w) a.A (zu (.ListComp WL [⟨VR,Wo,WD,0⟩] VK VC) VK a.env Wj (qa []) aA (bJ Wo a.env) use) f1 a.cR j:=by
 refine wpAny_comprehension_free (use:=use) rfl Vy (NJ<|VD.cells y.ok) VD.kind VD.loc (b0 (Vl G j B b _ y e) λu v1 t=>b0 t λv2 C A=>?_);let⟨Vr,cg,E,Wk,@VF,d,S,Vv,f4,as,po⟩:=A;subst d;have cd:∀c∈cg,c<C.heap.objs.size:=λc r=>by
  let⟨@n,d,R⟩:=Vv.obj _ _ f4 c r;exact cA d
 refine hp (Mk λf8 U ext co be lf=>?_);dsimp only at co ext be ⊢;generalize ga:C.heap.push {cls:=.type "list",dict:=X,data:=.seq ([]:List ae).toArray}=cr at co ext be ⊢;have cs:cr.objs.size=C.heap.objs.size+1:=by rw[<-ga,jz]
 have bi:C.heap.objs.size≠cr.objs.size:=by rw[cs];exact c0 (l7 _)
 have db:C.heap.objs.size<=cr.objs.size:=by rw[cs];exact tr _
 have ge:∀c n,C.heap.get? c=Z n->f8.get? c=Z n:=λc n d=>ext c n (ga ▸ cG _ d);have li:f8.get? C.heap.objs.size=Z {cls:=.type "list",data:=.seq ([]:List ae).toArray 0}:=ext _ _ (ga ▸ dM _ rfl);generalize v4:cr.objs.size=ab at co be cs bi db ⊢;have ds:C.heap.objs.size<=ab+1:=Gu db;generalize am:C.heap.objs.size=k at li cs bi db ⊢;have bm:C.heap.objs.size<=ab:=by rw[am];exact db
 let⟨@W,⟨@pp,gi⟩,turn⟩:=po ⟨ab,C,VF,cg,U⟩;have lm:=λ(Vq:Nat)=>Rb (Vq:=Vq) VD S bm as cd ge co be ds lf;have ln:=pc ⟨ab,C,VF,cg,U⟩;have ls:=bI ⟨ab,C,VF,cg,U⟩;have lv:=pi ⟨ab,C,VF,cg,U⟩;have gl:=GZ VD S bm as cd be ds lf;generalize M:a.d4 (ff a own V3) VK ⟨ab,C,VF,cg,U⟩=v at lm ln ls lv gl;have bn:v.prog=a.prog:=by rw[<-M];rfl
 have bs:v.w=a.w:=by rw[<-M];rfl
 have lw:v.K=a.K:=by rw[<-M];rfl
 have ce:v.A=a.A:=by rw[<-M];rfl
 have mb:v.calm=V:=by rw[<-M];exact o0
 have bj:v.env.locals=ab:=by rw[<-M];rfl
 have gt:v.ex=cg:=by rw[<-M];rfl
 have dL:v.e7=C:=by rw[<-M];rfl
 have pr:v.ng=VF:=by rw[<-M];rfl
 have pt:v.ah=ik a.stack:=by rw[<-M];rfl
 have eq:v.k9=[]:=by rw[<-M];rfl
 have g1:v.cR=λ_ R=>False:=by rw[<-M];rfl
 have mo:v.env=uR VK (U++lb a.env VK.names) ab a.env:=by rw[<-M];rfl
 have mp:∀f o,v.env.cells.lookup f=Z o->ab+1<=o\/a.env.cells.lookup f=Z o:=λf o e=>by
  rw[mo]at e;rcases VD.two S.ok e with i|⟨_,i⟩
  ·exact .inl (be.i9 f o i).1
  ·exact .inr i
 have pu:∀f o,v.env.cells.lookup f=Z o->o≠k:=λf o e i=>by
  rcases mp f o e with z|z
  ·rw[i,<-am]at z;exact absurd (dc (BN bm) z) (Nat.not_succ_le_self _)
  ·have:=S.xH z;rw[i,<-am]at this;exact iM _ this
 have g2:∀c∈cg,c≠k:=λc r i=>by
  have:=cd c r;rw[i,<-am]at this;exact iM _ this
 have py:k∉v.ah:=λi=>by
  let@⟨_,⟨@n,bv,_⟩⟩:=gl.ir.mem i;rw[dL]at bv;have:=cA bv;rw[am]at this;exact iM _ this
 have g3:∀(T:aD) (n:ba),(∀c∈cg,T c=X)->∀c∈cg,mh v [(k,n)] T c:=λT n hd c r=>by
  refine⟨hd c r,?_,?_,.inl (by rw[gt];exact r),λf o e=>(mp f o e).elim (λz=>me (eJ (cd c r) (dc ds (by rw[am]at ds;exact z)))) λz=>(as c r).2.2.2.2.1 f o z,λm F=>?_⟩
  ·rw[bj];exact c0 (eJ (cd c r) bm)
  ·exact gl.qr c (by rw[gt];exact r)
  ·rw[eq]at F;have:m=(k,n):=by simpa using F
   rw[this];exact eZ (g2 c r)
 have ms:∀he:ao,he={C with heap:=f8,toks:=C.toks+([]:List (az×ae)).length}->
   codeAny (aO a.prog a.w) a.A (.compLoop (.ListComp WL [⟨VR,Wo,WD,0⟩] VK VC) 0 (.ref Vr) (.ref k) v.env)
    (compPost (aO a.prog a.w) a.A a.cR use f1 (.ref k) ab) he:=by
  rintro he rfl;refine JJ (λx Vm=>∃(g:Nat) (VJ:List au) (T:aD) (VA:List ae) (q:Nat),aI v [(k,{cls:=.type "list",data:=.seq VA.toArray q})] (jX own V3 B) T Vm/\bY VJ VA/\VJ.length<=sizeLine/\E g Vm.heap/\
   (∀c∈cg,T c=X)/\W g x VJ T) ?_ pp ?_
  ·rintro x m0 ⟨g,VJ,N,VA,q,hf,ev,na,nb,ne,de⟩;rcases turn g x VJ N de with ⟨stop,rc⟩|⟨go,VS,nl,step⟩
   ·have:=Vv.done v bn bs lw mb g _ m0 _ N (λ_ R=>False) hf (g3 N _ ne) nb stop;rw[ce]at this;refine b0 this λs I P=>?_;let@⟨hm,a1⟩:=P;subst hm;let⟨@l,hd,R⟩:=a1.loc;have re:I.heap.Ns ab l:=by rw[<-bj];exact hd
    have F:=a1.pin (k,{cls:=.type "list",data:=.seq VA.toArray q}) (by rw[eq];simp);have ca:N k=X:=F.2.1;have cI:∀c,c≠ab->I.heap.get? c=I.heap.get? c:=λc r=>rfl;have bd:∀c n,C.heap.get? c=Z n->c≠ab:=λc n d=>c0 (eJ (cA d) bm);have rs:∀c n,C.heap.get? c=Z n->c≠k:=λc n d=>by rw[<-am];exact c0 (cA d)
    have al:fm (ik a.stack) cg VF N C.heap I.heap:=by
     have:=a1.base;rw[pt,gt,pr,dL]at this;exact this
    have J:fm (ik a.stack) cg VF (upd N k<|.lst VJ) C.heap I.heap:=
     ⟨λc n d x r an=>(cI c<|bd c n d).trans<|al.keep c n d x r an,
      λc n d x r an=>by
      let⟨@bo,p⟩:=al.slot c n d x r an;exact⟨bo,(cI c<|bd c n d).trans p⟩,
      λc n d x an=>by rw[cz (rs c n d)];exact al.free c n d x an,
      λc n w d D an=>(cI c<|bd c n d).trans<|al.jd c n w d D an,
      λc n d an=>by
      let⟨@V4,p⟩:=al.there c n d an;exact⟨V4,(cI c<|bd c n d).trans p⟩,
      λc w d=>by rw[cz (j7 (al.i4 c w d) ca)];exact al.i4 c w d,
      λc n w d=>by rw[cz (j7 (al.iT c n w d) ca)];exact al.iT c n w d,
      λc Vw d=>by
      let⟨@sc,p⟩:=al.kS c Vw d;exact⟨sc,by rw[cz (j7 p ca)];exact p⟩⟩
    have nm:∀c n,N c=Z n->c≠ab:=λc n d i=>by
     have:=a1.free;rw[bj,<-i,d]at this;cases this
    have sn:ea a.prog a.w (upd N k<|.lst VJ) I.heap:=λh n d=>by
     by_cases nn:h=k
     ·subst nn;rw[d_]at d;cases d;exact⟨na,VA,q,ev,(cI _ bi).trans F.1⟩
     ·rw[cz nn]at d;have:=a1.a5 h n d;rw[bn,bs]at this;refine this.js (λc J r p=>(cI c ?_).trans p) (λc p=>by rw[cz (j7 p ca)];exact p) λc w p=>by rw[cz (j7 p ca)];exact p
      rcases r with i|i
      ·rw[i];exact nm h n d
      ·exact nm c _ i
    have sp:aI a G B (upd N k<|.lst VJ) I:=S.UO (Vm:=I) (WO:=cg) (by have:=a1.os;rw[dL]at this;exact this) J sn a1.bare λc r=>⟨(as c r).2.2.2.1,(as c r).2.1,(as c r).2.2.2.2.1,(as c r).2.2.2.2.2⟩;have ss:a.env.locals≠ab:=by
     let⟨@v6,sw,R⟩:=S.loc;let⟨n,R,@R,bv,R⟩:=sw;exact bd _ _ bv
    have sB:∀f o,a.env.cells.lookup f=Z o->o≠ab:=λf o e=>by
     let⟨u,@n,bv,R⟩:=S.cell f o e;exact bd _ _ bv
    refine pm k ab _ I l sp re ?_ ss sB ?_ (λm F=>bd _ _ (S.pin m F).1) (rc k ca)
    ·rw[cz (eZ bi)];have:=a1.free
     rwa [bj]at this
    ·exact dc S.g9 bm
   ·have:=Vv.item v bn bs lw mb g _ m0 _ N (λ_ R=>False) hf (g3 N _ ne) nb go;rw[ce]at this;refine b0 this λs I P=>?_;let⟨@J,hm,sK⟩:=P;subst hm;refine b0 sK λ_ ch P=>?_;let⟨f,@hw,s0,s1,s2,h0,s3⟩:=P;have s4:=s0.pinned (g3 hw _ s3) (Vv.obj _ _ h0);have no:=ln _ ch _ hw f J _ s4 s1 (step f hw s2);rw[bn,bs,ce,g1]at no;refine b0 no λ_ s5 P=>?_;let⟨ci,@to,tt,ty,tz⟩:=P;have np:=ls _ s5 ci to _ tt tz;rw[bn,bs,ce,g1]at np;refine b0 np λc t0 P=>?_;let⟨@ns,fd,fn⟩:=P;have nw:∀{of:a6}{T:aD}{Vm:ao},aI v ([(k,{cls:=.type "list",data:=.seq VA.toArray q})]++mr cg ch.heap) of T Vm->(∀c∈cg,T c=X)/\E (g+1) Vm.heap:=λ{of T Vm} cl=>by
     refine⟨λc r=>?_,Vv.keep _ _ _ h0 λc r n d=>(cl.pin (c,n)<|dy _<|dy _<|tU r d).1⟩;let⟨@n,d,R⟩:=Vv.obj _ _ h0 c r;exact (cl.pin (c,n)<|dy _<|dy _<|tU r d).2.1
    have i_:∀{ii:List (aj×ba)}{T:aD}{Vm:ao},aI v ii ci T Vm->aI v ii (jX own V3 B) T Vm:=λ{ii T Vm} cl=>
     cl.weak (by rw[cl.len,hf.len]) ty;cases c with
    |false=>
     rw[aJ da]at fn;let⟨@im,io,t1⟩:=nl _ _ fn;rw[aJ da];let@⟨it,jp⟩:=nw fd;exact⟨im,io,g+1,VJ,ns,VA,q,i_ (fd.qC λm F=>fd.pin m (by
      rw[eq];simp at F ⊢;exact .inl F)),ev,na,jp,it,t1⟩
    |true=>
     rw[aF rfl]at fn ⊢;have ol:=lv _ t0 ci ns _ fd fn;rw[bn,bs,ce,g1]at ol;refine b0 ol λQ a2 P=>?_;let⟨t3,@kt,fr,ul,wf,un⟩:=P;let⟨@im,io,up⟩:=nl _ _ un;have F:=fr.pin (k,{cls:=.type "list",data:=.seq VA.toArray q}) (dy _ (dW _ ↥0));have kw:=F.1;refine qk B2 ⟨_,kw,rfl⟩ Ft (Eh _ _) (FD k VA.toArray q Q (by rw[cN,<-ev.length];lia)) ⟨kw,?_⟩;have p:=GK kw (λh=>h.push Q);let@⟨it,jp⟩:=nw fr;have us:aI v (mr cg ch.heap) ci kt a2:=fr.qC λm F=>fr.pin m (dy _<|dy _ F);have on:∀c n,c≠k->a2.heap.get? c=Z n->(a2.heap.update k<|ba.mapSeq λh=>h.push Q).get? c=Z n:=λc n r d=>(ip a2.heap _<|eZ r).trans d;have ut:aI v (mr cg ch.heap) ci kt {a2 with heap:=a2.heap.update k (ba.mapSeq λh=>h.push Q),toks:=a2.toks}:=
      us.turned (Vr:=k) on F.2.1 (by rw[bj];exact bi) (.inr (by rw[dL,am];exact bD _)) pu λm f0=>by
       rw[eq]at f0;let@⟨r,_⟩:=HW (show m∈mr cg ch.heap by simpa using f0);exact g2 _ r
     refine⟨im,io,g+1,VJ++[t3],kt,VA++[Q],q+1,i_<|ut.qC λm f0=>?_,ev.append<|.cons ul .nil,?_,?_,it,up⟩
     ·have d:m=(k,{cls:=.type "list",data:=.seq (VA++[Q]).toArray (q+1)}):=by simpa using f0
      subst d;refine⟨?_,F.2.1,F.2.2.1,F.2.2.2.1,λu i=>by cases i⟩;have u8:VA.toArray.push Q=(VA++[Q]).toArray:=by simp
      rw[<-u8];have op:IsL (a2.heap.update k<|ba.mapSeq λh=>h.push Q) k (VA.toArray.push Q) (if (VA.toArray.push Q).size==VA.toArray.size then q else q+1):=p;rw[aJ ↥0]at op;exact op
     ·rw[dd,iJ];lia
     ·refine Vv.keep _ _ _ jp λc r n d=>on c n (g2 c r) d
  ·refine⟨0,[],VF,[],0,?_,.nil,hl _,Vv.keep _ _ _ f4 λc R n d=>ge c n d,λc r=>(as c r).1,gi⟩;refine (lm _).qC λm F=>?_;have d:m=(k,{cls:=.type "list",data:=.seq ([]:List ae).toArray 0}):=by simpa using F
   subst d;exact⟨li,S.a5.fresh (by rw[am];exact bD _),by rw[bj];exact bi,py,λu i=>by cases i⟩
 have v0:uR VK (U++lb a.env VK.names) ab a.env=v.env:=mo.symm;show codeAny (aO a.prog a.w) a.A (.compStart _ 0 (.ref Vr) (.ref k)<|uR VK (U++lb a.env VK.names) ab a.env) _ _;rw[v0];exact codeAny_compStart_list (ms _ rfl) (Vv.self a.A 0 _ _ _ (Vv.keep _ _ _ f4 λc R n d=>ge c n d)<|ms _ rfl)
def SI(q:a.calm=V)(VD:iy a VK own V3)(Vl:kF a VR Wo WS)(r:∀g,j2 (a.d4 (ff a own V3) VK g) VR<|L g)(bI:∀g,sh (a.d4 (ff a own V3) VK g) WD<|W2 g)(s:∀g,bG (a.d4 (ff a own V3) VK g) WL<|WA g)(Vy:∀f,k4 Wo a.env f=pure f:=by intro W;rfl):bG a (.ListComp WL [⟨VR,Wo,WD,0⟩] VK VC) (uV own V3 WS L W2 WA):=by
 intro G j B b C y e;show wpAny _ a.A (zu (.ListComp WL [⟨VR,Wo,WD,0⟩] VK VC) VK a.env _ (qa []) aA (bJ Wo a.env) X) _ _ j;refine Hu (use:=X) (f1:=eM a G B C) q VD Vl r bI s Vy y e λk ab t h l u v F I o i m p=>?_;show ∃l,h.heap.Ns ab l/\∀Vk,a4.SameBut ab h.heap Vk->eM a G B C (.ref k) {h with heap:=Vk};refine⟨l,v,λVk cP=>⟨.ref k,t,?_,rfl,p⟩⟩;exact u.turned (Vr:=ab) (V1:=h.toks) (λc n w d=>(cP.2 c w).trans d) F (eZ I) (.inr i) o m
end
def hH(e:a4)(v:aj)(P:List ae)(VU:Nat):Prop:=(∃n S,e.get? v=Z n/\n.ExactDict/\n.data=.dict S VU/\S.toList.map (·.key)=P)
def hH.ty(f:hH j.heap v P VU):j.TypeIs (.ref v) "dict" := let ⟨n,_,d,o,_⟩:=f;⟨n,d,o.1⟩
def hH.lt(f:hH e v P VU):v<e.objs.size:=let ⟨_,_,d,_⟩:=f;cA d
def hH.go(f:hH e v P VU)(q:∀n,e.get? v=Z n->Vk.get? v=Z n):hH Vk v P VU:=let ⟨n,S,d,s⟩:=f;⟨n,S,q n d,s⟩
section
variable{Vs:bE}{H:bg}{O:bq}{Vo:ae->ao->Prop}{j:ao}
def B_{C:ae->ao->Prop}(M:(v==iX)=aA)(f:hH j.heap v P VU)(p:C (.ref j.heap.objs.size) {j with heap:=j.heap.push {cls:=.type "dict_keyiterator",data:=.fields #[.ref v,.int 0 0,.int P.length 0,.int VU 0]} }):wpAny (aO Vs H) O (nB<|.ref v) C Vo j:=by
 have ty:=f.ty;let⟨n,@S,a,d,b,c⟩:=f;have x:S.size=P.length:=by rw[<-c,a8,df]
 refine xb ty Gy (iR Gy ty F.entry_dict_iter ?i<|F.args_dict_iter_1 _)
 case i=>
  unfold bH.«dict.__iter__» bH.Dict.dictSlotNone;refine aB (aB<|wz ty ?_);show wpAny _ _ (pure<|ae.ref v) _ _ j;apply aR;show wpAny _ _ (bH.Dict.showsAll v >>= _) _ _ j;unfold bH.Dict.showsAll;rw[aJ (by rw[M];simp)];refine aB (aR<|aB<|qv a b<|aB<|xJ a b<|aB<|hp<|aR ⟨_,rfl,"dict_keyiterator",_,⟨_,dM _ rfl,rfl⟩,rg.lookup,?_⟩);simpa [fq,x] using p
def D8{u:ae}(a:j.heap.IsKeyIter Vr v g P.length VU)(f:hH j.heap v P VU)(c:P[g]?=Z u)(p:∀Vk,Vk.IsKeyIter Vr v (g+1) P.length VU->a4.SameBut Vr j.heap Vk->C (Z u) {j with heap:=Vk}):wpAny (aO Vs H) O (gm<|.ref Vr) C Vo j:=by
 let⟨@q,d,m,b⟩:=id a;let⟨n,@S,e,r,h,k⟩:=f;have x:S.size=P.length:=by rw[<-k,a8,df]
 have Vl:g<S.size:=by
  have:g<P.length:=(eX.mp c).1;lia
 have o:S[g].key=u:=by
  rw[<-k,d3,eE,jJ Vl]at c;exact Option.some.inj c
 unfold gm;refine aB (tE<|qA (name:=az.ofString "__next__") a.typeIs rg<|iR rg a.typeIs CZ ?i<|A2 _)
 case i=>
  refine aB (aR<|aB<|aB ?_);refine aB (vr a.typeIs<|aR<|aB<|qd d b ?_);simp only[show bH.Dict_items.ownsTuple "dict_keyiterator" = aA by decide,hi,fN];show wpAny _ _ (if (ae.ref v==ae.none)=V then _ else _) _ _ j;rw[aJ (show ¬ (ae.ref v==ae.none)=V by intro i;cases i)];refine aB (aR<|aB<|qv e h ?_);rw[aJ (by simp[x])];refine aB (aR<|aB<|xJ e h ?_);rw[aJ ↥0];apply aR;simp only[show ¬ ((g:Int)<0) by lia,fN,rv,jJ Vl];refine aB (aB<|vr a.typeIs<|aR<|aB<|CP a.typeIs ?_);show wpAny _ _ (Az (.ref Vr) 1 (fq<|(g:Int)+1) >>= _) _ _ j;have l:(j.heap.update Vr (ba.mapFields (·.setIfInBounds 1 (fq<|(g:Int)+1)))).IsKeyIter Vr v (g+1) P.length VU:=
   ⟨_,lE _ d<|BI<|vH b _,(BU ..).trans m,by rw[vH b];simp[fq]⟩;refine aB (sY d b ↥0 (aB (f9 (aB (CP (s:={j with heap:=j.heap.update Vr (ba.mapFields (·.setIfInBounds 1 (fq<|(g:Int)+1)))}) l.typeIs ?_)))));show wpAny _ _ (pure S[g].key) _ _ _;rw[o];exact aR (aR ⟨_,rfl,aR<|p _ l<|lS ..⟩)
def EG(m:O.handled=X)(a:j.heap.IsKeyIter Vr v g P.length VU)(f:hH j.heap v P VU)(q:P.length<=g)(p:∀Vk,a4.ExtBut Vr j.heap Vk->C X {j with heap:=Vk}):wpAny (aO Vs H) O (gm<|.ref Vr) C Vo j:=by
 let⟨@r,b,s,d⟩:=id a;let⟨n,@S,e,t,k,o⟩:=f;have x:S.size=P.length:=by rw[<-o,a8,df]
 unfold gm;refine aB (tE<|qA (name:=az.ofString "__next__") a.typeIs rg<|iR rg a.typeIs CZ ?i<|A2 _)
 case i=>
  refine aB (aR<|aB<|aB ?_);refine aB (vr a.typeIs<|aR<|aB<|qd b d ?_);simp only[show bH.Dict_items.ownsTuple "dict_keyiterator" = aA by decide,hi,fN];show wpAny _ _ (if (ae.ref v==ae.none)=V then _ else _) _ _ j;rw[aJ (show ¬ (ae.ref v==ae.none)=V by intro i;cases i)];refine aB (aR<|aB<|qv e k ?_);rw[aJ (by simp[x])];refine aB (aR<|aB<|xJ e k ?_);rw[aJ ↥0];apply aR;simp only[show ¬ ((g:Int)<0) by lia,fN,rv,AB (show S.size<=g by lia)];refine aB (aB<|vr a.typeIs<|aR ?_);show wpAny _ _ (Az (.ref Vr) 0 .none >>= _) _ _ j;refine aB (sY b d ↥0 ?_);show wpAny _ _ (tN (.type "StopIteration") [] >>= _) _ _ _;apply aB;simp only[tN,z4];refine aB (hp (aB (m:=uB _ _) (vb (a:=ae.none) (by first|rfl|(simp only[uB];rfl)) (hp ?_ (by size_fits)))) (by size_fits));simp only[raiseNew];apply aB;apply GC;rw[show O.in1.handled=X from m];refine aB (m:=pure _) (aR<|wpAny_throw ?_);apply aB;refine uo (T := "StopIteration") (b:=V) ⟨_,dM _ rfl,rfl⟩ GA ?_;exact aR (p _<|((lS ..).extBut.push _).push _)
theorem K7(i:O.handled=X)(Vr v:aj)(ne:v≠Vr)(P:List ae)(VU:Nat):iK Vs H O Vr [Vr,v] [Vr] P.length (λg u=>P[g]?=Z u) (λg e=>e.IsKeyIter Vr v g P.length VU/\hH e v P VU) where
 sub:=λc k=>by
  have:c=Vr:=by simpa using k
  simp[this]
 frame:=λg e Vk Y q=>⟨let ⟨n,d,s⟩:=Y.1;⟨n,q Vr ↥0 n d,s⟩,Y.2.go (q v ↥0)⟩
 item:=λg j C Vo Vl Y a=>by
  have f:P[g]?=Z P[g]:=by simp[Vl]
  refine D8 Y.1 Y.2 f λVk h c=>a _ Vk j.toks f ⟨h,Y.2.go λn d=>c.extBut v n ne d⟩ λo n b d=>c.extBut o n ⇑b d
 done:=λj C Vo Y a=>EG i Y.1 Y.2 (bD _) λVk c=>a Vk j.toks λo n b d=>c o n ⇑b d
 self:=λg j C Vo Y a=>FK Y.1 a
theorem Mb(M:(v==iX)=aA):PySem.W.KdlSrc Vs H "dict" v v P.length (λg u=>P[g]?=Z u) (λe=>hH e v P VU) where
 type:=λj f=>f.ty
 there:=λe f=>⟨f.lt,f.lt⟩
 keep:=λe Vk f q=>f.go (q v<|.inl rfl)
 notList:=by decide
 notTuple:=by decide
 hint:=λO Vo j C f p=>PySem.W.kdl_hint_dict f.ty p
 iter:=λO j a f=>⟨_,_,(λVo C p=>B_ M f p),K7 a _ v (c0 f.lt) P VU,⟨⟨_,dM _ rfl,rfl,rfl⟩,f.go λn d=>cG _ d⟩⟩
end
def rf:nZ "set_iterator" "__next__" "set_iterator.__next__" :=
 .of (owner := "set_iterator") (n := "__next__") (by rw[yh,zO];kernel_rfl) (by decide +kernel) (by decide +kernel) (by decide +kernel)
  (by first|exact .inl (by decide +kernel)|exact .inr (by decide +kernel)) (by rw[sV];kernel_rfl)
def MC:qc pf "set_iterator.__next__" = Z bH.«set_iterator.__next__»:=G8 (by kernel_rfl)
def Hk:Manifest.owners.lookup (String.ofList ['r','o','t','a','r','e','t','i','_','t','e','s'].reverse)=Z Manifest.sig_set_iterator:=by kernel_rfl
def MK(h:ae):sg "set_iterator.__next__" ⟨[h],[]⟩:=by
 unfold sg;rw[Fi (id := "set_iterator.__next__") (n:=['_','_','t','x','e','n','_','_']) (o:=['r','o','t','a','r','e','t','i','_','t','e','s']) (by kernel_rfl) Hk];kernel_rfl
def Kj:qc pf "set.__iter__" = Z bH.«frozenset.__iter__»:=
 FL (id' := "frozenset.__iter__") (by kernel_rfl) rfl (by decide +kernel) (by kernel_rfl)
def D3:nZ "set_iterator" "__iter__" "set_iterator.__iter__" :=
 .of (owner := "set_iterator") (n := "__iter__") (by rw[yh,zO];kernel_rfl) (by decide +kernel) (by decide +kernel) (by decide +kernel)
  (by first|exact .inl (by decide +kernel)|exact .inr (by decide +kernel)) (by rw[sV];kernel_rfl)
def UC(h:ae):sg "set_iterator.__iter__" ⟨[h],[]⟩:=by
 unfold sg;rw[Fi (id := "set_iterator.__iter__") (n:=['_','_','r','e','t','i','_','_']) (o:=['r','o','t','a','r','e','t','i','_','t','e','s']) (by kernel_rfl) Hk];kernel_rfl
def QK:qc pf "set_iterator.__iter__" = Z bH.«dict_keyiterator.__iter__»:=
 FL (id' := "dict_keyiterator.__iter__") (by kernel_rfl) (by first|rfl|decide +kernel|(unfold String.splitOn;simp +decide [String.splitOnAux])) (by decide +kernel) (by kernel_rfl)
def gx(e:a4)(y:aj)(WK:ae)(g:Nat)(VD:aj)(x VU:Nat):Prop:=(∃n,e.get? y=Z n/\n.cls=.type "set_iterator" /\ n.data=.fields #[WK,.int g 0,.ref VD,.int x 0,.int VU 0])
def iI(e:a4)(VD:aj)(S:Array (Int×ae))(VU:Nat)(D:aS):Prop:=(∃n,e.get? VD=Z n/\n.ExactSet/\n.data=.set S VU D)
def gx.go(f:gx e y WK g VD x VU)(q:∀n,e.get? y=Z n->Vk.get? y=Z n):gx Vk y WK g VD x VU:=let ⟨n,d,s⟩:=f;⟨n,q n d,s⟩
def iI.go(f:iI e VD S VU D)(q:∀n,e.get? VD=Z n->Vk.get? VD=Z n):iI Vk VD S VU D:=let ⟨n,d,s⟩:=f;⟨n,q n d,s⟩
section
variable{Vs:bE}{H:bg}{O:bq}{Vo:ae->ao->Prop}{j:ao}
def gx.ty(f:gx j.heap y WK g VD x VU):j.TypeIs (.ref y) "set_iterator" := let ⟨n,d,o,_⟩:=f;⟨n,d,o⟩
def OP{ay:gc}{a:Source}{C:Nat->ao->Prop}(b:0<x)(e:∀g,g<x->C g {j with drawn:=j.drawn.bump a}):wpAny ay O (choose a x) C Vo j:=
 λ_ W W=>⟨me b,e _<|lF _ b⟩
theorem pz{VM:Type}:∀(I:List VM) (g:Nat) (e:g<I.length),(I[g]::I.eraseIdx g).Perm I
 |f::w,0,_=>.refl _
 |f::w,g+1,e=>(List.Perm.swap f _ _).trans (List.Perm.cons f<|pz w g<|x5 e)
theorem Ha{VM:Type}{ay:gc}:∀(x:Nat) (w:List VM) (j:ao) (C:List VM->ao->Prop),w.length=x->(∀v VJ,List.Perm VJ w->C VJ {j with drawn:=v})->wpAny ay O (xn x w) C Vo j
 |0,w,j,C,a,e=>by
  have d:w=[]:=nY a;subst d;unfold xn;exact aR (e j.drawn [] .nil)
 |x+1,[],j,C,a,e=>by cases a
 |x+1,f::w,j,C,a,e=>by
  unfold xn;refine aB (OP (by rw[a];exact q5 _) λg Vl=>?_);have d:(f::w)[g]?=Z (f::w)[g]:=dN Vl;rw[d];dsimp only;refine aB (Ha x _ _ _ (by rw[Fg Vl,a];rfl) λv VJ b=>?_);refine aR (e v _ ?_);refine (List.Perm.cons _ b).trans ?_;exact pz _ g Vl
def tg(a:gx j.heap y WK g VD x VU)(e:wpAny (aO Vs H) O.in1 (bH.«set_iterator.__next__» ⟨[.ref y],[]⟩) (λfin Vm=>∃u,fin=.done (.ret u)/\C (Z u) Vm) (λd Vm=>wpAny (aO Vs H) O (do let c <-As d (.type "StopIteration");if c=V then pure X else throw d) C Vo Vm) j):
  wpAny (aO Vs H) O (gm<|.ref y) C Vo j:=by
 unfold gm;refine aB (tE<|qA (name:=az.ofString "__next__") a.ty rf<|iR rf a.ty MC ?i<|MK _)
 case i=>
  refine hk e (λfin Vm ⟨u,d,p⟩=>⟨u,d,aR p⟩) λd Vm p=>p
def vh{b:ae}{c:Nat}{C:Unit->ao->Prop}{q:Nat}(e:gx j.heap y WK g VD x VU)(h:q<5)(i:(#[WK,.int g 0,.ref VD,.int x 0,.int VU 0]:Array ae).setIfInBounds q f=#[b,.int c 0,.ref VD,.int x 0,.int VU 0])(p:∀Vk,gx Vk y b c VD x VU->a4.SameBut y j.heap Vk->C () {j with heap:=Vk}):wpAny (aO Vs H) O (Az (.ref y) q f) C Vo j:=by
 let⟨@n,d,k,a⟩:=e;refine sY d a h (p _ ⟨_,lE _ d<|BI<|vH a _,(BU ..).trans k,?_⟩<|lS ..);rw[vH a,i]
def BG(a:O.handled=X)(p:∀Vk,a4.ExtBut y j.heap Vk->C X {j with heap:=Vk}):
  wpAny (aO Vs H) O.in1 (tN (.type "StopIteration") [] >>= λf=>(raiseNew f:dD PySem.Fin)) (λfin Vm=>∃u,fin=.done (.ret u)/\C (Z u) Vm) (λd Vm=>wpAny (aO Vs H) O (do let c <-As d (.type "StopIteration");if c=V then pure X else throw d) C Vo Vm) j:=by
 apply aB;simp only[tN,z4];refine aB (hp (aB (m:=uB _ _) (vb (a:=ae.none) (by first|rfl|(simp only[uB];rfl)) (hp ?_ (by size_fits)))) (by size_fits));simp only[raiseNew];apply aB;apply GC;rw[show O.in1.handled=X from a];refine aB (m:=pure _) (aR<|wpAny_throw ?_);apply aB;refine uo (T := "StopIteration") (b:=V) ⟨_,dM _ rfl,rfl⟩ GA ?_;exact aR (p _<|λc n W d=>cG _<|cG _ d)
def Gd{next:Nat}(a:gx j.heap y (.int WB 0) g VD x VU)(c:iI j.heap VD S VU D)(d:D.fits S.size=V)(e:S.size=x)(h:∀(b:Option (ae×Nat)->ao->Prop) (i:ae->ao->Prop),b (Z (f,next)) j->wpAny (aO Vs H) O.in1 (mQ VD WB g VU) b i j)(p:∀Vk,gx Vk y (.int next 0) (g+1) VD x VU->a4.SameBut y j.heap Vk->C (Z f) {j with heap:=Vk}):wpAny (aO Vs H) O (gm<|.ref y) C Vo j:=by
 refine tg a ?_;let⟨@n,k,B,m⟩:=id a;let⟨@E,o,F,q⟩:=c;unfold bH.«set_iterator.__next__»;refine aB (aR<|aB<|qd k m ?_);show wpAny _ _ (u_ VD >>= _) _ _ _;refine aB (r8 o q d ?_);dsimp only;rw[aJ (by rw[e];simp)];refine aB (m:=mQ VD _ _ _) (h _ _ ?_);dsimp only;refine aB (vh (b:=.int next 0) (c:=g) a ∅ rfl λt u v=>?_);refine aB (vh (j:={j with heap:=t}) (b:=.int next 0) (c:=g+1) u ∅ rfl λA w z=>?_);exact aR ⟨_,rfl,p A w<|v.trans z⟩
def Bd(i:O.handled=X)(a:gx j.heap y (.int WB 0) g VD x VU)(k:iI j.heap VD S VU D)(m:D.fits S.size=V)(o:S.size=x)(q:∀(b:Option (ae×Nat)->ao->Prop) (r:ae->ao->Prop),b X j->wpAny (aO Vs H) O.in1 (mQ VD WB g VU) b r j)(p:∀Vk,a4.ExtBut y j.heap Vk->C X {j with heap:=Vk}):wpAny (aO Vs H) O (gm<|.ref y) C Vo j:=by
 refine tg a ?_;let⟨@n,e,v,f⟩:=id a;let⟨@w,s,z,t⟩:=k;unfold bH.«set_iterator.__next__»;refine aB (aR<|aB<|qd e f ?_);show wpAny _ _ (u_ VD >>= _) _ _ _;refine aB (r8 s t m ?_);dsimp only;rw[aJ (by rw[o];simp)];refine aB (m:=mQ VD _ _ _) (q _ _ ?_);dsimp only;refine aB (sY e f (show 2<5 by decide) ?_);exact BG (y:=y) i λVk u=>p Vk λc n h d=>u c n h ((lS ..).extBut c n h d)
def Lh{b:Nat}{Vq:hX}{f:Int×ae}(a:gx j.heap y (.ref Wt) g VD x VU)(h:iI j.heap VD S VU D)(c:D.fits S.size=V)(i:S.size=x)(A:j.heap.get? Wt=Z VW)(V8:VW.data=.seq aZ Wu)(k:aZ[g]?=Z (.int b Vq))(l:S[b]?=Z f)(p:∀Vk,gx Vk y (.ref Wt) (g+1) VD x VU->a4.SameBut y j.heap Vk->C (Z f.2) {j with heap:=Vk}):wpAny (aO Vs H) O (gm<|.ref y) C Vo j:=by
 refine tg a ?_;let⟨@n,m,s,o⟩:=id a;let⟨@u,d,v,e⟩:=h;unfold bH.«set_iterator.__next__»;refine aB (aR<|aB<|qd m o ?_);show wpAny _ _ (u_ VD >>= _) _ _ _;refine aB (r8 d e c ?_);dsimp only;rw[aJ (by rw[i];simp)];show wpAny _ _ (o3 (.ref Wt) >>= _) _ _ _;refine aB (lU A V8 ?_);dsimp only;rw[rv,k];dsimp only;show wpAny _ _ (setNextDrawn VD _ _ >>= _) _ _ _;unfold setNextDrawn;refine aB (aB<|kO d e c ?_);dsimp only;rw[aJ ↥0,rv,l];dsimp only;refine aR ?_;refine aB (vh (b:=.ref Wt) (c:=g+1) a ∅ rfl λt q r=>?_);exact aR ⟨_,rfl,p t q r⟩
def Q3(e:O.handled=X)(a:gx j.heap y (.ref Wt) g VD x VU)(f:iI j.heap VD S VU D)(h:D.fits S.size=V)(i:S.size=x)(A:j.heap.get? Wt=Z VW)(V8:VW.data=.seq aZ Wu)(k:aZ[g]?=X)(p:∀Vk,a4.ExtBut y j.heap Vk->C X {j with heap:=Vk}):wpAny (aO Vs H) O (gm<|.ref y) C Vo j:=by
 refine tg a ?_;let⟨@n,l,z,m⟩:=id a;let⟨@B,o,E,q⟩:=f;unfold bH.«set_iterator.__next__»;refine aB (aR<|aB<|qd l m ?_);show wpAny _ _ (u_ VD >>= _) _ _ _;refine aB (r8 o q h ?_);dsimp only;rw[aJ (by rw[i];simp)];show wpAny _ _ (o3 (.ref Wt) >>= _) _ _ _;refine aB (lU A V8 ?_);dsimp only;rw[rv,k];dsimp only;refine aB (vh (b:=.int 0 0) (c:=g) a ∅ rfl λt r s=>?_);let⟨@V4,u,I,v⟩:=r;refine aB (sY (s:={j with heap:=t}) u v (show 2<5 by decide) ?_);exact BG (y:=y) e λVk w=>p Vk λc n b d=>w c n b ((lS ..).extBut c n b<|s.extBut c n b d)
end
def iN(val:Nat->List aa):Nat->List (List aa)
 |0=>[]
 |g+1=>ij (iN val g) (val g)
def fQ.fresh(Wr:Bool):fQ H Vz (e.push<|lh Wr) e.objs.size Wr []:=
 ⟨_,#[],0,_,dM _ rfl,⟨rfl,rfl,rfl⟩,rfl,⟨[],rfl,.nil,λi a=>(fW a).elim⟩,⟨List.Pairwise.nil,rfl,rfl⟩,⟨.inl rfl,rfl,show 0*5<7*3 by decide,λr b=>(fW b).elim,λm c=>(fW c).elim⟩,hn⟩
def fQ.at{h:aj}{P:List (List aa)}(VD:fQ H Vz e h Wr P)(q:∀n,e.get? h=Z n->Vk.get? h=Z n):fQ H Vz Vk h Wr P:=by
 let⟨n,S,VU,@D,a,s⟩:=VD;exact⟨n,S,VU,D,q n a,s⟩
section
variable{Vs:bE}{H:bg}{Vz:List aa->aj->Prop}{O:bq}{Vo:ae->ao->Prop}{j:ao}
def P2{z:List aj}{F:Nat->ae->Prop}{a6:Nat->a4->Prop}{h:a4}(a2:O.units+25<bW)(W:iK Vs H O.in1 y cg z x F a6)(G:VD∉cg)(val:Nat->List aa)(N:∀g u,F g u->∃c,u=.ref c/\Vz (val g) c)(I:∀p c,Vz p c->(eh Vs H).is h p c)(a:∀c n,h.get? c=Z n->c∉z)(P:∀J VP l,h.get? VD=Z J->J.data=.seq VP l->False)(Q:∀g,g<x->(iN val g).length+1<=300):
  ∀(q g:Nat) (j:ao),x-g=q->g<=x->vK h j.heap->a6 g j.heap->fQ H Vz j.heap VD Wr (iN val g)->
   (∀Vk Vq,(∀c n,c≠VD->c∉z->j.heap.get? c=Z n->Vk.get? c=Z n)->fQ H Vz Vk VD Wr (iN val x)->Vp (.ok<|.ret .none) {j with heap:=Vk,toks:=Vq})->
   codeAny (aO Vs H) O (.builtin "set.update.loop" ⟨[.ref VD,.ref y],[]⟩) Vp j:=by
 have L:VD∉z:=λe=>G (W.sub _ e);intro q;induction q with
 |zero=>
  intro g j R Vl Vv r s v;have S:g=x:=⋯
  subst S;refine jN EF ?_;rw[k6 w1 _];show wpAny _ O.in1 (gm (.ref y) >>= _) _ _ j;refine aB (W.done j _ _ r λVk Vq b=>?_);show wpAny _ O.in1 (ret ae.none) _ _ _;exact aR (v Vk Vq (λc n K a d=>b c n a d)<|s.at λn d=>b VD n L d)
 |succ q T=>
  intro g j R Vl Vv r s v;have w:g<x:=⋯
  refine jN EF ?_;rw[k6 w1 _];show wpAny _ O.in1 (gm (.ref y) >>= _) _ _ j;refine aB (W.item g j _ _ w r λu t bd U al b=>?_);let⟨@f,rfl,B⟩:=N g u U;have M:vK h t:=λc n VP l k C m=>b c n (a c n k) (Vv c n VP l k C m);have D:∀p c,Vz p c->(eh Vs H).is t p c:=λp c i=>⟨(I p c i).1,(I p c i).2.keep M⟩;show wpAny _ O.in1 (holding [ae.ref f] (setAdd VD<|.ref f) >>= _) _ _ _;refine aB (f9 ?_);unfold setAdd;refine f9 ?_;refine aB ((eh Vs H).pyHash (k:=val g) (show O.units+1+10<bW by lia) (D _ _ B) ?_);refine Nw (j:={j with heap:=t,toks:=_}) (show O.units+1+20<bW by lia) (s.at λn d=>b VD n L d) (D _ _ B) B D (Q g w) λc A E am=>?_;refine aR ⟨jQ w1 _,T (g+1) _ ⋯ w (λc n VP l k C m=>?_) (W.frame _ t A al λc o n d=>?_) am λan ap as a1=>?_⟩
  ·show A.get? c=Z n;rw[E.2 c (λe:c=VD=>P n VP l (e ▸ k) m)];exact M c n VP l k C m
  ·rw[E.2 c (λe:c=VD=>G (by rw[<-e];exact o))];exact d
  ·refine v an ap (λc n o a d=>as c n o a ?_) a1;show A.get? c=Z n;rw[E.2 c o];exact b c n a d
variable{P:List (List aa)}{C:ae->ao->Prop}
def Lc(q:O.handled=X)(h:j.heap.get? I=Z n)(i:n.cls=.type "tuple")(k:n.data=.seq VP W4)(E:O.units+28<bW)(Vl:∀g u,VP[g]?=Z u->∃c,u=.ref c/\Vz (P.getD g []) c)(r:∀p c,Vz p c->(eh Vs H).is j.heap p c)(b:∀g,g<VP.size->(iN (λg=>P.getD g []) g).length+1<=300)(t:I≠VD)(f:j.heap.get? VD=Z (lh Wr))(v:fQ H Vz j.heap VD Wr [])(e:∀Vk Vq,fQ H Vz Vk VD Wr (iN (λg=>P.getD g []) VP.size)->(∀c n,c≠VD->j.heap.get? c=Z n->Vk.get? c=Z n)->C .none {j with heap:=Vk,toks:=Vq}):
  wpAny (aO Vs H) O (bH.«set.__init__» ⟨[.ref VD,.ref I],[]⟩) (λfin Vm=>∃s,fin=.done (.ret s)/\C s Vm) Vo j:=by
 let⟨F,G,L,M⟩:=n;simp only at i k;subst i;subst k;have N:=PS;have Q:=Jm;have R:(ae.type "tuple" == ae.type "dict")=aA:=by decide
 unfold lh at f;have m:j.heap.IsTuple I VP:=⟨_,h,rfl,W4,rfl⟩;unfold bH.«set.__init__» noKeywords bH.Frozenset.updateFrom;generalize w:nB=kF
 wp_walk
 subst w;refine x3 m ?_;refine aB (FR ?_);have x:I<j.heap.objs.size:=cA h;have y:VD<j.heap.objs.size:=cA f;have z:O.in1.handled=X:=by simp[q]
 refine P2 (Wr:=Wr) (Vz:=Vz) (h:=j.heap) (show O.units+25<bW by lia) (iK.tuple z _ I (c0 x) VP) ?_ (λg=>P.getD g []) Vl r ?_ ?_ b (VP.size-0) 0 _ ⋯ (hl _) ?_ ⟨⟨_,dM _ rfl,rfl,rfl⟩,?_⟩ ?_ λVk Vq A B=>?_
 ·simp only[cm,fW,i0,not_or];exact⟨c0 y,λd=>t d.symm⟩
 ·intro c n d;rw[cb];exact c0 (cA d)
 ·intro J VP l a o;rw[f]at a;cases a;cases o
 ·intro c n VP l a o T;exact cG _ a
 ·let⟨@n,D,s⟩:=m;exact⟨n,cG _ D,s⟩
 ·exact v.at λn d=>cG _ d
 ·show wpAny _ _ _ _ _ _;refine aR ?_;show wpAny _ _ (ret ae.none) _ _ _;refine aR ⟨_,rfl,e Vk Vq B λc n b d=>A c n b ?_<|cG _ d⟩;rw[cb];exact c0 (cA d)
def MM(w:O.handled=X)(l:j.heap.get? I=Z n)(x:n.cls=.type "tuple")(y:n.data=.seq VP W4)(L:O.units+30<bW)(Vl:∀g u,VP[g]?=Z u->∃c,u=.ref c/\Vz (P.getD g []) c)(m:∀p c,Vz p c->(eh Vs H).is j.heap p c)(z:∀g,g<VP.size->(iN (λg=>P.getD g []) g).length+1<=300)(e:∀Vk Vq,fQ H Vz Vk j.heap.objs.size (h4 H) (iN (λg=>P.getD g []) VP.size)->(∀c n,j.heap.get? c=Z n->Vk.get? c=Z n)->C (.ref j.heap.objs.size) {j with heap:=Vk,toks:=Vq}):
  wpAny (aO Vs H) O (call (.type "set") [.ref I]) C Vo j:=by
 let⟨o,@WY,M⟩:=nz.mro;have Q:=nz.made;have R:=nz.sub;refine yz (E1 ?_);show wpAny _ _ (callAny (.type "set") _) _ _ _;refine aR ⟨ie.quiet_builtin _ (by decide +kernel),jN F.entry_type_call ?_⟩;rw[bq.under_plain (weight_type_call_type "set" [.ref I] []) rfl];have t:=nz.notType;have A:=nz.canCreate;have S:=PySem.F.typeCall_set_1 (.ref I);repeat (any_goals (first|assumption|wp_step))
 refine p6 (LI (.ref I) (Vo:=Vo) (a:=λq r=>q=.ref j.heap.objs.size/\r={j with heap:=j.heap.push (lh<|h4 H)}) ⟨rfl,rfl⟩) λs r b=>?_;cases s with
 |error d=>exact b
 |ok aW=>
  cases aW with
  |ret q=>
   let@⟨rfl,rfl⟩:=b;have v:(j.heap.push<|lh<|h4 H).get? j.heap.objs.size=Z (lh<|h4 H):=dM _ rfl;have B:ao.TypeIs {j with heap:=j.heap.push (lh<|h4 H)} (.ref j.heap.objs.size) "set" := ⟨_,v,rfl⟩;have U:=nz.init.lookup;have al:=nz.init.bind (.ref j.heap.objs.size);repeat (any_goals (first|assumption|wp_step))
   refine p6 (codeAny_call_builtin (R:=wants (λs a=>s=.none/\∃Vk Vq,a={j with heap:=Vk,toks:=Vq}/\
     fQ H Vz Vk j.heap.objs.size (h4 H) (iN (λg=>P.getD g []) VP.size)/\(∀c n,j.heap.get? c=Z n->Vk.get? c=Z n)) Vo) nz.init.plain PySem.F.entry_set_init<|check_set_init_1 B ?_) λD a f=>?_
   ·refine hk (Lc (j:={j with heap:=j.heap.push (lh<|h4 H)}) (by simp[w]) (cG _ l) x y (by show O.in1.in1.units+28<bW;show O.units+1+1+28<bW;omega) Vl (λp c i=>⟨(m p c i).1,(m p c i).2.keep λc n W W d W W=>cG _ d⟩) z (c0<|cA l) v (fQ.fresh _) (C:=λs a=>s=.none/\∃Vk Vq,a={j with heap:=Vk,toks:=Vq}/\
     fQ H Vz Vk j.heap.objs.size (h4 H) (iN (λg=>P.getD g []) VP.size)/\(∀c n,j.heap.get? c=Z n->Vk.get? c=Z n)) λVk Vq h E=>⟨rfl,Vk,Vq,rfl,h,λc n d=>E c n (c0<|cA d)<|cG _ d⟩) (λfin Vm k=>?_) λ_ W d=>d;let⟨@s,rfl,k⟩:=k;exact k
   ·cases D with
    |error d=>exact f
    |ok G=>
     cases G with
     |ret s=>
      let@⟨rfl,⟨Vk,@Vq,rfl,h,J⟩⟩:=f;repeat (any_goals (first|assumption|wp_step))
      exact e _ _ h J
     |_=>exact f.elim
  |_=>exact b.elim
end
section
variable{Vs:bE}{H:bg}{O:bq}{Vo:ae->ao->Prop}{j:ao}
theorem EB{VM:Type}(next:Nat->Nat):∀(fuel q:Nat) (left:List VM) (out:Array VM),left.length=fuel->(jv.go next fuel q left out).toList.Perm (out.toList++left)
 |0,q,left,out,e=>by
  have d:left=[]:=nY e;subst d;unfold jv.go;rw[bQ]
 |fuel+1,q,left,out,e=>by
  unfold jv.go;have Vl:next q%left.length<left.length:=lF _ (by rw[e];exact q5 _)
  rw[dN Vl];dsimp only;refine (EB next fuel (q+1) _ _ (by rw[Fg Vl,e];rfl)).trans ?_;rw[yJ,bk];exact dZ _ (pz _ _ Vl)
def PW(next:Nat->Nat)(w:Array VM):(jv next w).toList.Perm w.toList:=EB next w.size 0 w.toList #[] (by rw[df])
def vX{C:Bool->ao->Prop}(e:C (H.params.followText "set-order") j):wpAny (aO Vs H) O setsByText C Vo j:=by
 unfold setsByText;exact aB (yX<|aR e)
variable{C:Option (ae×Nat)->ao->Prop}{L:Nat}
def DY(a:iI j.heap VD S VU D)(b:D.fits S.size=V)(c:H.params.followText "set-order" = aA)(d:(!D.plain&&decide (S.size>1))=aA)(e:D.led=V)(h:aS.below D.place WB=g)(p:C (match S[g]?,D.place[g]? with|some (_,f),Z r=>Z (f,r+1)|_,_=>X) j):wpAny (aO Vs H) O (mQ VD WB L VU) C Vo j:=by
 let⟨@n,i,m,k⟩:=a;unfold mQ;refine aB (kO i k b ?_);dsimp only;refine aB (vX ?_);rw[c,aJ da];show wpAny _ _ (if (!D.plain&&decide (S.size>1))=V then _ else _) _ _ _;rw[d,aJ da];show wpAny _ _ ((if (!D.led && !S.isEmpty)=V then (unsupported "set:maker-not-led" : dD Unit) else pure ()) >>= _) _ _ _;rw[e];refine aB (m:=pure ()) (aR ?_);rw[h];exact aR p
def A7(f:iI j.heap VD S VU D)(a:D.fits S.size=V)(b:H.params.followText "set-order" = V)(p:C (((jv (H.params.setOrder VD VU) S)[L]?).map λd=>(d.2,WB)) j):wpAny (aO Vs H) O (mQ VD WB L VU) C Vo j:=by
 let⟨@n,c,g,e⟩:=f;unfold mQ;refine aB (kO c e a ?_);dsimp only;refine aB (vX ?_);rw[b,aF rfl,aJ ↥0];unfold setWalk;refine aB (aB<|kO c e a ?_);dsimp only;refine aB (vX ?_);rw[b,aF rfl];exact aB (yX<|aR<|aR p)
def zv{C:ae->ao->Prop}(a:gx j.heap y WK g VD x VU)(p:C (.ref y) j):wpAny (aO Vs H) O (nB<|.ref y) C Vo j:=by
 refine xb a.ty D3 (iR D3 a.ty QK ?_<|UC _);show wpAny _ _ (ret<|.ref y) _ _ j;exact aR ⟨_,rfl,"set_iterator",_,a.ty,rf.lookup,p⟩
def xB(a:Array Nat):Nat->Nat
 |0=>0
 |g+1=>a.getD g 0+1
theorem Dt{a:Array Nat}(s:dk a):∀{g:Nat},g<=a.size->aS.below a (xB a g)=g
 |0,_=>Uu s
 |g+1,e=>by
  have d:a[g]?=Z (a.getD g 0):=by simp[Array.getD,show g<a.size from e]
  exact Jf s d
def kV(S:Array (Int×ae)):List ae:=(S.toList.map (·.2))
def tp(S:Array (Int×ae)):(kV S).length=S.size:=by rw[kV,a8,df]
theorem JD(t:O.handled=X)(ne:VD≠y)(a:D.fits S.size=V)(k:H.params.followText "set-order" = aA)(l:(!D.plain&&decide (S.size>1))=aA)(m:D.led=V)(s:dk D.place):
  iK Vs H O y [y,VD] [y] (kV S).length (λg u=>(kV S)[g]?=Z u) (λg e=>gx e y (.int (xB D.place g) 0) g VD S.size VU/\iI e VD S VU D) where
 sub:=λc v=>by
  have:c=y:=by simpa using v
  simp[this]
 frame:=λg e Vk Y q=>⟨Y.1.go (q y ↥0),Y.2.go (q VD ↥0)⟩
 item:=λg j C Vo Vl Y b=>by
  rw[tp]at Vl;have w:D.place.size=S.size:=by
   simp only[aS.fits,cT,jm]at a;exact a.1
  have r:S[g]?=Z S[g]:=jJ Vl;have x:D.place[g]?=Z (D.place.getD g 0):=by simp[Array.getD,show g<D.place.size by lia]
  have z:(kV S)[g]?=Z S[g].2:=by rw[kV,d3,eE,r];rfl
  refine Gd (next:=xB D.place (g+1)) (f:=S[g].2) Y.1 Y.2 a rfl (λA B p=>DY Y.2 a k l m (Dt s ⋯) ?_) λVk h c=>b _ Vk j.toks z ⟨h,Y.2.go λn d=>c.extBut VD n ne d⟩ λo n i d=>c.extBut o n ⇑i d;rw[r,x];exact p
 done:=λj C Vo Y b=>by
  rw[tp]at Y;have w:D.place.size=S.size:=by
   simp only[aS.fits,cT,jm]at a;exact a.1
  refine Bd t Y.1 Y.2 a rfl (λA B p=>DY Y.2 a k l m (Dt s ⋯) ?_) λVk c=>b Vk j.toks λo n i d=>c o n ⇑i d;rw[AB (bD _)];exact p
 self:=λg j C Vo Y b=>zv Y.1 b
theorem Qj(m:O.handled=X)(ne:VD≠y)(b:D.fits S.size=V)(k:H.params.followText "set-order" = V):
  iK Vs H O y [y,VD] [y] (kV<|jv (H.params.setOrder VD VU) S).length (λg u=>(kV<|jv (H.params.setOrder VD VU) S)[g]?=Z u) (λg e=>gx e y (.int (0:Nat) 0) g VD S.size VU/\iI e VD S VU D) where
 sub:=λc r=>by
  have:c=y:=by simpa using r
  simp[this]
 frame:=λg e Vk Y q=>⟨Y.1.go (q y ↥0),Y.2.go (q VD ↥0)⟩
 item:=λg j C Vo Vl Y a=>by
  rw[tp]at Vl;have l:(jv (H.params.setOrder VD VU) S)[g]?=Z (jv (H.params.setOrder VD VU) S)[g]:=jJ Vl;have s:(kV<|jv (H.params.setOrder VD VU) S)[g]?=Z (jv (H.params.setOrder VD VU) S)[g].2:=by rw[kV,d3,eE,l];rfl
  refine Gd (next:=0) (f:=(jv (H.params.setOrder VD VU) S)[g].2) Y.1 Y.2 b rfl (λt v p=>A7 Y.2 b k ?_) λVk h c=>a _ Vk j.toks s ⟨h,Y.2.go λn d=>c.extBut VD n ne d⟩ λo n i d=>c.extBut o n ⇑i d;rw[l];exact p
 done:=λj C Vo Y a=>by
  rw[tp]at Y;refine Bd m Y.1 Y.2 b rfl (λt v p=>A7 Y.2 b k ?_) λVk c=>a Vk j.toks λo n i d=>c o n ⇑i d;rw[AB (bD _)];exact p
 self:=λg j C Vo Y a=>zv Y.1 a
def nV(Vw:List Nat):List ae:=(Vw.map λ(g:Nat)=>fq g)
def ks(S:Array (Int×ae))(Vw:List Nat):List ae:=(Vw.filterMap λg=>S[g]?.map (·.2))
theorem GR{S:Array (Int×ae)}:∀{Vw:List Nat},(∀m∈Vw,m<S.size)->∀(g:Nat) (e:g<Vw.length),∃f,S[Vw[g]]?=Z f/\(ks S Vw)[g]?=Z f.2
 |[],_,g,e=>by cases e
 |m::Vw,a,g,e=>by
  have b:m<S.size:=a m (.head _);have d:S[m]?=Z S[m]:=jJ b;have h:ks S (m::Vw)=S[m].2::ks S Vw:=by rw[ks,w0 (b:=S[m].2) (by rw[d];rfl)];rfl
  rw[h];cases g with
  |zero=>exact⟨S[m],d,rfl⟩
  |succ g=>
   let⟨@f,t,A⟩:=GR (λm e=>a m<|.tail _ e) g (x5 e);exact⟨f,t,A⟩
theorem w4{S:Array (Int×ae)}:∀{Vw:List Nat},(∀m∈Vw,m<S.size)->(ks S Vw).length=Vw.length
 |[],_=>rfl
 |m::Vw,a=>by
  have b:m<S.size:=a m (.head _);have d:S[m]?=Z S[m]:=jJ b;rw[ks,w0 (b:=S[m].2) (by rw[d];rfl),dn,dn];exact congrArg (·+1) (w4 λm e=>a m<|.tail _ e)
theorem Sv(r:O.handled=X)(ne:VD≠y)(v:Wt≠y)(p:D.fits S.size=V)(i:∀m∈Vw,m<S.size):
  iK Vs H O y [y,VD,Wt] [y] (ks S Vw).length (λg u=>(ks S Vw)[g]?=Z u) (λg e=>gx e y (.ref Wt) g VD S.size VU/\iI e VD S VU D/\∃n,e.get? Wt=Z n/\n.data=.seq (nV Vw).toArray Wu) where
 sub:=λc w=>by
  have:c=y:=by simpa using w
  simp[this]
 frame:=λg e Vk Y q=>⟨Y.1.go (q y ↥0),Y.2.1.go (q VD ↥0),let ⟨n,d,s⟩:=Y.2.2;⟨n,q Wt ↥0 n d,s⟩⟩
 item:=λg j C Vo Vl Y a=>by
  let@⟨k,b,⟨@n,d,s⟩⟩:=Y;rw[w4 i]at Vl;let⟨@f,t,A⟩:=GR i g Vl;refine Lh (f:=f) (b:=Vw[g]) (Vq:=0) k b p rfl d s ?_ t λVk h c=>a _ Vk j.toks A ⟨h,b.go λn d=>c.extBut VD n ne d,n,c.extBut Wt n v d,s⟩ λo n l d=>c.extBut o n ⇑l d;rw[uv,nV,d3,dN Vl];rfl
 done:=λj C Vo Y a=>by
  let@⟨k,b,⟨@n,d,s⟩⟩:=Y;refine Q3 r k b p rfl d s ?_ λVk c=>a Vk j.toks λo n l d=>c o n ⇑l d;rw[uv,nV,d3,rW (by rw[w4 i];exact bD _)];rfl
 self:=λg j C Vo Y a=>zv Y.1 a
end
section
variable{Vs:bE}{H:bg}{O:bq}{Vo:ae->ao->Prop}{j:ao}
def QM{s:aj}{C:Bool->ao->Prop}(a:j.TypeIs (.ref s) "set")(e:C aA j):wpAny (aO Vs H) O (bH.List.listLengthHint<|.ref s) C Vo j:=by
 unfold bH.List.listLengthHint;refine aB (te a PySem.F.slot_set_len.lookup ?_);generalize d:("set.__len__" : String)=f
 wp_delta
 rw[show splitId f=Z ("set","__len__") from by subst d;decide +kernel];subst d;refine aB (uo (T := "set") (b:=V) a (by rw[sV];kernel_rfl) ?_);refine xX (λb=>absurd b ∅) (λ_=>?_);refine xX (λ_=>?_) (λb=>absurd (by decide +kernel) b);refine aB (mE a ?_);exact aR e
def IW(a:Vw.Perm (range S.size)):ks S Vw=(Vw.filterMap λg=>S[g]?).map (·.2)/\(Vw.filterMap λg=>S[g]?).Perm S.toList:=by
 refine⟨?_,(a.filterMap _).trans (by rw[Cw])⟩;rw[C8];rfl
end
def TX{Wm:Type}{F:VM->Wm}:∀{b I:List Wm},b.Perm I->∀Q:List VM,Q.map F=I->∃a:List VM,a.Perm Q/\a.map F=b:=by
 intro b I m;induction m with
 |nil=>intro Q d;cases List.map_eq_nil_iff.mp d;exact⟨[],.nil,rfl⟩
 |cons f m j=>
  intro Q d;let⟨h,@s,rfl,rfl,e⟩:=Ar.mp d;let⟨@a,g,Wj⟩:=j s e;exact⟨h::a,g.cons h,by rw[b4,Wj]⟩
 |swap f z I=>
  intro Q d;let⟨h,@s,rfl,rfl,e⟩:=Ar.mp d;let⟨c,@i,rfl,rfl,k⟩:=Ar.mp e;exact⟨c::h::i,.swap h c i,by rw[b4,b4,k]⟩
 |trans g Wj l n=>
  intro Q d;let⟨@o,p,q⟩:=n Q d;let⟨@r,t,u⟩:=l o q;exact⟨r,t.trans p,u⟩
theorem Bg{H:bg}{Vz:List aa->aj->Prop}:∀Q:List (List aa×Int×ae),(∀i∈Q,v7 H Vz i)->∃a:List (List aa×aj),Q.map (λi=>i.2.2)=a.map (λi=>ae.ref i.2)/\a.map (·.1)=Q.map (·.1)/\∀i∈a,Vz i.1 i.2
 |[],_=>⟨[],rfl,rfl,λ_ e=>(fW e).elim⟩
 |i::Q,e=>by
  let⟨@c,d,h,f⟩:=e i (.head _);let⟨@a,cp,cv,de⟩:=Bg Q λi g=>e i (.tail _ g);refine⟨(i.1,c)::a,by rw[b4,b4,cp,d],by rw[b4,b4,cv],λz b=>?_⟩;rcases cm.mp b with rfl|b
  ·exact f
  ·exact de z b
section
variable{Vs:bE}{H:bg}{Vz:List aa->aj->Prop}{O:bq}{Vo:ae->ao->Prop}{j:ao}
variable{P:List (List aa)}
def RT{C:ae->ao->Prop}(r:O.handled=X)(L:fQ H Vz j.heap VD (h4 H) P)(w:P.length<=300)(e:∀(t:a4) (v:_) (y:aj) (cg:List aj) (Vj:List ae) (a:List (List aa×aj)) (a6:Nat->a4->Prop),(∀c n,j.heap.get? c=Z n->t.get? c=Z n)->j.heap.objs.size<=y->(∀c∈cg,c=VD\/j.heap.objs.size<=c)->
   iK Vs H O y cg [y] Vj.length (λg u=>Vj[g]?=Z u) a6->a6 0 t->Vj=a.map (λi=>ae.ref i.2)->(a.map (·.1)).Perm P->(∀i∈a,Vz i.1 i.2)->C (.ref y) {j with heap:=t,drawn:=v}):
  wpAny (aO Vs H) O (nB<|.ref VD) C Vo j:=by
 let⟨n,S,VU,@D,f,x,h,k⟩:=L;have ty:j.TypeIs (.ref VD) "set" := ⟨n,f,x.1⟩;have z:VD<j.heap.objs.size:=cA f;have M:S.size<=sizeLine:=by rw[k.num];exact dc w ∅
 have A:∀I:List (Int×ae),I.Perm S.toList->∃a:List (List aa×aj),I.map (·.2)=a.map (λi=>ae.ref i.2)/\(a.map (·.1)).Perm P/\∀i∈a,Vz i.1 i.2:=λI aZ=>by
  let⟨@Q,R,T,U⟩:=k.qi;let⟨@al,B,Wj⟩:=TX aZ Q R;let⟨@a,cp,cv,de⟩:=Bg (H:=H) (Vz:=Vz) al λi w=>U i (B.mem_iff.mp w);refine⟨a,?_,?_,de⟩
  ·rw[<-Wj,fl];exact cp
  ·rw[cv];exact (B.map _).trans T
 refine xb ty A4 (iR A4 ty Kj ?i<|PySem.F.args_set_iter_1 _)
 case i=>
  unfold bH.«frozenset.__iter__» bH.Frozenset.slot0 bH.Frozenset.addrOf bH.Frozenset.sizeOf;refine aB (aB<|aR<|aR ?_);refine aB (aB<|r8 f h k.fit<|aR ?_);refine aB ?_;unfold setDrawn;refine aB (kO f h k.fit ?_);dsimp only;refine aB (vX<|aR ?_);have am:H.params.followText "set-order" = V\/(!D.plain&&decide (S.size>1))=aA->
    wpAny (aO Vs H) O.in1 (do let VU <-setEpoch VD;let s <-newFields "set_iterator" [fq 0,fq 0,.ref VD,fq S.size,fq VU];ret s) (λfin Vm=>∃s,fin=PySem.Fin.done (.ret s)/\∃E p,Vm.TypeIs s E/\yd (.type E) "__next__" = pure (Z p)/\C s Vm) Vo j:=by
   intro an;refine aB (Cy f h k.fit<|aB<|hp<|aR ⟨_,rfl,"set_iterator",_,⟨_,dM _ rfl,rfl⟩,rf.lookup,?_⟩);have cI:∀c n,j.heap.get? c=Z n->(j.heap.push {cls:=.type "set_iterator",dict:=X,data:=.fields [fq 0,fq 0,.ref VD,fq S.size,fq VU].toArray}).get? c=Z n:=λc n d=>cG _ d;have G:gx (j.heap.push {cls:=.type "set_iterator",dict:=X,data:=.fields [fq 0,fq 0,.ref VD,fq S.size,fq VU].toArray}) j.heap.objs.size (.int (0:Nat) 0) 0 VD S.size VU:=⟨_,dM _ rfl,rfl,rfl⟩;have J:iI (j.heap.push {cls:=.type "set_iterator",dict:=X,data:=.fields [fq 0,fq 0,.ref VD,fq S.size,fq VU].toArray}) VD S VU D:=⟨n,cI _ _ f,x,h⟩;have cg:∀c∈[j.heap.objs.size,VD],c=VD\/j.heap.objs.size<=c:=λc b=>by
    rcases cm.mp b with rfl|b
    ·exact .inr (bD _)
    ·exact .inl (cb.mp b)
   cases o:H.params.followText "set-order" with
   |true=>
    have q:=PW (H.params.setOrder VD VU) S;let⟨@a,cp,cv,de⟩:=A _ q;exact e _ j.drawn _ _ _ _ _ cI (bD _) cg (Qj r (c0 z) k.fit o) ⟨G,J⟩ cp cv de
   |false=>
    have ap:=an.resolve_left (by rw[o];exact da);let⟨@a,cp,cv,de⟩:=A _ (.refl _);exact e _ j.drawn _ _ _ _ _ cI (bD _) cg (JD r (c0 z) k.fit o ap (by rw[k.tab.led,h4,o];rfl) k.tab.rise) ⟨G,J⟩ cp cv de
  show wpAny _ _ (if (!H.params.followText "set-order" && (!D.plain&&decide (S.size>1)))=V then _ else _) _ _ _;cases hd:(!H.params.followText "set-order" && (!D.plain&&decide (S.size>1))) with
  |false=>
   rw[aJ da];refine aB (m:=pure (fq 0)) (aR<|am ?_);cases o:H.params.followText "set-order" with
   |true=>exact .inl rfl
   |false=>rw[o]at hd;exact .inr hd
  |true=>
   rw[aF rfl];refine aB (Ha S.size (range S.size) j _ j1 λv Vw q=>?_);have as:∀m∈Vw,m<S.size:=λm e=>gI.mp (q.mem_iff.mp e);have a1:Vw.length=S.size:=by rw[q.length_eq,j1]
   refine aB (m:=newObj (.type "tuple") (.seq (nV Vw).toArray)) (hp ?_ (show (nV Vw).toArray.size<=sizeLine by rw[cN,nV,a8,a1];exact M));refine aB (Cy (cG _ f) h k.fit<|aB<|hp<|aR ⟨_,rfl,"set_iterator",_,⟨_,dM _ rfl,rfl⟩,rf.lookup,?_⟩);let@⟨a2,bd⟩:=IW q;let⟨@a,cp,cv,de⟩:=A _ bd;have fe:({j with heap:=j.heap.push {cls:=.type "tuple",dict:=X,data:=.seq (nV Vw).toArray},drawn:=v}:ao).heap.objs.size=j.heap.objs.size+1:=jz ..;refine e _ v _ [_,VD,j.heap.objs.size] (ks S Vw) a _ (λc n d=>cG _<|cG _ d) ?_ ?_ (Sv (VU:=VU) (D:=D) (Wu:=0) r ?_ ?_ k.fit as) ⟨⟨_,dM _ rfl,rfl,rfl⟩,⟨n,cG _<|cG _ f,x,h⟩,⟨_,cG _<|dM _ rfl,rfl⟩⟩ (a2.trans cp) cv de
   ·exact nc (by rw[jz];exact l7 _)
   ·intro c b;rcases cm.mp b with rfl|b
    ·exact .inr (by rw[jz];exact tr _)
    ·rcases cm.mp b with rfl|b
     ·exact .inl rfl
     ·exact .inr (by rw[cb.mp b];exact bD _)
   ·rw[jz];exact c0 (Nat.lt_succ_of_lt z)
   ·rw[jz];exact c0 (l7 _)
def Nv{C:List ae->ao->Prop}(al:O.handled=X)(u:fQ H Vz j.heap VD (h4 H) P)(w:P.length<=300)(e:∀(Vk:a4) (Vq:Nat) (v:_) (a:List (List aa×aj)),(∀c n,j.heap.get? c=Z n->Vk.get? c=Z n)->(a.map (·.1)).Perm P->(∀i∈a,Vz i.1 i.2)->C (a.map λi=>ae.ref i.2) {j with heap:=Vk,toks:=Vq,drawn:=v}):
  wpAny (aO Vs H) O (collect<|.ref VD) C Vo j:=by
 have x:VD<j.heap.objs.size:=let ⟨_,_,_,_,d,_⟩:=u;cA d
 unfold collect;refine aB (FR<|jN entry_proto_collect' ?_);rw[k6 PySem.F.plain_proto_collect _];show wpAny _ O.in1 (qa [] >>= λI=>again<|.builtin "list.__iadd__" ⟨[I,.ref VD],[]⟩) _ _ j;refine aB (hp ?_);refine aR ⟨jQ HU _,jN entry_list_iadd' ?_⟩;rw[k6 HU _];generalize z:j.heap.push {cls:=.type "list",dict:=X,data:=.seq ([]:List ae).toArray}=Vt;have B:∀c n,j.heap.get? c=Z n->Vt.get? c=Z n:=λc n d=>by rw[<-z];exact cG _ d
 have D:Vt.get? j.heap.objs.size=Z {cls:=.type "list",dict:=X,data:=.seq #[]}:=by rw[<-z];exact dM _ rfl
 have E:j.heap.objs.size<Vt.objs.size:=cA D;have G:fQ H Vz Vt VD (h4 H) P:=u.at λn d=>B VD n d;have ty:ao.TypeIs {j with heap:=Vt} (.ref VD) "set" := let ⟨n,_,_,_,d,f,_⟩:=G;⟨n,d,f.1⟩
 show wpAny _ O.in1 (bH.List.listExtendWith (.ref j.heap.objs.size) (.ref VD)<|.ref j.heap.objs.size) _ _ _;unfold bH.List.listExtendWith;refine aB (mE (T := "set") ty ?_);have t:bH.List.listSameRef (.ref j.heap.objs.size) (.ref VD)=aA:=by simp[bH.List.listSameRef,me x]
 have A:(ae.type "set" == ae.type "list")=aA:=by decide
 have am:(ae.type "set" == ae.type "tuple")=aA:=by decide
 simp only[t,A,am,Bool.or_false,hi,fN];refine aB (RT (j:={j with heap:=Vt}) al G w λA v y cg Vj a a6 l fe an W Y h8 VN J=>?_);have ap:Vj.length<=sizeLine:=by rw[h8,a8,<-a8 (f:=(·.1)),VN.length_eq];exact dc w ∅
 have L:j.heap.objs.size∉cg:=λh=>by
  rcases an _ h with d|d
  ·exact absurd d (me x)
  ·exact absurd E (qm.mpr d)
 have m:A.get? j.heap.objs.size=Z {cls:=.type "list",dict:=X,data:=.seq #[]}:=l _ _ D;have as:ao.TypeIs {j with heap:=A,drawn:=v} (.ref VD) "set" := let ⟨n,d,o⟩:=ty;⟨n,l _ _ d,o⟩
 have Q:∀(b:a4) (o:Nat) (Vp:qf->ao->Prop),a6 0 b->(∀c n,c≠j.heap.objs.size->A.get? c=Z n->b.get? c=Z n)->b.get? j.heap.objs.size=Z {cls:=.type "list",dict:=X,data:=.seq #[] o}->
   (∀(Vk:a4) (Vq:Nat) (V9:Nat),(∀c n,j.heap.get? c=Z n->Vk.get? c=Z n)->Vk.get? j.heap.objs.size=Z {cls:=.type "list",dict:=X,data:=.seq Vj.toArray V9}->Vp (.ok<|.ret<|.ref j.heap.objs.size) {j with heap:=Vk,toks:=Vq,drawn:=v})->
   codeAny (aO Vs H) O (.builtin "list.extend.loop" ⟨[.ref j.heap.objs.size,.ref y,.ref j.heap.objs.size],[]⟩) Vp {j with heap:=b,drawn:=v}:=λb o Vp Y cI a1 a2=>
  codeAny_extend_loopS W.toS ap j.heap.objs.size L (.ref j.heap.objs.size) Vj.length 0 _ #[] o rfl (hl _) Y a1 (ItemsOf.nil _) λVm p V9 h M R=>by
   rw[show Vm={j with heap:=Vm.heap,toks:=Vm.toks,drawn:=v} from by let⟨N,bd,be,bi,N⟩:=h;cases Vm;cases bd;cases be;cases bi;rfl];have bm:p=Vj.toArray:=by
    apply FV.mp;apply wM
    ·rw[df];exact R.1
    ·intro g bn bs;have:=R.2 g p.toList[g] (by rw[<-eE];exact dN bn);have this:Vj[g]?=Z p.toList[g]:=this;rw[dN bs]at this;exact (Option.some.inj this).symm
   rw[bm]at M;refine a2 Vm.heap Vm.toks V9 (λc n d=>h.heap c n (λq=>?_)<|cI c n (c0<|cA d)<|l c n<|B c n d) M;rcases cm.mp q with bv|q
   ·exact absurd (cA d) (by rw[bv];exact iM _)
   ·have S:=cA d;rw[cb.mp q]at S;have:j.heap.objs.size<=y:=dc (nc E) fe;exact absurd S (qm.mpr this)
 refine aB (f9<|QM (j:={j with heap:=A,drawn:=v}) as ?_);refine xX (λ_=>?_) (λ_=>aR ⟨jQ CC _,Q _ 0 _ Y (λc n N d=>d) m λVk Vq V9 r s=>aB (zB s (aR (by rw[h8];exact e Vk Vq v a r VN J)))⟩);refine aB (j9 ?_);refine aB ?_;show wpAny _ _ (ub j.heap.objs.size (·.push .none) >>= λ_=>ub j.heap.objs.size (·.pop)) _ _ _;refine aB (rb (s:={j with heap:=A,drawn:=v}) m rfl ?_);have T:=lE (ba.mapSeq (·.push ae.none)) m rfl;refine rb (hz:=by seq_fits) T rfl ?_;have ca:=lE (ba.mapSeq (·.pop)) T rfl;refine aR ⟨jQ CC _,Q _ _ _ ?_ (λc n k d=>?_) ca λVk Vq V9 r s=>aB (zB s (aR (by rw[h8];exact e Vk Vq v a r VN J)))⟩
 ·refine W.frame 0 _ _ Y λc k n d=>?_;have U:c≠j.heap.objs.size:=λe=>L (e ▸ k);exact (ip _ _<|eZ U).trans ((ip _ _<|eZ U).trans d)
 ·exact (ip _ _<|eZ k).trans ((ip _ _<|eZ k).trans d)
end
end L2
namespace L2
open Spec PyProof.Rows PySem.W
section
variable{x:Nat}{Q:Nat->Int}{a:Nat->Nat->(Bool->ao->Prop)->ao->Prop}
def bp(Q:Nat->Int)(m:Array Nat)(g:Nat):Int:=(Q (m.getD g 0))
def ia(Q:Nat->Int)(m:Array Nat)(l:Nat):Prop:=(∀g r,g<=r->r<l->bp Q m g<=bp Q m r)
def fY(x:Nat)(Q:Nat->Int)(a:Nat->Nat->(Bool->ao->Prop)->ao->Prop)(j:ao):Prop:=(∀g r ab,g<x->r<x->ab (decide (Q g<Q r)) j->a g r ab j)
def c5(x:Nat)(m:Array Nat):Prop:=(m.toList.Perm (range x))
variable{m:Array Nat}
def c5.size(e:c5 x m):m.size=x:=by
 have:=e.length_eq;simpa using this
def c5.lt(e:c5 x m){g:Nat}(Vl:g<x):m.getD g 0<x:=by
 have Vy:=e.size;have d:m.getD g 0=m[g]:=by simp[Array.getD,Vy,Vl]
 rw[d];have:m[g]∈m.toList:=by simp
 exact gI.mp (e.mem_iff.mp this)
def c5.ne(e:c5 x m)(inj:∀g r,g<x->r<x->Q g=Q r->g=r){g r:Nat}(i:g<r)(a:r<x):bp Q m g≠bp Q m r:=by
 intro d;have Vy:=e.size;have b:=inj _ _ (e.lt (by omega)) (e.lt a) d;have c:m.getD g 0=m[g]:=by simp[Array.getD,Vy,show g<x by omega]
 have f:m.getD r 0=m[r]:=by simp[Array.getD,Vy,a]
 rw[c,f]at b;have aq:m.toList.Nodup:=e.nodup_iff.mpr vN;have h:m.toList[g]'(by simpa [Vy] using (show g<x by omega))=m.toList[r]'(by simpa [Vy] using a):=by simpa using b
 have:=(yv aq).mp h;omega
def mN{p:Array Nat}{g r:Nat}(d:m[g]?=p[r]?):bp Q m g=bp Q p r:=by
 unfold bp;rw[Gw,Gw,d]
theorem c5.rev(e:c5 x m)(g r:Nat):c5 x (my m g r):=(Bo.mp<|mirror_perm m g r _).trans e
theorem c5.Sd(e:c5 x m)(g r:Nat):c5 x (q8 m g r):=(Bo.mp<|bubble_perm m g r).trans e
end
section
variable{Vs:bE}{H:bg}{O:bq}{Vo:ae->ao->Prop}{VO:gR}{Vr:Array bA}{Q:Nat->Int}{x:Nat}{j:ao}
def qD:Bool->bA->Array bA->Nat->Nat->Nat->StateT bL dD (Option Nat):=(sortPriv% PySem.Builtin.gallop)
def td(a:fY x Q (fo Vs H O VO Vr) j){g r:Nat}(Vl:g<x)(b:r<x){Y:bL}(c:kindOf Y=VO){C:Option Bool->bL->ao->Prop}(e:C (Z<|decide (Q g<Q r)) Y j):
  kasC (aO Vs H) O Vo (lt' (br Vr g)<|br Vr r) C Y j:=by
 rw[lt'_eq];apply bw;apply jV;have:=a g r (λo Vm=>Vm=j/\o=decide (Q g<Q r)) Vl b ⟨rfl,rfl⟩;unfold fo at this;rw[c];refine bw (oN<|tE<|hk this (λo Vm d=>?_) λ_ W f=>f.elim);let@⟨rfl,rfl⟩:=d;exact bt e
theorem g7{B Wm:Type}{ay:gc}{F:Nat->Wm->StateT B dD (ForInStep Wm)}{C:Wm->B->ao->Prop}(y:Nat->Wm->B->ao->Prop)(step:∀f o Y Vm,y f o Y Vm->kasC ay O Vo (F f o) (λs a b=>match s with | .yield V9=>y (f+1) V9 a b | .done V9=>C V9 a b) Y Vm):∀(l h:Nat) (o:Wm) (Y:B) (Vm:ao),(∀o Y Vm,y (h+l) o Y Vm->C o Y Vm)->y h o Y Vm->
   kasC ay O Vo (forIn (range' h l) o F) C Y Vm
 |0,h,o,Y,Vm,fin,e=>by
  show kasC ay O Vo (forIn ([]:List Nat) o F) C Y Vm;exact kasC_nil (fin o Y Vm e)
 |l+1,h,o,Y,Vm,fin,e=>by
  show kasC ay O Vo (forIn (h::range' (h+1) l) o F) C Y Vm;refine kasC_cons (hk (step h o Y Vm e) (λs b Vk=>?_) λ_ W d=>d);let⟨s,a⟩:=s;cases s with
  |done V9=>exact Vk
  |yield V9=>exact g7 y step l (h+1) V9 a b (λo Y Vm Vl=>fin o Y Vm (by rw[show h+(l+1)=h+1+l by lia];exact Vl)) Vk
def cS(Q:Nat->Int)(left:Bool)(q:Nat)(bT:Array Nat)(VB g:Nat):Bool:=(if left=V then decide (Q (bT.getD (VB+g) 0)<Q q) else !decide (Q q<Q (bT.getD (VB+g) 0)))
def A0(P:fY x Q (fo Vs H O VO Vr) j){left:Bool}{q:Nat}(R:q<x){bT:Array Nat}(al:∀g,g<bT.size->bT.getD g 0<x){VB l a:Nat}(as:VB+l<=bT.size)(am:a<l)(mono:∀g r,g<=r->r<l->cS Q left q bT VB r=V->cS Q left q bT VB g=V){Y:bL}(S:kindOf Y=VO){C:Option Nat->bL->ao->Prop}(e:∀s,s<=l->(∀g,g<s->cS Q left q bT VB g=V)->(∀g,s<=g->g<l->cS Q left q bT VB g=aA)->C (Z s) Y j):
  kasC (aO Vs H) O Vo (qD left (br Vr q) (bT.map<|br Vr) VB l a) C Y j:=by
 have an:∀g,g<l->(bT.map<|br Vr)[VB+g]?=Z (br Vr<|bT.getD (VB+g) 0):=λg Vl=>by
  have:VB+g<bT.size:=⋯
  simp[Array.getD,this]
 have ask:∀g,g<l->∀N:Option Bool->bL->ao->Prop,N (Z<|cS Q left q bT VB g) Y j->
   kasC (aO Vs H) O Vo (do let f <-elem' (bT.map<|br Vr) (VB+g);if left=V then lt' f (br Vr q) else do let s <-lt' (br Vr q) f;pure (s.map λf=>!f)) N Y j:=λg Vl N I=>by
  rw[t9,an g Vl];apply bw;apply bt;have T:=al (VB+g) ⋯;unfold cS at I;cases left with
  |true=>
   rw[aF rfl]at I ⊢;exact td P T R S I
  |false=>
   rw[aJ da]at I ⊢;exact bw (td P R T S<|bt I)
 unfold qD;with_unfolding_all refine bw ?_;refine ask a am _ ?_;dsimp only;cases U:cS Q left q bT VB a with
 |true=>
  rw[aF rfl];apply bw;apply fZ;have F:∀last b,last<b->a+last<l->cS Q left q bT VB (a+last)=V->(b >= l-a\/cS Q left q bT VB (a+b)=aA)->
    a+last+1<=a+min b (l-a)/\a+min b (l-a)<=l/\(∀g,g<a+last+1->cS Q left q bT VB g=V)/\(∀g,a+min b (l-a)<=g->g<l->cS Q left q bT VB g=aA)/\a+min b (l-a)-(a+last+1)<=l-0:=λlast b ap Wt L E=>by
   refine⟨⋯,⋯,λg Vl=>mono g (a+last) ⋯ Wt L,λg t A=>?_,⋯⟩;rcases E with E|E
   ·lia
   ·cases w:cS Q left q bT VB g with
    |false=>rfl
    |true=>rw[mono (a+b) g ⋯ A w]at E;cases E
  refine g7 (λf o m Vm=>m=Y/\Vm=j/\∃last b,o=(X,last,b)/\last<b/\f<b/\a+last<l/\cS Q left q bT VB (a+last)=V) ?_ _ 0 _ _ _ ?_ ⟨rfl,rfl,0,1,rfl,⋯,⋯,⋯,U⟩
  ·rintro f o m Vm ⟨n,p,last,b,rfl,t,A,i,k⟩;rw[n,p];dsimp only;by_cases G:b >= l-a
   ·rw[aF G];apply bt;dsimp only;have y:=F last b t i k (.inl G);apply bw;apply fZ;refine g7 (λf o m Vm=>m=Y/\Vm=j/\∃M Vl,o=(X,M,Vl)/\M<=Vl/\Vl<=l/\(∀g,g<M->cS Q left q bT VB g=V)/\(∀g,Vl<=g->g<l->cS Q left q bT VB g=aA)/\Vl-M<=l-f) ?_ _ 0 _ _ _ ?_ ⟨rfl,rfl,_,_,rfl,y⟩
    ·rintro f o m Vm ⟨n,p,M,Vl,rfl,t,A,i,k,z⟩;rw[n,p];dsimp only;by_cases v:M >= Vl
     ·rw[aF v];apply bt;dsimp only;have d:M=Vl:=⋯
      subst d;exact bt (e M A i k)
     ·rw[aJ v];have B:M<=M+(Vl-M)/2:=⋯
      have D:M+(Vl-M)/2<Vl:=⋯
      generalize M+(Vl-M)/2=mid at B D ⊢;refine bw (ask mid ⋯ _ ?_);dsimp only;cases u:cS Q left q bT VB mid with
      |true=>
       rw[aF rfl];exact bt ⟨rfl,rfl,mid+1,Vl,rfl,⋯,A,λg J=>mono g mid ⋯ ⋯ u,k,⋯⟩
      |false=>
       rw[aJ da];refine bt ⟨rfl,rfl,M,mid,rfl,⋯,⋯,i,λg h c=>?_,⋯⟩;cases w:cS Q left q bT VB g with
       |false=>rfl
       |true=>rw[mono mid g h c w]at u;cases u
    ·rintro o m Vm ⟨n,p,M,Vl,rfl,t,A,i,k,z⟩;rw[n,p];dsimp only;have d:M=Vl:=⋯
     subst d;exact bt (e M A i k)
   ·rw[aJ G];refine bw (ask (a+b) ⋯ _ ?_);dsimp only;cases u:cS Q left q bT VB (a+b) with
    |true=>
     simp only[qE,hi,fN];exact bt ⟨rfl,rfl,b,2*b+1,rfl,⋯,⋯,⋯,u⟩
    |false=>
     simp only[Bool.not_false,iQ];apply bt;dsimp only;have y:=F last b t i k (.inr u);apply bw;apply fZ;refine g7 (λf o m Vm=>m=Y/\Vm=j/\∃M Vl,o=(X,M,Vl)/\M<=Vl/\Vl<=l/\(∀g,g<M->cS Q left q bT VB g=V)/\(∀g,Vl<=g->g<l->cS Q left q bT VB g=aA)/\Vl-M<=l-f) ?_ _ 0 _ _ _ ?_ ⟨rfl,rfl,_,_,rfl,y⟩
     ·rintro f o m Vm ⟨n,p,M,Vl,rfl,t,A,i,k,z⟩;rw[n,p];dsimp only;by_cases v:M >= Vl
      ·rw[aF v];apply bt;dsimp only;have d:M=Vl:=⋯
       subst d;exact bt (e M A i k)
      ·rw[aJ v];have B:M<=M+(Vl-M)/2:=⋯
       have D:M+(Vl-M)/2<Vl:=⋯
       generalize M+(Vl-M)/2=mid at B D ⊢;refine bw (ask mid ⋯ _ ?_);dsimp only;cases u:cS Q left q bT VB mid with
       |true=>
        rw[aF rfl];exact bt ⟨rfl,rfl,mid+1,Vl,rfl,⋯,A,λg J=>mono g mid ⋯ ⋯ u,k,⋯⟩
       |false=>
        rw[aJ da];refine bt ⟨rfl,rfl,M,mid,rfl,⋯,⋯,i,λg h c=>?_,⋯⟩;cases w:cS Q left q bT VB g with
        |false=>rfl
        |true=>rw[mono mid g h c w]at u;cases u
     ·rintro o m Vm ⟨n,p,M,Vl,rfl,t,A,i,k,z⟩;rw[n,p];dsimp only;have d:M=Vl:=⋯
      subst d;exact bt (e M A i k)
  ·rintro o m Vm ⟨n,p,last,b,rfl,t,A,i,k⟩;rw[n,p];dsimp only;have y:=F last b t i k (.inl ⋯);apply bw;apply fZ;refine g7 (λf o m Vm=>m=Y/\Vm=j/\∃M Vl,o=(X,M,Vl)/\M<=Vl/\Vl<=l/\(∀g,g<M->cS Q left q bT VB g=V)/\(∀g,Vl<=g->g<l->cS Q left q bT VB g=aA)/\Vl-M<=l-f) ?_ _ 0 _ _ _ ?_ ⟨rfl,rfl,_,_,rfl,y⟩
   ·rintro f o m Vm ⟨n,p,M,Vl,rfl,t,A,i,k,z⟩;rw[n,p];dsimp only;by_cases v:M >= Vl
    ·rw[aF v];apply bt;dsimp only;have d:M=Vl:=⋯
     subst d;exact bt (e M A i k)
    ·rw[aJ v];have B:M<=M+(Vl-M)/2:=⋯
     have D:M+(Vl-M)/2<Vl:=⋯
     generalize M+(Vl-M)/2=mid at B D ⊢;refine bw (ask mid ⋯ _ ?_);dsimp only;cases u:cS Q left q bT VB mid with
     |true=>
      rw[aF rfl];exact bt ⟨rfl,rfl,mid+1,Vl,rfl,⋯,A,λg J=>mono g mid ⋯ ⋯ u,k,⋯⟩
     |false=>
      rw[aJ da];refine bt ⟨rfl,rfl,M,mid,rfl,⋯,⋯,i,λg h c=>?_,⋯⟩;cases w:cS Q left q bT VB g with
      |false=>rfl
      |true=>rw[mono mid g h c w]at u;cases u
   ·rintro o m Vm ⟨n,p,M,Vl,rfl,t,A,i,k,z⟩;rw[n,p];dsimp only;have d:M=Vl:=⋯
    subst d;exact bt (e M A i k)
 |false=>
  rw[aJ da];apply bw;apply fZ;have F:∀last b,last<b->last<=a->cS Q left q bT VB (a-last)=aA->(b >= a+1\/cS Q left q bT VB (a-b)=V)->
    a+1-min b (a+1)<=a-last/\a-last<=l/\(∀g,g<a+1-min b (a+1)->cS Q left q bT VB g=V)/\(∀g,a-last<=g->g<l->cS Q left q bT VB g=aA)/\a-last-(a+1-min b (a+1))<=l-0:=λlast b ap Wt L E=>by
   refine⟨⋯,⋯,λg Vl=>?_,λg t A=>?_,⋯⟩
   ·rcases E with E|E
    ·lia
    ·exact mono g (a-b) ⋯ ⋯ E
   ·cases w:cS Q left q bT VB g with
    |false=>rfl
    |true=>rw[mono (a-last) g ⋯ A w]at L;cases L
  refine g7 (λf o m Vm=>m=Y/\Vm=j/\∃last b,o=(X,last,b)/\last<b/\f<b/\last<=a/\cS Q left q bT VB (a-last)=aA) ?_ _ 0 _ _ _ ?_ ⟨rfl,rfl,0,1,rfl,⋯,⋯,⋯,U⟩
  ·rintro f o m Vm ⟨n,p,last,b,rfl,t,A,i,k⟩;rw[n,p];dsimp only;by_cases G:b >= a+1
   ·rw[aF G];apply bt;dsimp only;have y:=F last b t i k (.inl G);apply bw;apply fZ;refine g7 (λf o m Vm=>m=Y/\Vm=j/\∃M Vl,o=(X,M,Vl)/\M<=Vl/\Vl<=l/\(∀g,g<M->cS Q left q bT VB g=V)/\(∀g,Vl<=g->g<l->cS Q left q bT VB g=aA)/\Vl-M<=l-f) ?_ _ 0 _ _ _ ?_ ⟨rfl,rfl,_,_,rfl,y⟩
    ·rintro f o m Vm ⟨n,p,M,Vl,rfl,t,A,i,k,z⟩;rw[n,p];dsimp only;by_cases v:M >= Vl
     ·rw[aF v];apply bt;dsimp only;have d:M=Vl:=⋯
      subst d;exact bt (e M A i k)
     ·rw[aJ v];have B:M<=M+(Vl-M)/2:=⋯
      have D:M+(Vl-M)/2<Vl:=⋯
      generalize M+(Vl-M)/2=mid at B D ⊢;refine bw (ask mid ⋯ _ ?_);dsimp only;cases u:cS Q left q bT VB mid with
      |true=>
       rw[aF rfl];exact bt ⟨rfl,rfl,mid+1,Vl,rfl,⋯,A,λg J=>mono g mid ⋯ ⋯ u,k,⋯⟩
      |false=>
       rw[aJ da];refine bt ⟨rfl,rfl,M,mid,rfl,⋯,⋯,i,λg h c=>?_,⋯⟩;cases w:cS Q left q bT VB g with
       |false=>rfl
       |true=>rw[mono mid g h c w]at u;cases u
    ·rintro o m Vm ⟨n,p,M,Vl,rfl,t,A,i,k,z⟩;rw[n,p];dsimp only;have d:M=Vl:=⋯
     subst d;exact bt (e M A i k)
   ·rw[aJ G];refine bw (ask (a-b) ⋯ _ ?_);dsimp only;cases u:cS Q left q bT VB (a-b) with
    |false=>
     rw[aJ da];exact bt ⟨rfl,rfl,b,2*b+1,rfl,⋯,⋯,⋯,u⟩
    |true=>
     rw[aF rfl];apply bt;dsimp only;have y:=F last b t i k (.inr u);apply bw;apply fZ;refine g7 (λf o m Vm=>m=Y/\Vm=j/\∃M Vl,o=(X,M,Vl)/\M<=Vl/\Vl<=l/\(∀g,g<M->cS Q left q bT VB g=V)/\(∀g,Vl<=g->g<l->cS Q left q bT VB g=aA)/\Vl-M<=l-f) ?_ _ 0 _ _ _ ?_ ⟨rfl,rfl,_,_,rfl,y⟩
     ·rintro f o m Vm ⟨n,p,M,Vl,rfl,t,A,i,k,z⟩;rw[n,p];dsimp only;by_cases v:M >= Vl
      ·rw[aF v];apply bt;dsimp only;have d:M=Vl:=⋯
       subst d;exact bt (e M A i k)
      ·rw[aJ v];have B:M<=M+(Vl-M)/2:=⋯
       have D:M+(Vl-M)/2<Vl:=⋯
       generalize M+(Vl-M)/2=mid at B D ⊢;refine bw (ask mid ⋯ _ ?_);dsimp only;cases u:cS Q left q bT VB mid with
       |true=>
        rw[aF rfl];exact bt ⟨rfl,rfl,mid+1,Vl,rfl,⋯,A,λg J=>mono g mid ⋯ ⋯ u,k,⋯⟩
       |false=>
        rw[aJ da];refine bt ⟨rfl,rfl,M,mid,rfl,⋯,⋯,i,λg h c=>?_,⋯⟩;cases w:cS Q left q bT VB g with
        |false=>rfl
        |true=>rw[mono mid g h c w]at u;cases u
     ·rintro o m Vm ⟨n,p,M,Vl,rfl,t,A,i,k,z⟩;rw[n,p];dsimp only;have d:M=Vl:=⋯
      subst d;exact bt (e M A i k)
  ·rintro o m Vm ⟨n,p,last,b,rfl,t,A,i,k⟩;rw[n,p];dsimp only;have y:=F last b t i k (.inl ⋯);apply bw;apply fZ;refine g7 (λf o m Vm=>m=Y/\Vm=j/\∃M Vl,o=(X,M,Vl)/\M<=Vl/\Vl<=l/\(∀g,g<M->cS Q left q bT VB g=V)/\(∀g,Vl<=g->g<l->cS Q left q bT VB g=aA)/\Vl-M<=l-f) ?_ _ 0 _ _ _ ?_ ⟨rfl,rfl,_,_,rfl,y⟩
   ·rintro f o m Vm ⟨n,p,M,Vl,rfl,t,A,i,k,z⟩;rw[n,p];dsimp only;by_cases v:M >= Vl
    ·rw[aF v];apply bt;dsimp only;have d:M=Vl:=⋯
     subst d;exact bt (e M A i k)
    ·rw[aJ v];have B:M<=M+(Vl-M)/2:=⋯
     have D:M+(Vl-M)/2<Vl:=⋯
     generalize M+(Vl-M)/2=mid at B D ⊢;refine bw (ask mid ⋯ _ ?_);dsimp only;cases u:cS Q left q bT VB mid with
     |true=>
      rw[aF rfl];exact bt ⟨rfl,rfl,mid+1,Vl,rfl,⋯,A,λg J=>mono g mid ⋯ ⋯ u,k,⋯⟩
     |false=>
      rw[aJ da];refine bt ⟨rfl,rfl,M,mid,rfl,⋯,⋯,i,λg h c=>?_,⋯⟩;cases w:cS Q left q bT VB g with
      |false=>rfl
      |true=>rw[mono mid g h c w]at u;cases u
   ·rintro o m Vm ⟨n,p,M,Vl,rfl,t,A,i,k,z⟩;rw[n,p];dsimp only;have d:M=Vl:=⋯
    subst d;exact bt (e M A i k)
end
section
variable{Q:Nat->Int}
def cB(Q:Nat->Int)(I:List Nat):Prop:=(I.Pairwise λf z=>Q f<=Q z)
structure QP(Q:Nat->Int)(i u:List Nat)(k:List Nat)(a E:Nat):Prop where
 perm:k.Perm (i.take a++u.take E)
 aN:cB Q (k++i.drop a)
 cP:cB Q (k++u.drop E)
 bT:a+1<i.length
 kD:E<u.length
variable{I l:List Nat}
def fB:cB Q (I++l)↔cB Q I/\cB Q l/\∀f∈I,∀z∈l,Q f<=Q z:=DF
def o6(I:List Nat)(g q:Nat):I.take g++(I.drop g).take q=I.take (g+q):=by rw[List.take_add]
variable{i u k:List Nat}{a E:Nat}
def vU(q:Nat)(perm:k.Perm (i.take a++u.take E))(aN:cB Q (k++i.drop a))(cP:cB Q (k++u.drop E))(e:∀f∈(i.drop a).take q,∀z∈u.drop E,Q f<=Q z):
  (k++(i.drop a).take q).Perm (i.take (a+q)++u.take E)/\cB Q (k++(i.drop a).take q++i.drop (a+q))/\cB Q (k++(i.drop a).take q++u.drop E):=by
 refine⟨?_,?_,?_⟩
 ·rw[<-o6 i a q];refine (perm.append_right _).trans ?_;rw[bk,bk];exact dZ _ c6
 ·rw[bk,<-ox,fz];exact aN
 ·rw[bk];have c:=fB.mp aN;have d:=fB.mp cP;refine fB.mpr ⟨c.1,fB.mpr ⟨c.2.1.sublist<|rh _ _,d.2.1,e⟩,λf g z b=>?_⟩;rcases du.mp b with b|b
  ·exact c.2.2 f g z (oV b)
  ·exact d.2.2 f g z b
def z1(q:Nat)(perm:k.Perm (i.take a++u.take E))(aN:cB Q (k++i.drop a))(cP:cB Q (k++u.drop E))(e:∀f∈(u.drop E).take q,∀z∈i.drop a,Q f<=Q z):
  (k++(u.drop E).take q).Perm (i.take a++u.take (E+q))/\cB Q (k++(u.drop E).take q++i.drop a)/\cB Q (k++(u.drop E).take q++u.drop (E+q)):=by
 have:=vU (i:=u) (u:=i) q (perm.trans c6) cP aN e;exact⟨this.1.trans c6,this.2.2,this.2.1⟩
variable{g:Nat}
def jY(e:g<I.length):(I.drop g).take 1=[I.getD g 0]:=by
 rw[i6 e,cK,dN e];rfl
variable{z:Nat}
def jO(e:z∈I.drop g):∃r,g<=r/\r<I.length/\z=I.getD r 0:=by
 let⟨r,a,d⟩:=oT.mp e;have b:=a;rw[hc]at b;exact⟨g+r,⋯,⋯,by rw[<-d,ps];simp[List.getD,show g+r<I.length by lia]⟩
variable{q:Nat}
def qN(e:z∈(I.drop g).take q):∃r,r<q/\g+r<I.length/\z=I.getD (g+r) 0:=by
 let⟨r,a,d⟩:=oT.mp e;have b:=a;rw[gN,hc]at b;exact⟨r,by omega,by omega,by rw[<-d,u5,ps];simp[List.getD,show g+r<I.length by omega]⟩
def oM(e:cB Q I){g r:Nat}(b:g<=r)(a:r<I.length):Q (I.getD g 0)<=Q (I.getD r 0):=by
 rcases Nat.lt_or_eq_of_le b with c|rfl
 ·have:=n1.mp e g r ⋯ a c;simpa [List.getD,a,show g<I.length by lia] using this
 ·exact mU _
theorem Bt(e:cB Q (I++l)):cB Q l:=(fB.mp e).2.1
def pC{r:Nat}(e:cB Q (k++I.drop g))(a:g<=r)(b:r<=q)(c:q<I.length):Q (I.getD r 0)<=Q (I.getD q 0):=by
 have:=oM (Bt e) (g:=r-g) (r:=q-g) ⋯ (by rw[hc];lia);simpa [List.getD,m1,show g+(r-g)=r by lia,show g+(q-g)=q by lia] using this
def gT(Q:Nat->Int)(Vr:Array bA)(i u:List Nat)(out:Array bA):Prop:=(∃k:List Nat,out=(k.map<|br Vr).toArray/\k.Perm (i++u)/\cB Q k)
variable{Vr:Array bA}
def rE(perm:k.Perm (i.take a++u.take E))(aN:cB Q (k++i.drop a))(cP:cB Q (k++u.drop E))(b:E=u.length\/a=i.length):
  gT Q Vr i u ((k.map<|br Vr).toArray++(i.map<|br Vr).toArray.extract a (i.map<|br Vr).toArray.size++(u.map<|br Vr).toArray.extract E (u.map<|br Vr).toArray.size):=by
 refine⟨k++i.drop a++u.drop E,?_,?_,?_⟩
 ·apply km;simp[jq,zi]
 ·rw[bk];refine (perm.append_right _).trans ?_;have:(i.take a++u.take E++(i.drop a++u.drop E)).Perm ((i.take a++i.drop a)++(u.take E++u.drop E)):=by
   rw[bk,bk];refine dZ _ ?_;rw[<-bk,<-bk];exact e1 _ c6
  rw[fz,fz]at this;exact this
 ·rcases b with d|d
  ·rw[d,yj,bQ];exact aN
  ·rw[d,yj,bQ];exact cP
def uA(perm:k.Perm (i.take a++u.take E))(aN:cB Q (k++i.drop a))(cP:cB Q (k++u.drop E))(d:a+1=i.length)(aM:∀f∈u,Q f<=Q (i.getD (i.length-1) 0)):
  gT Q Vr i u ((k.map<|br Vr).toArray++(u.map<|br Vr).toArray.extract E (u.map<|br Vr).toArray.size++(i.map<|br Vr).toArray.extract a (i.map<|br Vr).toArray.size):=by
 refine⟨k++u.drop E++i.drop a,?_,?_,?_⟩
 ·apply km;simp[jq,zi]
 ·rw[bk];refine (perm.append_right _).trans ?_;have:(i.take a++u.take E++(u.drop E++i.drop a)).Perm ((i.take a++i.drop a)++(u.take E++u.drop E)):=by
   rw[bk,bk];refine dZ _ ?_;rw[<-bk];exact c6
  rw[fz,fz]at this;exact this
 ·refine fB.mpr ⟨cP,Bt aN,λf b z c=>?_⟩;rcases du.mp b with b|b
  ·exact (fB.mp aN).2.2 f b z c
  ·let⟨@r,t,A,rfl⟩:=jO c;have:r=i.length-1:=⋯
   rw[this];exact aM f (m3 b)
end
section
variable{Vs:bE}{H:bg}{O:bq}{Vo:ae->ao->Prop}{VO:gR}{Vr:Array bA}{Q:Nat->Int}{x:Nat}{j:ao}
def F9:Array bA->Array bA->StateT bL dD (Array bA):=(sortPriv% PySem.Builtin.mergeLo)
structure dz(s Y:bL):Prop where
 k:kindOf Y=kindOf s
 a:arrOf Y=arrOf s
 p:h1 Y=h1 s
 f:hQ Y=hQ s
def dz.refl(Y:bL):dz Y Y:=⟨rfl,rfl,rfl,rfl⟩
def hY{B VM:Type}{ay:gc}{l:StateT B dD VM}{C a:VM->B->ao->Prop}{Y:B}{Vm:ao}(e:kasC ay O Vo l a Y Vm)(L:∀h Y Vm,a h Y Vm->C h Y Vm):kasC ay O Vo l C Y Vm:=
 hk e (λs Vm f=>L s.1 s.2 Vm f) λ_ W d=>d
variable{I:List Nat}
def gv{g:Nat}(Vl:g<I.length){Y:bL}{C:bA->bL->ao->Prop}(e:C (br Vr<|I.getD g 0) Y j):kasC (aO Vs H) O Vo (elem' (I.map<|br Vr).toArray g) C Y j:=by
 rw[t9,show ((I.map<|br Vr).toArray)[g]?=Z (br Vr<|I.getD g 0) by simp[List.getD,Vl]];exact bt e
def jj(a:∀f∈I,f<x){g:Nat}(Vl:g<I.length):I.getD g 0<x:=by
 rw[cK,dN Vl];exact a _ (u0 Vl)
def lO(I:List Nat)(g:Nat):I.toArray.getD g 0=I.getD g 0:=by simp[Array.getD,List.getD];split<;>simp_all
def xa(b:fY x Q (fo Vs H O VO Vr) j){q:Nat}(d:q<x){I:List Nat}(i:∀f∈I,f<x){VB l a:Nat}(k:VB+l<=I.length)(m:a<l)(mono:∀g r,VB<=g->g<=r->r<VB+l->Q (I.getD g 0)<=Q (I.getD r 0)){Y:bL}(n:kindOf Y=VO){C:Option Nat->bL->ao->Prop}(e:∀s,s<=l->(∀g,VB<=g->g<VB+s->Q (I.getD g 0)<=Q q)->(∀g,VB+s<=g->g<VB+l->Q q<Q (I.getD g 0))->C (Z s) Y j):
  kasC (aO Vs H) O Vo (qD aA (br Vr q) (I.map<|br Vr).toArray VB l a) C Y j:=by
 rw[<-EH];refine A0 b d (λg Vl=>by rw[lO];exact jj i ⇑Vl) ⇑k m (λg r u v o=>?_) n λs p h c=>e s p (λg t A=>?_) (λg t A=>?_)
 ·simp only[cS,lO,hi,fN,vz,wN,wt]at o ⊢;have:=mono (VB+g) (VB+r) ⋯ ⋯ ⋯;lia
 ·have:=h (g-VB) ⋯;simp only[cS,lO,hi,fN,vz,wN,wt]at this
  rwa [show VB+(g-VB)=g by lia]at this
 ·have:=c (g-VB) ⋯ ⋯;simp only[cS,lO,hi,fN,Bool.not_eq_false',we]at this
  rwa [show VB+(g-VB)=g by lia]at this
def x4(b:fY x Q (fo Vs H O VO Vr) j){q:Nat}(d:q<x){I:List Nat}(i:∀f∈I,f<x){VB l a:Nat}(k:VB+l<=I.length)(m:a<l)(mono:∀g r,VB<=g->g<=r->r<VB+l->Q (I.getD g 0)<=Q (I.getD r 0)){Y:bL}(n:kindOf Y=VO){C:Option Nat->bL->ao->Prop}(e:∀s,s<=l->(∀g,VB<=g->g<VB+s->Q (I.getD g 0)<Q q)->(∀g,VB+s<=g->g<VB+l->Q q<=Q (I.getD g 0))->C (Z s) Y j):
  kasC (aO Vs H) O Vo (qD V (br Vr q) (I.map<|br Vr).toArray VB l a) C Y j:=by
 rw[<-EH];refine A0 b d (λg Vl=>by rw[lO];exact jj i ⇑Vl) ⇑k m (λg r u v o=>?_) n λs p h c=>e s p (λg t A=>?_) (λg t A=>?_)
 ·simp only[cS,lO,iQ,we]at o ⊢;have:=mono (VB+g) (VB+r) ⋯ ⋯ ⋯;lia
 ·have:=h (g-VB) ⋯;simp only[cS,lO,iQ,we]at this
  rwa [show VB+(g-VB)=g by lia]at this
 ·have:=c (g-VB) ⋯ ⋯;simp only[cS,lO,iQ,wN,wt]at this
  rwa [show VB+(g-VB)=g by lia]at this
def pn(k:List Nat)(z:Nat):(k.map<|br Vr).toArray.push (br Vr z)=((k++[z]).map<|br Vr).toArray:=by simp
def D7(k I:List Nat)(g q:Nat):(k.map<|br Vr).toArray++(I.map<|br Vr).toArray.extract g (g+q)=((k++(I.drop g).take q).map<|br Vr).toArray:=by
 apply km;simp[jq,jx,sN]
end
section
variable{Vs:bE}{H:bg}{O:bq}{Vo:ae->ao->Prop}{VO:gR}{Vr:Array bA}{Q:Nat->Int}{x:Nat}{j:ao}
def hV(Q:Nat->Int)(Vr:Array bA)(i u:List Nat)(out:Array bA)(a E:Nat):Prop:=(∃k:List Nat,out=(k.map<|br Vr).toArray/\QP Q i u k a E)
variable{B VM:Type}
def E_{ay:gc}{O:bq}{Vo:ae->ao->Prop}{o:Nat->Prop}{c:∀L,Decidable (o L)}{h Vz:Nat->StateT B dD VM}{C:VM->B->ao->Prop}{Y:B}{j:ao}(f:Nat->Nat)(a:∀L,h L=Vz (f L))(b:∀L,kasC ay O Vo (Vz L) C Y j):∀L,kasC ay O Vo (if o L then h L else Vz L) C Y j:=by
 intro L;rw[a];split
 ·exact b _
 ·exact b _
variable{o:Prop}
def tl{ay:gc}{O:bq}{Vo:ae->ao->Prop}{i:Decidable o}{a Wk:Array bA->Nat->StateT B dD VM}{C:VM->B->ao->Prop}{Y:B}{j:ao}(c d:Array bA->Nat->Prop)(b:∀n g,d n g->kasC ay O Vo (Wk n g) C Y j)(f:¬ o->∀n g,c n g->d n g)(h:(∀n g,d n g->kasC ay O Vo (Wk n g) C Y j)->o->∀n g,c n g->kasC ay O Vo (a n g) C Y j):∀n g,c n g->kasC ay O Vo (if o then a n g else Wk n g) C Y j:=λn g m=>
 if e:o then by rw[aF e];exact h b e n g m else by rw[aJ e];exact b n g (f e n g m)
def Bm{ay:gc}{O:bq}{Vo:ae->ao->Prop}{F:bL->bL}{C:PUnit->bL->ao->Prop}{s Y:bL}{j:ao}(Vy:dz s (F Y))(e:∀a,dz s a->C ⟨⟩ a j):kasC ay O Vo (modify F:StateT bL dD PUnit) C Y j:=kA (e _ Vy)
def rT(Q:Nat->Int)(Vr:Array bA)(i u:List Nat)(Y:bL)(j:ao): Option (Array bA)×Array bA×Nat×Nat×Nat->bL->ao->Prop:=(λo b Vm=>j=Vm/\dz Y b/\∃a m p s L,o=(Z a,m,p,s,L)/\gT Q Vr i u a)
def r7(Q:Nat->Int)(Vr:Array bA)(i u:List Nat)(Y:bL)(j:ao)(f:Nat):Option (Array bA)×Array bA×Nat×Nat×Nat->bL->ao->Prop:=(λo b Vm=>j=Vm/\dz Y b/\∃n a E L,o=(X,n,a,E,L)/\hV Q Vr i u n a E/\f+1<=a+E)
def ku(Q:Nat->Int)(Vr:Array bA)(i u:List Nat)(Y:bL)(j:ao)(f:Nat):Option (Array bA)×Array bA×Nat×Nat×Nat×Nat->bL->ao->Prop:=(λo d Vm=>j=Vm/\dz Y d/\((∃c m p s ac b,o=(Z c,m,p,s,ac,b)/\gT Q Vr i u c)\/∃n a E ac b,o=(X,n,a,E,ac,b)/\hV Q Vr i u n a E/\f+2<=a+E))
def qu(Q:Nat->Int)(Vr:Array bA)(i u:List Nat)(Y:bL)(j:ao)(f z:Nat):Option (Array bA)×Array bA×Nat×Nat×Nat×Nat->bL->ao->Prop:=(λo b Vm=>j=Vm/\dz Y b/\∃n a E ac c,o=(X,n,a,E,ac,c)/\hV Q Vr i u n a E/\f+1+z<=a+E)
def jh(Q:Nat->Int)(Vr:Array bA)(i u:List Nat)(Y:bL)(j:ao)(f:Nat):Option (Array bA)×Array bA×Nat×Nat×Nat×Nat×Nat->bL->ao->Prop:=(λo d Vm=>j=Vm/\dz Y d/\((∃c m p s L ac b,o=(Z c,m,p,s,L,ac,b)/\gT Q Vr i u c)\/∃n a E L ac b,o=(X,n,a,E,L,ac,b)/\hV Q Vr i u n a E/\f+2<=a+E))
def ra(Q:Nat->Int)(Vr:Array bA)(i u:List Nat)(Y:bL)(j:ao)(f z:Nat):Option (Array bA)×Array bA×Nat×Nat×Nat×Nat×Nat->bL->ao->Prop:=(λo b Vm=>j=Vm/\dz Y b/\∃n a E L ac c,o=(X,n,a,E,L,ac,c)/\hV Q Vr i u n a E/\f+2<=a+E)
def rT.a{Q:Nat->Int}{Vr:Array bA}{i u:List Nat}{Y b:bL}{j:ao}{out:Array bA}{m:Array bA}{p s:Nat}{L:Nat}(e:dz Y b)(l:gT Q Vr i u out):rT Q Vr i u Y j (Z out,m,p,s,L) b j:=⟨rfl,e,_,_,_,_,_,rfl,l⟩
def r7.k{Q:Nat->Int}{Vr:Array bA}{i u:List Nat}{Y b:bL}{j:ao}{f:Nat}{n:Array bA}{a E:Nat}{L:Nat}(e:dz Y b)(r:hV Q Vr i u n a E)(d:f+1<=a+E):r7 Q Vr i u Y j f (X,n,a,E,L) b j:=⟨rfl,e,_,_,_,_,rfl,r,d⟩
def ku.a{Q:Nat->Int}{Vr:Array bA}{i u:List Nat}{Y b:bL}{j:ao}{f:Nat}{out:Array bA}{m:Array bA}{p s:Nat}{L c:Nat}(e:dz Y b)(l:gT Q Vr i u out):ku Q Vr i u Y j f (Z out,m,p,s,L,c) b j:=⟨rfl,e,.inl ⟨_,_,_,_,_,_,rfl,l⟩⟩
def ku.b{Q:Nat->Int}{Vr:Array bA}{i u:List Nat}{Y g:bL}{j:ao}{f:Nat}{n:Array bA}{a E:Nat}{L h:Nat}(e:dz Y g)(r:hV Q Vr i u n a E)(d:f+2<=a+E):ku Q Vr i u Y j f (X,n,a,E,L,h) g j:=⟨rfl,e,.inr ⟨_,_,_,_,_,rfl,r,d⟩⟩
def qu.k{Q:Nat->Int}{Vr:Array bA}{i u:List Nat}{Y b:bL}{j:ao}{f z:Nat}{n:Array bA}{a E:Nat}{L c:Nat}(e:dz Y b)(r:hV Q Vr i u n a E)(d:f+1+z<=a+E):qu Q Vr i u Y j f z (X,n,a,E,L,c) b j:=⟨rfl,e,_,_,_,_,_,rfl,r,d⟩
def jh.a{Q:Nat->Int}{Vr:Array bA}{i u:List Nat}{Y b:bL}{j:ao}{f:Nat}{out:Array bA}{m:Array bA}{p s:Nat}{L c d:Nat}(e:dz Y b)(l:gT Q Vr i u out):jh Q Vr i u Y j f (Z out,m,p,s,L,c,d) b j:=⟨rfl,e,.inl ⟨_,_,_,_,_,_,_,rfl,l⟩⟩
def jh.b{Q:Nat->Int}{Vr:Array bA}{i u:List Nat}{Y g:bL}{j:ao}{f:Nat}{n:Array bA}{a E:Nat}{L h k:Nat}(e:dz Y g)(r:hV Q Vr i u n a E)(d:f+2<=a+E):jh Q Vr i u Y j f (X,n,a,E,L,h,k) g j:=⟨rfl,e,.inr ⟨_,_,_,_,_,_,rfl,r,d⟩⟩
def ra.k{Q:Nat->Int}{Vr:Array bA}{i u:List Nat}{Y b:bL}{j:ao}{f z:Nat}{n:Array bA}{a E:Nat}{L c g:Nat}(e:dz Y b)(r:hV Q Vr i u n a E)(d:f+2<=a+E):ra Q Vr i u Y j f z (X,n,a,E,L,c,g) b j:=⟨rfl,e,_,_,_,_,_,_,rfl,r,d⟩
def Qe{h c:Nat}(e:h=c):(h==c)=V:=by simp[e]
def Th{h c:Nat}(e:¬ h=c):¬ (h==c)=V:=by simp[e]
def lM{ay:gc}{O:bq}{Vo:ae->ao->Prop}{h:Nat}{I:List Nat}{f z:StateT B dD VM}{C:VM->B->ao->Prop}{Y:B}{j:ao}(bI:h=I.length->kasC ay O Vo f C Y j)(a:¬ h=I.length->kasC ay O Vo z C Y j):kasC ay O Vo (if (h==(List.map (br Vr) I).toArray.size)=V then f else z) C Y j:=by
 rw[show (List.map (br Vr) I).toArray.size=I.length by simp];by_cases e:h=I.length
 ·rw[aF (Qe e)];exact bI e
 ·rw[aJ (Th e)];exact a e
def l2{ay:gc}{O:bq}{Vo:ae->ao->Prop}{b:Decidable o}{f z:StateT B dD VM}{C:VM->B->ao->Prop}{Y:B}{j:ao}(bI:o->kasC ay O Vo f C Y j)(a:¬ o->kasC ay O Vo z C Y j):kasC ay O Vo (if o then f else z) C Y j:=if e:o then by rw[aF e];exact bI e else by rw[aJ e];exact a e
def Qy(a:fY x Q (fo Vs H O VO Vr) j){q:Nat}(b:q<x){I:List Nat}(d:∀f∈I,f<x){VB:Nat}(l:VB<I.length)(mono:∀g r,VB<=g->g<=r->r<I.length->Q (I.getD g 0)<=Q (I.getD r 0)){Y:bL}(i:kindOf Y=VO){C:Option Nat->bL->ao->Prop}(e:∀s,VB+s<=I.length->(∀g,VB<=g->g<VB+s->Q (I.getD g 0)<=Q q)->(∀g,VB+s<=g->g<I.length->Q q<Q (I.getD g 0))->C (Z s) Y j):
  kasC (aO Vs H) O Vo (qD aA (br Vr q) (I.map<|br Vr).toArray VB ((I.map<|br Vr).toArray.size-VB) 0) C Y j:=by
 rw[show (I.map<|br Vr).toArray.size=I.length by simp];exact xa a b d ⋯ ⋯ (λg r h c o=>mono g r h c ⋯) i λs t A k=>e s ⋯ A λg h c=>k g h ⋯
def RV(a:fY x Q (fo Vs H O VO Vr) j){q:Nat}(b:q<x){I:List Nat}(d:∀f∈I,f<x){VB:Nat}(l:VB<I.length)(mono:∀g r,VB<=g->g<=r->r<I.length->Q (I.getD g 0)<=Q (I.getD r 0)){Y:bL}(i:kindOf Y=VO){C:Option Nat->bL->ao->Prop}(e:∀s,VB+s<=I.length->(∀g,VB<=g->g<VB+s->Q (I.getD g 0)<Q q)->(∀g,VB+s<=g->g<I.length->Q q<=Q (I.getD g 0))->C (Z s) Y j):
  kasC (aO Vs H) O Vo (qD V (br Vr q) (I.map<|br Vr).toArray VB ((I.map<|br Vr).toArray.size-VB) 0) C Y j:=by
 rw[show (I.map<|br Vr).toArray.size=I.length by simp];exact x4 a b d ⋯ ⋯ (λg r h c o=>mono g r h c ⋯) i λs t A k=>e s ⋯ A λg h c=>k g h ⋯
def Uy(a2:fY x Q (fo Vs H O VO Vr) j){i u:List Nat}(bd:∀f∈i,f<x)(be:∀f∈u,f<x)(eq:cB Q i)(ev:cB Q u)(he:0<i.length)(t:0<u.length)(first:∀f∈i,Q (u.getD 0 0)<=Q f)(aM:∀f∈u,Q f<=Q (i.getD (i.length-1) 0)){Y:bL}(ca:kindOf Y=VO){C:Array bA->bL->ao->Prop}(e:∀out A,gT Q Vr i u out->dz Y A->C out A j):
  kasC (aO Vs H) O Vo (F9 (i.map<|br Vr).toArray (u.map<|br Vr).toArray) C Y j:=by
 have bi:[u.getD 0 0].Perm (i.take 0++u.take 1):=by
  have:=jY (I:=u) (g:=0) t;simp only[nx]at this;rw[this];exact List.Perm.refl _
 have bm:cB Q ([u.getD 0 0]++u.drop 1):=by
  have:=jY (I:=u) (g:=0) t;simp only[nx]at this;rw[<-this,fz];exact ev
 have bn:cB Q ([u.getD 0 0]++i.drop 0):=fB.mpr ⟨eB _ _,by rw[nx];exact eq,λf d z v=>by
  rw[cb.mp d];exact first z (by rwa [nx]at v)⟩
 have hf:(List.map (br Vr) i).toArray.size=i.length:=by simp
 have hm:(List.map (br Vr) u).toArray.size=u.length:=by simp
 unfold F9;with_unfolding_all refine bw (oN<|j9 ?_);refine bw (gv t ?_);refine lM (λcd=>bt<|e _ _ (rE bi bn bm<|.inl cd)<|dz.refl Y) λcd=>?_;refine lM (λce=>bt<|e _ _ (uA bi bn bm ce aM)<|dz.refl Y) λce=>?_;refine bw (jV ?_);refine bw (hY (a:=rT Q Vr i u Y j) (fZ (g7 (r7 Q Vr i u Y j) ?step _ 0 _ _ _ ?fin (r7.k (dz.refl Y) ⟨_,rfl,bi,bn,bm,⋯,⋯⟩ ⋯))) ?after)
 case after=>
  rintro o A Vm ⟨rfl,Vy,ci,n,a,E,L,rfl,U⟩;exact bt (e _ _ U Vy)
 case fin=>
  rintro o A Vm ⟨rfl,Vy,n,a,E,L,rfl,⟨k,rfl,l⟩,d⟩;have:=l.bT;have:=l.kD;lia
 case step=>
  rintro f o A Vm ⟨rfl,Vy,n,a,E,L,rfl,B,d⟩;refine bw (hY (a:=ku Q Vr i u Y j f)
   (fZ (g7 (qu Q Vr i u Y j f) ?ex _ 0 _ _ _ ?fd (qu.k Vy B ⋯))) ?fn)
  case fd=>
   rintro o A Vm ⟨rfl,Vy,n,a,E,ac,P,rfl,B,d⟩;exact ku.b Vy B ⋯
  case ex=>
   rintro z o A Vm ⟨rfl,Vy,n,a,E,ac,P,rfl,⟨k,rfl,l⟩,d⟩;have al:=l.bT;have w:=l.kD;have as:kindOf A=VO:=Vy.k.trans ca;have y:a<i.length:=⋯
   have cE:Q (u.getD E 0)<Q (i.getD a 0)->(k++[u.getD E 0]).Perm (i.take a++u.take (E+1))/\cB Q (k++[u.getD E 0]++i.drop a)/\cB Q (k++[u.getD E 0]++u.drop (E+1)):=λam=>by
    have:=z1 1 l.perm l.aN l.cP (λf d z v=>by
     rw[jY w,cb]at d;let⟨@r,b1,R,rfl⟩:=jO v;have:=pC l.aN (bD _) b1 R;rw[d];lia)
    rwa [jY w]at this
   have cQ:¬ Q (u.getD E 0)<Q (i.getD a 0)->(k++[i.getD a 0]).Perm (i.take (a+1)++u.take E)/\cB Q (k++[i.getD a 0]++i.drop (a+1))/\cB Q (k++[i.getD a 0]++u.drop E):=λam=>by
    have:=vU 1 l.perm l.aN l.cP (λf d z v=>by
     rw[jY y,cb]at d;let⟨@r,b1,R,rfl⟩:=jO v;have:=pC l.cP (bD _) b1 R;rw[d];lia)
    rwa [jY y]at this
   refine bw (gv w<|bw<|gv y<|bw<|td a2 (jj be w) (jj bd y) as ?_);refine l2 (λam=>?_) λam=>?_
   ·have c:=cE ⇑am;refine bw (gv w (lM (λJ=>bt (ku.a Vy (by rw[pn];exact rE c.1 c.2.1 c.2.2 (.inl J)))) λJ=>?_));have M:hV Q Vr i u ((k.map<|br Vr).toArray.push<|br Vr<|u.getD E 0) a (E+1):=⟨_,pn _ _,c.1,c.2.1,c.2.2,al,⋯⟩;exact l2 (λ_=>bt (ku.b Vy M ⋯)) λ_=>bt (qu.k Vy M ⋯)
   ·have c:=cQ ⇑am;refine bw (gv y (lM (λJ=>bt (ku.a Vy (by rw[pn];exact uA c.1 c.2.1 c.2.2 J aM))) λJ=>?_));have M:hV Q Vr i u ((k.map<|br Vr).toArray.push<|br Vr<|i.getD a 0) (a+1) E:=⟨_,pn _ _,c.1,c.2.1,c.2.2,⋯,w⟩;exact l2 (λ_=>bt (ku.b Vy M ⋯)) λ_=>bt (qu.k Vy M ⋯)
  case fn=>
   rintro o A Vm ⟨rfl,Vy,⟨ci,n,a,E,ac,P,rfl,U⟩|⟨n,a,E,ac,P,rfl,B,d⟩⟩
   ·exact bt (rT.a Vy U)
   ·refine bw (oN<|j9 ?_);refine bw (hY (a:=jh Q Vr i u Y j f)
     (fZ (g7 (ra Q Vr i u Y j f) ?fr _ 0 _ _ _ ?fin2 (ra.k Vy B ⋯))) ?f0)
    case fin2=>
     rintro o A Vm ⟨rfl,Vy,n,a,E,L,ac,P,rfl,B,d⟩;exact jh.b Vy B ⋯
    case f0=>
     rintro o A Vm ⟨rfl,Vy,⟨ci,n,a,E,L,ac,P,rfl,U⟩|⟨n,a,E,L,ac,P,rfl,B,d⟩⟩
     ·exact bt (rT.a Vy U)
     ·refine bw (kA ?_);exact bt (r7.k ⟨Vy.k,Vy.a,Vy.p,Vy.f⟩ B ⋯)
    case fr=>
     rintro z o A Vm ⟨rfl,Vy,n,a,E,L,ac,P,rfl,⟨k,cl,l⟩,d⟩;have al:=l.bT;have w:=l.kD;dsimp only;revert L;refine E_ (λL=>L-1) ?y ?_
     case y=>exact λL=>rfl
     intro L;refine bw (Bm (s:=Y) ⟨Vy.k,Vy.a,Vy.p,Vy.f⟩ λhw N=>?_);have as:=N.k.trans ca;refine bw (gv w ?_);refine bw (Qy a2 (jj be w) bd (show a<i.length by lia) (λg r h c o=>pC l.aN h c o) as ?_);intro q h0 f4 co;dsimp only;generalize an:n=V4;generalize ap:a=g;have Vz:V4=n/\g=a:=⟨an.symm,ap.symm⟩;clear an ap;revert V4 g;refine tl (λV4 g=>V4=n/\g=a) (λV4 g=>hV Q Vr i u V4 g E/\a<=g/\∀r,g<=r->r<i.length->Q (u.getD E 0)<Q (i.getD r 0)) ?Vt ?f1 ?f8
     case f1=>
      rintro ga V4 g ⟨rfl,rfl⟩;exact⟨⟨k,cl,l⟩,bD _,λr h c=>co r ⋯ c⟩
     case f8=>
      rintro b _ V4 g ⟨rfl,rfl⟩;try dsimp only
      have G:=vU q l.perm l.aN l.cP (λf d z v=>by
       let⟨@r,ge,b1,rfl⟩:=qN d;let⟨@gl,bs,Wt,rfl⟩:=jO v;have:=f4 (g+r) ⋯ ⋯;have:=pC l.cP (bD _) bs Wt;lia)
      rw[cl,D7];refine lM (λJ=>bt<|jh.a N<|uA G.1 G.2.1 G.2.2 J aM) λJ=>?_;refine lM (λcr=>bt<|jh.a N<|rE G.1 G.2.1 G.2.2<|.inr cr) λcr=>?_;exact b _ _ ⟨⟨_,rfl,G.1,G.2.1,G.2.2,⋯,w⟩,⋯,λr h c=>co r h c⟩
     case Vt=>
      rintro V4 g ⟨⟨k,rfl,l⟩,le,go⟩;have al:=l.bT;try dsimp only
      refine bw (gv w ?_);have Wj:=z1 1 l.perm l.aN l.cP (λf d z v=>by
       rw[jY w,cb]at d;let⟨@r,b1,R,rfl⟩:=jO v;have:=go r b1 R;rw[d];lia)
      rw[jY w]at Wj;rw[pn];refine lM (λcs=>bt<|jh.a N<|rE Wj.1 Wj.2.1 Wj.2.2<|.inl cs) λcs=>?_;have y:g<i.length:=⋯
      refine bw (gv y ?_);refine bw (RV a2 (jj bd y) be (show E+1<u.length by lia) (λg r h c o=>pC Wj.2.2 h c o) as ?_);intro gt ii g1 db;dsimp only;generalize k++[u.getD E 0]=bv at *;generalize im:E+1=a1 at *;generalize an:(List.map (br Vr) bv).toArray=V4;generalize ap:a1=r;have Vz:V4=(List.map (br Vr) bv).toArray/\r=a1:=⟨an.symm,ap.symm⟩;clear an ap;revert V4 r;refine tl (λV4 r=>V4=(List.map (br Vr) bv).toArray/\r=a1) (λV4 r=>hV Q Vr i u V4 g r/\a1<=r/\∀D,r<=D->D<u.length->Q (i.getD g 0)<=Q (u.getD D 0)) ?VF ?f2 ?g2
      case f2=>
       rintro ga V4 r ⟨rfl,rfl⟩;exact⟨⟨_,rfl,Wj.1,Wj.2.1,Wj.2.2,al,⋯⟩,bD _,λD h c=>db D ⋯ c⟩
      case g2=>
       rintro b _ V4 r ⟨rfl,rfl⟩;try dsimp only
       have T:=z1 gt Wj.1 Wj.2.1 Wj.2.2 (λf d z v=>by
        let⟨@D,ge,b1,rfl⟩:=qN d;let⟨@gl,bs,Wt,rfl⟩:=jO v;have:=g1 (r+D) ⋯ ⋯;have:=pC Wj.2.1 (bD _) bs Wt;lia)
       rw[D7];refine lM (λds=>bt<|jh.a N<|rE T.1 T.2.1 T.2.2<|.inl ds) λds=>?_;exact b _ _ ⟨⟨_,rfl,T.1,T.2.1,T.2.2,al,⋯⟩,⋯,λD h c=>db D h c⟩
      case VF=>
       rintro V4 r ⟨⟨k,rfl,l⟩,z3,g3⟩;have hd:=l.kD;try dsimp only
       refine bw (gv y ?_);have S:=vU 1 l.perm l.aN l.cP (λf d z v=>by
        rw[jY y,cb]at d;let⟨@D,b1,R,rfl⟩:=jO v;rw[d];exact g3 D b1 R)
       rw[jY y]at S;rw[pn];refine lM (λdL=>bt<|jh.a N<|uA S.1 S.2.1 S.2.2 dL aM) λdL=>?_;have M:hV Q Vr i u ((k++[i.getD g 0]).map<|br Vr).toArray (g+1) r:=⟨_,rfl,S.1,S.2.1,S.2.2,⋯,hd⟩;exact l2 (λ_=>bt (jh.b N M ⋯)) λ_=>bt (ra.k N M ⋯)
end
section
variable{Vs:bE}{H:bg}{O:bq}{Vo:ae->ao->Prop}{VO:gR}{Vr:Array bA}{Q:Nat->Int}{x:Nat}{j:ao}
def CI:Array bA->Array bA->StateT bL dD (Array bA):=(sortPriv% PySem.Builtin.mergeHi)
variable{I:List Nat}{g r:Nat}
def Af(a:g<=r)(b:r<=I.length):I.drop g=(I.take r).drop g++I.drop r:=by
 have d:I.drop g=(I.take r++I.drop r).drop g:=by rw[fz]
 rw[d,List.drop_append_of_le_length (by rw[gN];lia)]
def Rr(a:g<=r):I.take g++(I.take r).drop g=I.take r:=by
 have:=fz g (I.take r)
 rwa [vA,tM a]at this
variable{i u k:List Nat}{y w:Nat}
def ue(q:Nat)(d:q<=y)(h:y<=i.length)(perm:k.Perm (i.drop y++u.drop w))(aN:cB Q (i.take y++k))(cP:cB Q (u.take w++k))(e:∀f∈(i.take y).drop q,∀z∈u.take w,Q z<=Q f):
  ((i.take y).drop q++k).Perm (i.drop q++u.drop w)/\cB Q (i.take q++((i.take y).drop q++k))/\cB Q (u.take w++((i.take y).drop q++k)):=by
 refine⟨?_,?_,?_⟩
 ·rw[Af d h,bk];exact dZ _ perm
 ·rw[<-bk,Rr d];exact aN
 ·have g:=fB.mp aN;have c:=fB.mp cP;refine fB.mpr ⟨c.1,fB.mpr ⟨g.1.sublist<|tT _ _,c.2.1,λf b z a=>g.2.2 f (m3 b) z a⟩,λf b z a=>?_⟩;rcases du.mp a with a|a
  ·exact e z a f b
  ·exact c.2.2 f b z a
def yY(q:Nat)(a:q<=w)(b:w<=u.length)(perm:k.Perm (i.drop y++u.drop w))(aN:cB Q (i.take y++k))(cP:cB Q (u.take w++k))(e:∀f∈(u.take w).drop q,∀z∈i.take y,Q z<=Q f):
  ((u.take w).drop q++k).Perm (i.drop y++u.drop q)/\cB Q (i.take y++((u.take w).drop q++k))/\cB Q (u.take q++((u.take w).drop q++k)):=by
 have:=ue (i:=u) (u:=i) q a b (perm.trans c6) cP aN e;exact⟨this.1.trans c6,this.2.2,this.2.1⟩
def lG(a:0<g)(e:g<=I.length):(I.take g).drop (g-1)=[I.getD (g-1) 0]:=by
 rw[sN,show g-(g-1)=1 by lia];exact jY ⋯
variable{z:Nat}
def l9(e:z∈I.take g):∃r,r<g/\r<I.length/\z=I.getD r 0:=by
 have:=qN (g:=0) (q:=g) (z:=z) (I:=I) (by rwa [nx]);let⟨@r,h,c,d⟩:=this;exact⟨r,h,⋯,by rw[d];congr 1;lia⟩
variable{q:Nat}
def FP(e:z∈(I.take q).drop g):∃r,g<=r/\r<q/\r<I.length/\z=I.getD r 0:=by
 rw[sN]at e;let⟨@r,h,c,d⟩:=qN e;exact⟨g+r,⋯,⋯,c,d⟩
def qW(e:cB Q (I.take g++k))(a:r<=q)(b:q<g)(c:q<I.length):Q (I.getD r 0)<=Q (I.getD q 0):=by
 have:=oM (fB.mp e).1 (g:=r) (r:=q) a (by rw[gN];lia);simpa [List.getD,oh,show r<g by lia,b] using this
def sW(perm:k.Perm (i.drop y++u.drop w))(aN:cB Q (i.take y++k))(cP:cB Q (u.take w++k))(a:y=0\/w=0):
  gT Q Vr i u ((i.map<|br Vr).toArray.extract 0 y++(u.map<|br Vr).toArray.extract 0 w++(k.reverse.map<|br Vr).toArray.reverse):=by
 refine⟨i.take y++u.take w++k,?_,?_,?_⟩
 ·apply km;simp[jx]
 ·refine (dZ _ perm).trans ?_;have:(i.take y++u.take w++(i.drop y++u.drop w)).Perm ((i.take y++i.drop y)++(u.take w++u.drop w)):=by
   rw[bk,bk];refine dZ _ ?_;rw[<-bk,<-bk];exact e1 _ c6
  rw[fz,fz]at this;exact this
 ·rcases a with d|d
  ·rw[d,wC,gp];exact cP
  ·rw[d,wC,bQ];exact aN
def uk(perm:k.Perm (i.drop y++u.drop w))(aN:cB Q (i.take y++k))(cP:cB Q (u.take w++k))(c:w=1)(first:∀f∈i,Q (u.getD 0 0)<=Q f):
  gT Q Vr i u ((u.map<|br Vr).toArray.extract 0 w++(i.map<|br Vr).toArray.extract 0 y++(k.reverse.map<|br Vr).toArray.reverse):=by
 refine⟨u.take w++i.take y++k,?_,?_,?_⟩
 ·apply km;simp[jx]
 ·refine (dZ _ perm).trans ?_;have:(u.take w++i.take y++(i.drop y++u.drop w)).Perm ((i.take y++i.drop y)++(u.take w++u.drop w)):=by
   rw[bk,<-bk (i.take y),<-bk (i.take y++i.drop y)];rw[<-bk (u.take w)];exact e1 _ c6
  rw[fz,fz]at this;exact this
 ·rw[bk];refine fB.mpr ⟨(fB.mp cP).1,aN,λf b z a=>?_⟩;rcases du.mp a with a|a
  ·let⟨@r,t,A,rfl⟩:=l9 b;have:r=0:=⋯
   rw[this];exact first z (oV a)
  ·exact (fB.mp cP).2.2 f b z a
def pd(k:List Nat)(z:Nat):(k.reverse.map<|br Vr).toArray.push (br Vr z)=(([z]++k).reverse.map<|br Vr).toArray:=by simp
def EJ(k I:List Nat)(g q:Nat):(k.reverse.map<|br Vr).toArray++((I.map<|br Vr).toArray.extract g q).reverse=(((I.take q).drop g++k).reverse.map<|br Vr).toArray:=by
 apply km;simp[jq,jx,sN]
structure Kc(Q:Nat->Int)(i u:List Nat)(k:List Nat)(y w:Nat):Prop where
 perm:k.Perm (i.drop y++u.drop w)
 aN:cB Q (i.take y++k)
 cP:cB Q (u.take w++k)
 bT:0<y
 kD:1<w
 vd:y<=i.length
 uq:w<=u.length
def hS(Q:Nat->Int)(Vr:Array bA)(i u:List Nat)(out:Array bA)(y w:Nat):Prop:=(∃k:List Nat,out=(k.reverse.map<|br Vr).toArray/\Kc Q i u k y w)
end
section
variable{Vs:bE}{H:bg}{O:bq}{Vo:ae->ao->Prop}{VO:gR}{Vr:Array bA}{Q:Nat->Int}{x:Nat}{j:ao}
def sZ(Q:Nat->Int)(Vr:Array bA)(i u:List Nat)(Y:bL)(j:ao): Option (Array bA)×Nat×Nat×Array bA×Nat->bL->ao->Prop:=(λo b Vm=>j=Vm/\dz Y b/\∃a m p s L,o=(Z a,m,p,s,L)/\gT Q Vr i u a)
def q6(Q:Nat->Int)(Vr:Array bA)(i u:List Nat)(Y:bL)(j:ao)(f:Nat):Option (Array bA)×Nat×Nat×Array bA×Nat->bL->ao->Prop:=(λo a Vm=>j=Vm/\dz Y a/\∃y w n L,o=(X,y,w,n,L)/\hS Q Vr i u n y w/\y+w+f+1<=i.length+u.length)
def kJ(Q:Nat->Int)(Vr:Array bA)(i u:List Nat)(Y:bL)(j:ao)(f:Nat):Option (Array bA)×Nat×Nat×Array bA×Nat×Nat->bL->ao->Prop:=(λo c Vm=>j=Vm/\dz Y c/\((∃b m p s ac a,o=(Z b,m,p,s,ac,a)/\gT Q Vr i u b)\/∃y w n ac a,o=(X,y,w,n,ac,a)/\hS Q Vr i u n y w/\y+w+f+2<=i.length+u.length))
def o4(Q:Nat->Int)(Vr:Array bA)(i u:List Nat)(Y:bL)(j:ao)(f z:Nat):Option (Array bA)×Nat×Nat×Array bA×Nat×Nat->bL->ao->Prop:=(λo a Vm=>j=Vm/\dz Y a/\∃y w n ac b,o=(X,y,w,n,ac,b)/\hS Q Vr i u n y w/\y+w+f+1+z<=i.length+u.length)
def jc(Q:Nat->Int)(Vr:Array bA)(i u:List Nat)(Y:bL)(j:ao)(f:Nat):Option (Array bA)×Nat×Nat×Array bA×Nat×Nat×Nat->bL->ao->Prop:=(λo c Vm=>j=Vm/\dz Y c/\((∃b m p s L ac a,o=(Z b,m,p,s,L,ac,a)/\gT Q Vr i u b)\/∃y w n L ac a,o=(X,y,w,n,L,ac,a)/\hS Q Vr i u n y w/\y+w+f+2<=i.length+u.length))
def ry(Q:Nat->Int)(Vr:Array bA)(i u:List Nat)(Y:bL)(j:ao)(f z:Nat):Option (Array bA)×Nat×Nat×Array bA×Nat×Nat×Nat->bL->ao->Prop:=(λo a Vm=>j=Vm/\dz Y a/\∃y w n L ac b,o=(X,y,w,n,L,ac,b)/\hS Q Vr i u n y w/\y+w+f+2<=i.length+u.length)
def sZ.a{Q:Nat->Int}{Vr:Array bA}{i u:List Nat}{Y b:bL}{j:ao}{out:Array bA}{m p:Nat}{s:Array bA}{L:Nat}(e:dz Y b)(l:gT Q Vr i u out):sZ Q Vr i u Y j (Z out,m,p,s,L) b j:=⟨rfl,e,_,_,_,_,_,rfl,l⟩
def q6.k{Q:Nat->Int}{Vr:Array bA}{i u:List Nat}{Y a:bL}{j:ao}{f:Nat}{y w:Nat}{n:Array bA}{L:Nat}(e:dz Y a)(r:hS Q Vr i u n y w)(d:y+w+f+1<=i.length+u.length):q6 Q Vr i u Y j f (X,y,w,n,L) a j:=⟨rfl,e,_,_,_,_,rfl,r,d⟩
def kJ.a{Q:Nat->Int}{Vr:Array bA}{i u:List Nat}{Y b:bL}{j:ao}{f:Nat}{out:Array bA}{m p:Nat}{s:Array bA}{L c:Nat}(e:dz Y b)(l:gT Q Vr i u out):kJ Q Vr i u Y j f (Z out,m,p,s,L,c) b j:=⟨rfl,e,.inl ⟨_,_,_,_,_,_,rfl,l⟩⟩
def kJ.b{Q:Nat->Int}{Vr:Array bA}{i u:List Nat}{Y a:bL}{j:ao}{f:Nat}{y w:Nat}{n:Array bA}{L g:Nat}(e:dz Y a)(r:hS Q Vr i u n y w)(d:y+w+f+2<=i.length+u.length):kJ Q Vr i u Y j f (X,y,w,n,L,g) a j:=⟨rfl,e,.inr ⟨_,_,_,_,_,rfl,r,d⟩⟩
def o4.k{Q:Nat->Int}{Vr:Array bA}{i u:List Nat}{Y a:bL}{j:ao}{f z:Nat}{y w:Nat}{n:Array bA}{L b:Nat}(e:dz Y a)(r:hS Q Vr i u n y w)(d:y+w+f+1+z<=i.length+u.length):o4 Q Vr i u Y j f z (X,y,w,n,L,b) a j:=⟨rfl,e,_,_,_,_,_,rfl,r,d⟩
def jc.a{Q:Nat->Int}{Vr:Array bA}{i u:List Nat}{Y b:bL}{j:ao}{f:Nat}{out:Array bA}{m p:Nat}{s:Array bA}{L c d:Nat}(e:dz Y b)(l:gT Q Vr i u out):jc Q Vr i u Y j f (Z out,m,p,s,L,c,d) b j:=⟨rfl,e,.inl ⟨_,_,_,_,_,_,_,rfl,l⟩⟩
def jc.b{Q:Nat->Int}{Vr:Array bA}{i u:List Nat}{Y a:bL}{j:ao}{f:Nat}{y w:Nat}{n:Array bA}{L g h:Nat}(e:dz Y a)(r:hS Q Vr i u n y w)(d:y+w+f+2<=i.length+u.length):jc Q Vr i u Y j f (X,y,w,n,L,g,h) a j:=⟨rfl,e,.inr ⟨_,_,_,_,_,_,rfl,r,d⟩⟩
def ry.k{Q:Nat->Int}{Vr:Array bA}{i u:List Nat}{Y a:bL}{j:ao}{f z:Nat}{y w:Nat}{n:Array bA}{L b c:Nat}(e:dz Y a)(r:hS Q Vr i u n y w)(d:y+w+f+2<=i.length+u.length):ry Q Vr i u Y j f z (X,y,w,n,L,b,c) a j:=⟨rfl,e,_,_,_,_,_,_,rfl,r,d⟩
def l0{ay:gc}{O:bq}{Vo:ae->ao->Prop}{B VM:Type}{h c:Nat}{f z:StateT B dD VM}{C:VM->B->ao->Prop}{Y:B}{j:ao}(bI:h=c->kasC ay O Vo f C Y j)(a:¬ h=c->kasC ay O Vo z C Y j):kasC ay O Vo (if (h==c)=V then f else z) C Y j:=l2 (λe=>bI ⇑e) λe=>a ⇑e
def Mc(bn:fY x Q (fo Vs H O VO Vr) j){i u:List Nat}(bs:∀f∈i,f<x)(bv:∀f∈u,f<x)(f8:cB Q i)(ga:cB Q u)(ge:0<i.length)(t:0<u.length)(first:∀f∈i,Q (u.getD 0 0)<=Q f)(aM:∀f∈u,Q f<=Q (i.getD (i.length-1) 0)){Y:bL}(db:kindOf Y=VO){C:Array bA->bL->ao->Prop}(e:∀out A,gT Q Vr i u out->dz Y A->C out A j):
  kasC (aO Vs H) O Vo (CI (i.map<|br Vr).toArray (u.map<|br Vr).toArray) C Y j:=by
 have be:(List.map (br Vr) i).toArray.size=i.length:=by simp
 have bi:(List.map (br Vr) u).toArray.size=u.length:=by simp
 have ca:=lG ge (bD _);rw[sE]at ca;have cd:[i.getD (i.length-1) 0].Perm (i.drop (i.length-1)++u.drop u.length):=by
  rw[ca,yj];exact List.Perm.refl _
 have ce:cB Q (i.take (i.length-1)++[i.getD (i.length-1) 0]):=by
  rw[<-ca,fz];exact f8
 have ch:cB Q (u.take u.length++[i.getD (i.length-1) 0]):=fB.mpr ⟨by rw[sE];exact ga,eB _ _,λf d z v=>by
  rw[cb.mp v];exact aM f (by rwa [sE]at d)⟩
 unfold CI;with_unfolding_all refine bw (oN<|j9 ?_);refine bw (gv (show (List.map (br Vr) i).toArray.size-1<i.length by lia) ?_);refine l0 (λci=>bt (e _ _ (by rw[be]at ci;rw[be,bi];exact sW cd ce ch (.inl ci))<|dz.refl Y)) λci=>?_;refine l0 (λcl=>bt (e _ _ (by rw[bi]at cl;rw[be,bi];exact uk cd ce ch cl first)<|dz.refl Y)) λcl=>?_;refine bw (jV ?_);refine bw (hY (a:=sZ Q Vr i u Y j) (fZ (g7 (q6 Q Vr i u Y j) ?step _ 0 _ _ _ ?fin (q6.k (dz.refl Y) (by rw[be,bi];exact⟨_,rfl,cd,ce,ch,⋯,⋯,⋯,⋯⟩) ⋯))) ?after)
 case after=>
  rintro o A Vm ⟨rfl,Vy,dL,n,a,E,L,rfl,an⟩;exact bt (e _ _ an Vy)
 case fin=>
  rintro o A Vm ⟨rfl,Vy,y,w,n,L,rfl,⟨k,rfl,l⟩,d⟩;have:=l.bT;have:=l.kD;lia
 case step=>
  rintro f o A Vm ⟨rfl,Vy,y,w,n,L,rfl,G,d⟩;refine bw (hY (a:=kJ Q Vr i u Y j f)
   (fZ (g7 (o4 Q Vr i u Y j f) ?gl _ 0 _ _ _ ?go (o4.k Vy G ⋯))) ?gt)
  case go=>
   rintro o A Vm ⟨rfl,Vy,y,w,n,ac,T,rfl,G,d⟩;exact kJ.b Vy G ⋯
  case gl=>
   rintro z o A Vm ⟨rfl,Vy,y,w,n,ac,T,rfl,⟨k,rfl,l⟩,d⟩;have I:=l.bT;have co:=l.kD;have B:=l.vd;have J:=l.uq;have bm:kindOf A=VO:=Vy.k.trans db;have M:y-1<i.length:=⋯
   have U:w-1<u.length:=⋯
   have cE:Q (u.getD (w-1) 0)<Q (i.getD (y-1) 0)->_:=λap=>by
    have:=ue (y-1) ⋯ B l.perm l.aN l.cP (λf d z v=>by
     rw[lG I B,cb]at d;let⟨@r,b1,as,rfl⟩:=l9 v;have:=qW l.cP (show r<=w-1 by lia) ⋯ ⋯;rw[d];lia)
    rw[lG I B]at this;exact this
   have cQ:¬ Q (u.getD (w-1) 0)<Q (i.getD (y-1) 0)->_:=λap=>by
    have:=yY (w-1) ⋯ J l.perm l.aN l.cP (λf d z v=>by
     rw[lG ⋯ J,cb]at d;let⟨@r,b1,as,rfl⟩:=l9 v;have:=qW l.aN (show r<=y-1 by lia) ⋯ ⋯;rw[d];lia)
    rw[lG ⋯ J]at this;exact this
   refine bw (gv U<|bw<|gv M<|bw<|td bn (jj bv U) (jj bs M) bm ?_);refine l2 (λap=>?_) λap=>?_
   ·have c:=cE ⇑ap;refine bw (gv M (l0 (λP=>bt (kJ.a Vy (by rw[pd];exact sW c.1 c.2.1 c.2.2 (.inl P)))) λP=>?_));have R:hS Q Vr i u ((k.reverse.map<|br Vr).toArray.push<|br Vr<|i.getD (y-1) 0) (y-1) w:=⟨_,pd _ _,c.1,c.2.1,c.2.2,⋯,co,⋯,J⟩;exact l2 (λ_=>bt (kJ.b Vy R ⋯)) λ_=>bt (o4.k Vy R ⋯)
   ·have c:=cQ ⇑ap;refine bw (gv U (l0 (λP=>bt (kJ.a Vy (by rw[pd];exact uk c.1 c.2.1 c.2.2 P first))) λP=>?_));have R:hS Q Vr i u ((k.reverse.map<|br Vr).toArray.push<|br Vr<|u.getD (w-1) 0) y (w-1):=⟨_,pd _ _,c.1,c.2.1,c.2.2,I,⋯,B,⋯⟩;exact l2 (λ_=>bt (kJ.b Vy R ⋯)) λ_=>bt (o4.k Vy R ⋯)
  case gt=>
   rintro o A Vm ⟨rfl,Vy,⟨dL,n,a,E,ac,T,rfl,an⟩|⟨y,w,n,ac,T,rfl,G,d⟩⟩
   ·exact bt (sZ.a Vy an)
   ·refine bw (oN<|j9 ?_);refine bw (hY (a:=jc Q Vr i u Y j f)
     (fZ (g7 (ry Q Vr i u Y j f) ?g1 _ 0 _ _ _ ?fin2 (ry.k Vy G ⋯))) ?g2)
    case fin2=>
     rintro o A Vm ⟨rfl,Vy,y,w,n,L,ac,T,rfl,G,d⟩;exact jc.b Vy G ⋯
    case g2=>
     rintro o A Vm ⟨rfl,Vy,⟨dL,n,a,E,L,ac,T,rfl,an⟩|⟨y,w,n,L,ac,T,rfl,G,d⟩⟩
     ·exact bt (sZ.a Vy an)
     ·refine bw (kA ?_);exact bt (q6.k ⟨Vy.k,Vy.a,Vy.p,Vy.f⟩ G ⋯)
    case g1=>
     rintro z o A Vm ⟨rfl,Vy,y,w,n,L,ac,T,rfl,⟨k,eq,l⟩,d⟩;have I:=l.bT;have co:=l.kD;have B:=l.vd;have J:=l.uq;have U:w-1<u.length:=⋯
     dsimp only;revert L;refine E_ (λL=>L-1) ?M ?_
     case M=>exact λL=>rfl
     intro L;refine bw (Bm (s:=Y) ⟨Vy.k,Vy.a,Vy.p,Vy.f⟩ λit S=>?_);have bm:=S.k.trans db;refine bw (gv U ?_);refine bw (xa bn (jj bv U) bs (VB:=0) (l:=y) (a:=y-1) ⋯ ⋯ (λg r h c o=>qW l.aN c ⋯ ⋯) bm ?_);intro q jp ev hd;dsimp only;generalize kt:y-q=kw;generalize a1:n=V4;generalize a2:y=g;have Vz:V4=n/\g=y:=⟨a1.symm,a2.symm⟩;clear a1 a2;revert V4 g;refine tl (λV4 g=>V4=n/\g=y) (λV4 g=>hS Q Vr i u V4 g w/\g<=y/\∀r,r<g->Q (i.getD r 0)<=Q (u.getD (w-1) 0)) ?Vt ?f1 ?he
     case f1=>
      rintro hf V4 g ⟨rfl,rfl⟩;exact⟨⟨k,eq,l⟩,bD _,λr h=>ev r ⋯ ⋯⟩
     case he=>
      rintro b _ V4 g ⟨rfl,rfl⟩;try dsimp only
      have am:=ue q ⋯ B l.perm l.aN l.cP (λf d z v=>by
       let⟨@r,hm,b1,as,rfl⟩:=FP d;let⟨@cr,hw,Wt,rfl⟩:=l9 v;have:=hd r ⋯ ⋯;have:=qW l.cP (show cr<=w-1 by lia) ⋯ ⋯;lia)
      rw[eq,EJ];refine l0 (λP=>bt<|jc.a S<|sW am.1 am.2.1 am.2.2<|.inl P) λP=>?_;exact b _ _ ⟨⟨_,rfl,am.1,am.2.1,am.2.2,⋯,co,⋯,J⟩,⋯,λr h=>ev r ⋯ ⋯⟩
     case Vt=>
      rintro V4 g ⟨⟨k,rfl,l⟩,le,h0⟩;have I:=l.bT;have B:=l.vd;have M:g-1<i.length:=⋯
      try dsimp only
      refine bw (gv U ?_);have Wj:=yY (w-1) ⋯ J l.perm l.aN l.cP (λf d z v=>by
       rw[lG ⋯ J,cb]at d;let⟨@r,b1,as,rfl⟩:=l9 v;rw[d];exact h0 r b1)
      rw[lG ⋯ J]at Wj;rw[pd];refine l0 (λex=>bt<|jc.a S<|uk Wj.1 Wj.2.1 Wj.2.2 ex first) λex=>?_;refine bw (gv M ?_);refine bw (x4 bn (jj bs M) bv (VB:=0) (l:=w-1) (a:=w-1-1) ⋯ ⋯ (λg r h c o=>qW Wj.2.2 c ⋯ ⋯) bm ?_);intro fd lc fn ii;dsimp only;generalize [u.getD (w-1) 0]++k=cs at *;generalize lf:w-1=bd at *;generalize li:bd-fd=d0;generalize a1:(List.map (br Vr) cs.reverse).toArray=V4;generalize a2:bd=r;have Vz:V4=(List.map (br Vr) cs.reverse).toArray/\r=bd:=⟨a1.symm,a2.symm⟩;clear a1 a2;revert V4 r;refine tl (λV4 r=>V4=(List.map (br Vr) cs.reverse).toArray/\r=bd) (λV4 r=>hS Q Vr i u V4 g r/\r<=bd/\∀D,D<r->Q (u.getD D 0)<Q (i.getD (g-1) 0)) ?VF ?f2 ?im
      case f2=>
       rintro hf V4 r ⟨rfl,rfl⟩;exact⟨⟨_,rfl,Wj.1,Wj.2.1,Wj.2.2,I,⋯,B,⋯⟩,bD _,λD h=>fn D ⋯ ⋯⟩
      case im=>
       rintro b _ V4 r ⟨rfl,rfl⟩;try dsimp only
       have N:=yY fd ⋯ (show r<=u.length by lia) Wj.1 Wj.2.1 Wj.2.2 (λf d z v=>by
        let⟨@D,hm,b1,as,rfl⟩:=FP d;let⟨@cr,hw,Wt,rfl⟩:=l9 v;have:=ii D ⋯ ⋯;have:=qW Wj.2.1 (show cr<=g-1 by lia) ⋯ ⋯;lia)
       rw[EJ];refine l0 (λfr=>bt<|jc.a S<|uk N.1 N.2.1 N.2.2 fr first) λfr=>?_;refine l0 (λf0=>bt<|jc.a S<|sW N.1 N.2.1 N.2.2<|.inr f0) λf0=>?_;exact b _ _ ⟨⟨_,rfl,N.1,N.2.1,N.2.2,I,⋯,B,⋯⟩,⋯,λD h=>fn D ⋯ ⋯⟩
      case VF=>
       rintro V4 r ⟨⟨k,rfl,l⟩,z3,io⟩;try dsimp only
       refine bw (gv M ?_);have al:=ue (g-1) ⋯ B l.perm l.aN l.cP (λf d z v=>by
        rw[lG I B,cb]at d;let⟨@D,b1,as,rfl⟩:=l9 v;have:=io D b1;rw[d];lia)
       rw[lG I B]at al;rw[pd];refine l0 (λf4=>bt<|jc.a S<|sW al.1 al.2.1 al.2.2<|.inl f4) λf4=>?_;have R:hS Q Vr i u (([i.getD (g-1) 0]++k).reverse.map<|br Vr).toArray (g-1) r:=⟨_,rfl,al.1,al.2.1,al.2.2,⋯,l.kD,⋯,l.uq⟩;exact l2 (λ_=>bt (jc.b S R ⋯)) λ_=>bt (ry.k S R ⋯)
def Kd{B:Type}{ay:gc}{C:PUnit->B->ao->Prop}{Y a:B}{j:ao}(e:C ⟨⟩ a j):kasC ay O Vo (set a:StateT B dD PUnit) C Y j:=by
 unfold kasC;rw[StateT.run_set];exact aR e
theorem AM{VM:Type}:∀(I:List VM) (a:List VM) (p b U:Nat),p+I.length<=a.length->p=U+b->((I.zipIdx b).foldl (λ(h:Array VM) (f:VM×Nat)=>h.setIfInBounds (U+f.2) f.1) a.toArray)=(a.take p++I++a.drop (p+I.length)).toArray
 |[],a,p,b,U,e,d=>by simp
 |f::I,a,p,b,U,e,d=>by
  rw[dn]at e;rw[List.zipIdx_cons,jT];dsimp only;rw[<-d,H2,AM I (a.set p f) (p+1) (b+1) U (by rw[tZ];lia) ⋯];congr 1;have c:(a.set p f).take (p+1)=a.take p++[f]:=by
   apply pv;intro g;rw[oh,List.getElem?_append,gN,oh,CJ];by_cases t:g<p
   ·rw[aF ⋯,aJ ⋯,aF ⋯,aF t]
   ·by_cases A:g=p
    ·subst A;rw[aF ⋯,aF rfl,aF ⋯,aJ ⋯];simp[show g-min g a.length=0 by lia]
    ·rw[aJ ⋯,aJ ⋯];rw[rW];rw[iJ];lia
  have i:(a.set p f).drop (p+1+I.length)=a.drop (p+(I.length+1)):=by
   apply pv;intro g;rw[m1,m1,CJ,aJ ⋯];congr 1;lia
  rw[c,i,dn,bk,bk,bk];rfl
def DS{a b k:List Nat}{q l:Nat}(n:cB Q a)(o:cB Q b)(u:0<b.length)(v:0<a.length)(t:∀f∈a.take q,Q f<=Q (b.getD 0 0))(p:∀f∈b.drop l,Q (a.getD (a.length-1) 0)<=Q f)(i:k.Perm (a.drop q++b.take l))(Wz:cB Q k):cB Q (a.take q++k++b.drop l)/\(a.take q++k++b.drop l).Perm (a++b):=by
 have j:∀z∈b,Q (b.getD 0 0)<=Q z:=λz d=>by
  let⟨@r,W,m,rfl⟩:=jO (g:=0) (I:=b) (by rwa [nx]);exact oM o (hl _) m
 have s:∀f∈a,Q f<=Q (a.getD (a.length-1) 0):=λf c=>by
  let⟨@r,W,m,rfl⟩:=jO (g:=0) (I:=a) (by rwa [nx]);exact oM n (by omega) (by omega)
 have e:cB Q (a.take q++a.drop q):=by rwa [fz]
 have h:cB Q (b.take l++b.drop l):=by rwa [fz]
 have e:=fB.mp e;have h:=fB.mp h;refine⟨fB.mpr ⟨fB.mpr ⟨e.1,Wz,λf c z d=>?_⟩,h.2.1,λf c z d=>?_⟩,?_⟩
 ·rcases du.mp (i.mem_iff.mp d) with d|d
  ·exact e.2.2 f c z d
  ·exact zp (t f c) (j z<|oV d)
 ·rcases du.mp c with c|c
  ·exact zp (t f c) (j z<|m3 d)
  ·rcases du.mp (i.mem_iff.mp c) with c|c
   ·exact zp (s f<|m3 c) (p z d)
   ·exact h.2.2 f c z d
 ·refine (e1 _<|dZ _ i).trans ?_;rw[<-bk,fz,bk,fz]
def Oh(P:fY x Q (fo Vs H O VO Vr) j){b:List Nat}(D:∀f∈b,f<x){g aN y w bi fd:Nat}{Y:bL}(v:PyProof.Rows.kindOf Y=VO)(fn:arrOf Y=(b.map<|br Vr).toArray)(R:hQ Y=X)(Vl:(h1 Y)[g]?=Z (aN,y,bi))(J:(h1 Y)[g+1]?=Z (aN+y,w,fd))(fr:0<y)(bm:0<w)(gl:aN+y+w<=b.length)(A:cB Q ((b.drop aN).take y))(B:cB Q ((b.drop<|aN+y).take w)){C:Bool->bL->ao->Prop}(e:∀mid s,PyProof.Rows.kindOf s=VO->hQ s=X->h1 s=((h1 Y).setIfInBounds g (aN,y+w,bi)).eraseIdxIfInBounds (g+1)->mid.Perm ((b.drop aN).take<|y+w)->cB Q mid->
   arrOf s=((b.take aN++mid++b.drop (aN+(y+w))).map<|br Vr).toArray->C V s j):
  kasC (aO Vs H) O Vo (vD g) C Y j:=by
 have bn:((b.drop aN).take y).length=y:=by rw[gN,hc];lia
 have f0:((b.drop<|aN+y).take w).length=w:=by rw[gN,hc];lia
 have E:∀r,r<y->((b.drop aN).take y).getD r 0=b.getD (aN+r) 0:=λr J=>by simp[List.getD,oh,m1,J]
 have G:∀r,r<w->((b.drop<|aN+y).take w).getD r 0=b.getD (aN+y+r) 0:=λr J=>by simp[List.getD,oh,m1,J]
 have S:(b.drop aN).take y++(b.drop<|aN+y).take w=(b.drop aN).take (y+w):=by rw[<-ox,o6]
 have bs:b.take aN++(b.drop aN).take (y+w)++b.drop (aN+(y+w))=b:=by rw[o6,fz]
 have bv:∀g r,aN<=g->g<=r->r<aN+y->Q (b.getD g 0)<=Q (b.getD r 0):=λg r h c o=>by
  have:=oM A (g:=g-aN) (r:=r-aN) ⋯ ⋯
  rwa [E _ ⋯,E _ ⋯,show aN+(g-aN)=g by lia,show aN+(r-aN)=r by lia]at this
 have ca:∀g r,aN+y<=g->g<=r->r<aN+y+w->Q (b.getD g 0)<=Q (b.getD r 0):=λg r h c o=>by
  have:=oM B (g:=g-(aN+y)) (r:=r-(aN+y)) ⋯ ⋯
  rwa [G _ ⋯,G _ ⋯,show aN+y+(g-(aN+y))=g by lia,show aN+y+(r-(aN+y))=r by lia]at this
 have Wx:∀f∈(b.drop aN).take y,∃r,aN<=r/\r<aN+y/\f=b.getD r 0:=λf n=>by
  let⟨@r,L,b1,rfl⟩:=qN n;exact⟨aN+r,⋯,⋯,rfl⟩
 have cd:∀f∈(b.drop<|aN+y).take w,∃r,aN+y<=r/\r<aN+y+w/\f=b.getD r 0:=λf n=>by
  let⟨@r,L,b1,rfl⟩:=qN n;exact⟨aN+y+r,⋯,⋯,rfl⟩
 unfold vD;with_unfolding_all refine bw (jV ?_);simp only[Vl,J,fn];refine bw (Kd ?_);refine bw (gv (show aN+y<b.length by lia) ?_);refine bw (xa P (jj D (show aN+y<b.length by lia)) D (VB:=aN) (l:=y) (a:=0) ⋯ fr bv (by exact v) ?_);intro q ce ch f2;dsimp only;by_cases ci:y-q=0
 ·rw[aF ⇑ci];refine bt (e _ _ (by exact v) (by exact R) rfl (List.Perm.refl _) ?_ ?_)
  ·rw[<-S];refine fB.mpr ⟨A,B,λf n z T=>?_⟩;let⟨@r,b1,f4,rfl⟩:=Wx f n;let⟨@U,cl,al,rfl⟩:=cd z T;have:=ch r b1 ⋯;have:=ca (aN+y) U ⋯ cl al;lia
  ·rw[bs]
 rw[aJ ⇑ci];rw[show aN+q+(y-q)-1=aN+y-1 by lia];refine bw (gv (show aN+y-1<b.length by lia) ?_);refine bw (x4 P (jj D (show aN+y-1<b.length by lia)) D (VB:=aN+y) (l:=w) (a:=w-1) ⋯ ⋯ ca (by exact v) ?_);intro i am f8 co;dsimp only;by_cases cr:i=0
 ·rw[aF ⇑cr];refine bt (e _ _ (by exact v) (by exact R) rfl (List.Perm.refl _) ?_ ?_)
  ·rw[<-S];refine fB.mpr ⟨A,B,λf n z T=>?_⟩;let⟨@r,b1,f4,rfl⟩:=Wx f n;let⟨@U,cl,al,rfl⟩:=cd z T;have:=co U ⋯ al;have:=bv r (aN+y-1) b1 ⋯ ⋯;lia
  ·rw[bs]
 rw[aJ ⇑cr];have ga:(b.map<|br Vr).toArray.extract (aN+q) (aN+y)=((((b.drop aN).take y).drop q).map<|br Vr).toArray:=by
  apply km;simp only[Bk,List.extract_eq_drop_take,jq,jx];rw[sN,ox,show aN+y-(aN+q)=y-q by lia]
 have ge:(b.map<|br Vr).toArray.extract (aN+y) (aN+y+i)=((((b.drop<|aN+y).take w).take i).map<|br Vr).toArray:=by
  apply km;simp only[Bk,List.extract_eq_drop_take,jq,jx];rw[vA,tM am,show aN+y+i-(aN+y)=i by lia]
 rw[ga,ge];have t:∀f∈((b.drop aN).take y).take q,Q f<=Q (((b.drop<|aN+y).take w).getD 0 0):=λf n=>by
  rw[G 0 bm];let⟨@r,L,b1,rfl⟩:=l9 n;rw[E r ⋯];exact ch _ ⋯ ⋯
 have cs:∀f∈((b.drop<|aN+y).take w).drop i,Q (((b.drop aN).take y).getD (((b.drop aN).take y).length-1) 0)<=Q f:=λf n=>by
  rw[bn,E _ ⋯];let⟨@r,L,b1,rfl⟩:=jO n;rw[G r ⋯,show aN+(y-1)=aN+y-1 by lia];exact co _ ⋯ ⋯
 have db:∀f∈((b.drop aN).take y).drop q,Q ((((b.drop<|aN+y).take w).take i).getD 0 0)<=Q f:=λf n=>by
  rw[show (((b.drop<|aN+y).take w).take i).getD 0 0=((b.drop<|aN+y).take w).getD 0 0 by simp only[List.getD,oh,aF (show 0<i by lia)],G 0 bm];let⟨@r,L,b1,rfl⟩:=jO n;rw[E r ⋯];have:=f2 (aN+r) ⋯ ⋯;rw[xI];lia
 have an:(((b.drop aN).take y).drop q).length=y-q:=by rw[hc,bn]
 have ds:(((b.drop<|aN+y).take w).take i).length=i:=by rw[gN,f0];lia
 have dL:∀f∈((b.drop<|aN+y).take w).take i,Q f<=Q ((((b.drop aN).take y).drop q).getD ((((b.drop aN).take y).drop q).length-1) 0):=λf n=>by
  rw[an,show (((b.drop aN).take y).drop q).getD (y-q-1) 0=((b.drop aN).take y).getD (y-1) 0 by simp only[List.getD,m1,show q+(y-q-1)=y-1 by lia],E _ ⋯,show aN+(y-1)=aN+y-1 by lia];let⟨@r,L,b1,rfl⟩:=l9 n;rw[G r ⋯];have:=f8 (aN+y+r) ⋯ ⋯;lia
 have eq:∀f∈((b.drop aN).take y).drop q,f<x:=λf n=>D f (m3<|oV<|m3 n);have ev:∀f∈((b.drop<|aN+y).take w).take i,f<x:=λf n=>D f (m3<|oV<|oV n);by_cases ex:y-q<=i
 ·rw[aF ex];refine bw (Uy P eq ev (A.sublist<|tT _ _) (B.sublist<|rh _ _) ⋯ ⋯ db dL (by exact v) ?_);intro out s ap u;let⟨@k,rfl,M,as⟩:=ap;have N:=DS (Q:=Q) A B ⋯ ⋯ t cs M as;refine bw (kA ?_);refine bw (jV ?_);refine bt ?_;have d:hQ s=X:=u.f.trans R;show C (hQ s).isNone _ j;rw[d];refine e (((b.drop aN).take y).take q++k++((b.drop<|aN+y).take w).drop i) _ (u.k.trans v) (by first|rfl|exact d) (by exact u.p) (by rw[<-S];exact N.2) N.1 ?_;have a1:arrOf s=(b.map<|br Vr).toArray:=u.a;have aZ:k.length=y-q+i:=by rw[M.length_eq,dd,an,ds]
  have a2:=AM (k.map<|br Vr) (b.map<|br Vr) (aN+q) 0 (aN+q) (by rw[a8,a8,aZ];lia) rfl;show List.foldl (λh f=>h.setIfInBounds (aN+q+f.2) f.1) (arrOf s) (k.map<|br Vr).toArray.toList.zipIdx=_;rw[a1];refine a2.trans ?_;rw[a8,aZ,<-jx,<-jq,<-fi,<-fi];congr 2;have bd:b.take (aN+q)=b.take aN++((b.drop aN).take y).take q:=by
   rw[vA,tM ce,o6]
  have be:b.drop (aN+q+(y-q+i))=((b.drop<|aN+y).take w).drop i++b.drop (aN+(y+w)):=by
   have:=Af (I:=b.drop (aN+y)) (g:=i) (r:=w) am (by rw[hc];lia);rw[ox,ox]at this;rw[show aN+q+(y-q+i)=aN+y+i by lia,this,show aN+y+w=aN+(y+w) by lia]
  rw[bd,be];simp only[bk]
 ·rw[aJ ex];refine bw (Mc P eq ev (A.sublist<|tT _ _) (B.sublist<|rh _ _) ⋯ ⋯ db dL (by exact v) ?_);intro out s ap u;let⟨@k,rfl,M,as⟩:=ap;have N:=DS (Q:=Q) A B ⋯ ⋯ t cs M as;refine bw (kA ?_);refine bw (jV ?_);refine bt ?_;have d:hQ s=X:=u.f.trans R;show C (hQ s).isNone _ j;rw[d];refine e (((b.drop aN).take y).take q++k++((b.drop<|aN+y).take w).drop i) _ (u.k.trans v) (by first|rfl|exact d) (by exact u.p) (by rw[<-S];exact N.2) N.1 ?_;have a1:arrOf s=(b.map<|br Vr).toArray:=u.a;have aZ:k.length=y-q+i:=by rw[M.length_eq,dd,an,ds]
  have a2:=AM (k.map<|br Vr) (b.map<|br Vr) (aN+q) 0 (aN+q) (by rw[a8,a8,aZ];lia) rfl;show List.foldl (λh f=>h.setIfInBounds (aN+q+f.2) f.1) (arrOf s) (k.map<|br Vr).toArray.toList.zipIdx=_;rw[a1];refine a2.trans ?_;rw[a8,aZ,<-jx,<-jq,<-fi,<-fi];congr 2;have bd:b.take (aN+q)=b.take aN++((b.drop aN).take y).take q:=by
   rw[vA,tM ce,o6]
  have be:b.drop (aN+q+(y-q+i))=((b.drop<|aN+y).take w).drop i++b.drop (aN+(y+w)):=by
   have:=Af (I:=b.drop (aN+y)) (g:=i) (r:=w) am (by rw[hc];lia);rw[ox,ox]at this;rw[show aN+q+(y-q+i)=aN+y+i by lia,this,show aN+y+w=aN+(y+w) by lia]
  rw[bd,be];simp only[bk]
end
section
variable{Vs:bE}{H:bg}{O:bq}{Vo:ae->ao->Prop}{VO:gR}{Vr:Array bA}{Q:Nat->Int}{x:Nat}{j:ao}{n:Array (Nat×Nat×Nat)}
structure eK(VO:gR)(Vr:Array bA)(n:Array (Nat×Nat×Nat))(Y:bL)(p:Array Nat):Prop where
 k:PyProof.Rows.kindOf Y=VO
 a:arrOf Y=p.map (br Vr)
 p:h1 Y=n
 f:hQ Y=X
def rC(i:fY x Q (fo Vs H O VO Vr) j){m:Array Nat}(c:c5 x m){g r:Nat}(Vl:g<x)(d:r<x){Y:bL}(b:eK VO Vr n Y m){C:Option Bool->bL->ao->Prop}(e:C (Z<|decide (bp Q m g<bp Q m r)) Y j):
  kasC (aO Vs H) O Vo (n3 g r) C Y j:=by
 have f:∀g,g<x->(m.map<|br Vr)[g]?=Z (br Vr<|m.getD g 0):=λg Vl=>by
  have:g<m.size:=by rw[c.size];exact Vl
  simp[Array.getD,this]
 rw[ltAt'_eq];refine bw (jV ?_);rw[b.a];dsimp only;rw[t9,t9,f g Vl,f r d];refine bw (bt ?_);refine bw (bt ?_);exact td i (c.lt Vl) (c.lt d) b.k e
variable{m:Array Nat}
def tC{Y:bL}(b:eK VO Vr n Y m){g r:Nat}{C:Unit->bL->ao->Prop}(e:∀c,eK VO Vr n c (my m g r)->C () c j):kasC (aO Vs H) O Vo (tc g r) C Y j:=by
 rw[reverseSlice'_eq];refine kA (e _ ⟨b.k,?_,b.p,b.f⟩);show mirror (arrOf Y) g r ((r-g)/2)=_;rw[b.a];exact EX (br Vr) (λq=>g+q) (λq=>r-1-q) _ m
def OJ{Y:bL}(b:eK VO Vr n Y m){g r:Nat}{C:Unit->bL->ao->Prop}(e:∀c,eK VO Vr n c (q8 m g<|g-r)->C () c j):kasC (aO Vs H) O Vo (moveDown' g r) C Y j:=by
 rw[moveDown'_eq];refine kA (e _ ⟨b.k,?_,b.p,b.f⟩);show q8 (arrOf Y) g (g-r)=_;rw[b.a];exact EX (br Vr) (λq=>g-q) (λq=>g-q-1) _ m
theorem sM{B Wm:Type}{ay:gc}{F:Nat->Wm->StateT B dD (ForInStep Wm)}{C:Wm->B->ao->Prop}(y:Nat->Wm->B->ao->Prop)(VE:Nat)(step:∀f o Y Vm,f<VE->y f o Y Vm->kasC ay O Vo (F f o) (λs a b=>match s with | .yield V9=>y (f+1) V9 a b | .done V9=>C V9 a b) Y Vm):∀(l h:Nat) (o:Wm) (Y:B) (Vm:ao),h+l<=VE->(∀o Y Vm,y (h+l) o Y Vm->C o Y Vm)->y h o Y Vm->
   kasC ay O Vo (forIn (range' h l) o F) C Y Vm
 |0,h,o,Y,Vm,c,fin,e=>by
  show kasC ay O Vo (forIn ([]:List Nat) o F) C Y Vm;exact kasC_nil (fin o Y Vm e)
 |l+1,h,o,Y,Vm,c,fin,e=>by
  show kasC ay O Vo (forIn (h::range' (h+1) l) o F) C Y Vm;refine kasC_cons (hk (step h o Y Vm ⋯ e) (λs b Vk=>?_) λ_ W d=>d);let⟨s,a⟩:=s;cases s with
  |done V9=>exact Vk
  |yield V9=>exact sM y VE step l (h+1) V9 a b ⋯ (λo Y Vm Vl=>fin o Y Vm (by rw[show h+(l+1)=h+1+l by lia];exact Vl)) Vk
end
section
variable{Vs:bE}{H:bg}{O:bq}{Vo:ae->ao->Prop}{VO:gR}{Vr:Array bA}{Q:Nat->Int}{x:Nat}{j:ao}{n:Array (Nat×Nat×Nat)}
def hU(Q:Nat->Int)(m:Array Nat)(M l:Nat):Prop:=(∀g r,M<=g->g<=r->r<M+l->bp Q m g<=bp Q m r)
def EW{m:Array Nat}{M l:Nat}(e:∀r,M+1<=r->r<M+l->bp Q m (r-1)<=bp Q m r):hU Q m M l:=by
 intro g r Vl a b;obtain⟨v,rfl⟩:∃v,r=g+v:=⟨r-g,⋯⟩;clear a;induction v with
 |zero=>exact mU _
 |succ v d=>
  have h:=d ⋯;have c:=e (g+(v+1)) ⋯ b;rw[show g+(v+1)-1=g+v by lia]at c;lia
def JP(al:fY x Q (fo Vs H O VO Vr) j){m:Array Nat}(am:c5 x m){M l i:Nat}(be:M+l<=x)(t:1<=i)(bi:i<=l)(k:hU Q m M i){Y:bL}(b:eK VO Vr n Y m){C:Bool->bL->ao->Prop}(e:∀y a,c5 x y->eK VO Vr n a y->(∀g,g<M->y[g]?=m[g]?)->hU Q y M l->C V a j):
  kasC (aO Vs H) O Vo (binarySort' M l i) C Y j:=by
 rw[binarySort'_eq];rw[show max i 1=i by lia];with_unfolding_all refine bw (hY (a:=λo a Vm=>j=Vm/\o=(X,())/\∃p,c5 x p/\eK VO Vr n a p/\(∀g,g<M->p[g]?=m[g]?)/\hU Q p M l)
  (fZ (sM (λf o a Vm=>j=Vm/\o=(X,())/\1<=f/\∃p,c5 x p/\eK VO Vr n a p/\(∀g,g<M->p[g]?=m[g]?)/\hU Q p M f) l ?step _ _ _ _ _ ⋯ ?fin ⟨rfl,rfl,t,m,am,b,λ_ W=>rfl,k⟩)) ?after)
 case after=>
  rintro o a Vm ⟨rfl,rfl,p,B,D,E,A⟩;exact bt (e p _ B D E A)
 case fin=>
  rintro o a Vm ⟨rfl,rfl,bm,p,B,D,E,A⟩;rw[show i+(l-i)=l by lia]at A;exact⟨rfl,rfl,p,B,D,E,A⟩
 case step=>
  rintro q o a Vm bn ⟨rfl,rfl,bs,p,F,T,ap,k⟩;dsimp only;have as:∀g,M<=g->g<M+0->bp Q p g<=bp Q p (M+q):=λg h c=>⋯
  have a1:∀g,M+q<=g->g<M+q->bp Q p (M+q)<=bp Q p g:=λg h c=>⋯
  refine bw (hY (a:=λo u Vm=>j=Vm/\a=u/\∃I s,o=(X,I,s)/\I<=q/\(∀g,M<=g->g<M+I->bp Q p g<=bp Q p (M+q))/\(∀g,M+I<=g->g<M+q->bp Q p (M+q)<=bp Q p g))
   (fZ (sM (λf o u Vm=>j=Vm/\a=u/\∃I s,o=(X,I,s)/\I<=s/\s<=q/\s-I<=q-f/\(∀g,M<=g->g<M+I->bp Q p g<=bp Q p (M+q))/\(∀g,M+s<=g->g<M+q->bp Q p (M+q)<=bp Q p g)) q ?s2 _ _ _ _ _ ⋯ ?f2 ⟨rfl,rfl,0,q,rfl,⋯,⋯,⋯,as,a1⟩)) ?Wt)
  case f2=>
   rintro o u Vm ⟨rfl,rfl,I,s,rfl,cE,cQ,oP,jy,v⟩;exact⟨rfl,rfl,I,s,rfl,⋯,jy,λg f z=>v g ⋯ z⟩
  case s2=>
   rintro f o u Vm bv ⟨rfl,rfl,I,s,rfl,cE,cQ,oP,jy,v⟩;dsimp only;by_cases d:I >= s
   ·rw[aF d];exact bt ⟨rfl,rfl,I,s,rfl,⋯,jy,λg f z=>v g ⋯ z⟩
   rw[aJ d];have G:I<=(I+s)/2:=⋯
   have a2:(I+s)/2<s:=⋯
   have J:(I+s)/2-I<=q-(f+1):=⋯
   have N:s-((I+s)/2+1)<=q-(f+1):=⋯
   generalize (I+s)/2=mid at G a2 J N ⊢;refine bw (rC al F ⋯ ⋯ T ?_);dsimp only;by_cases P:bp Q p (M+q)<bp Q p (M+mid)
   ·rw[aF ⇑P];refine bt ⟨rfl,rfl,I,mid,rfl,G,⋯,J,jy,λg f z=>?_⟩;have:=k (M+mid) g ⋯ f z;lia
   ·rw[aJ ⇑P];refine bt ⟨rfl,rfl,mid+1,s,rfl,⋯,cQ,N,λg f z=>?_,v⟩;have:=k g (M+mid) f ⋯ ⋯;lia
  case Wt=>
   rintro o u Vm ⟨rfl,rfl,I,s,rfl,cE,jy,v⟩;dsimp only;refine bw (OJ T ?_);intro ca bd;have L:∀g,(q8 p (M+q)<|M+q-(M+I))[g]?=if g=M+I then p[M+q]? else if M+I<g/\g<=M+q then p[g-1]? else p[g]?:=λg=>by
    have:=getElem?_bubble (xs:=p) (src:=M+q) (by rw[F.size];lia) (M+q-(M+I)) ⋯ g
    rwa [show M+q-(M+q-(M+I))=M+I by lia]at this
   have a_:∀g,bp Q (q8 p (M+q)<|M+q-(M+I)) g=if g=M+I then bp Q p (M+q) else if M+I<g/\g<=M+q then bp Q p (g-1) else bp Q p g:=λg=>by
    have L:=L g;by_cases d:g=M+I
    ·rw[aF d]at L ⊢;exact mN L
    ·rw[aJ d]at L ⊢;by_cases R:M+I<g/\g<=M+q
     ·rw[aF R]at L ⊢;exact mN L
     ·rw[aJ R]at L ⊢;exact mN L
   refine bt ⟨rfl,rfl,⋯,_,F.Sd _ _,bd,λg Vl=>by rw[L,aJ ⋯,aJ ⋯];exact ap g Vl,EW λr f z=>?_⟩;rw[a_,a_];by_cases S:r-1=M+I
   ·rw[aF S,aJ ⋯,aF ⋯];exact v (r-1) ⋯ ⋯
   ·rw[aJ S];by_cases U:r=M+I
    ·rw[aF U,aJ ⋯];exact jy (r-1) ⋯ ⋯
    ·rw[aJ U];by_cases ce:M+I<r-1
     ·rw[aF ⋯,aF ⋯];exact k _ _ ⋯ ⋯ ⋯
     ·rw[aJ ⋯,aJ ⋯];exact k _ _ ⋯ ⋯ ⋯
def ez(Q:Nat->Int)(m:Array Nat):Nat->List (Nat×Nat×Nat)->Nat->Prop
 |h,[],c=>h=c
 |h,(f,I,_)::D,c=>f=h/\0<I/\hU Q m f I/\ez Q m (h+I) D c
variable{m:Array Nat}
theorem ez.le:∀{D:List (Nat×Nat×Nat)}{h c:Nat},ez Q m h D c->h+D.length<=c
 |[],h,c,e=>by rw[show c=h from e.symm];exact bD _
 | (f,I,_)::D,h,c,e=>by
  have:=e.2.2.2.le;have:=e.2.1;rw[dn];lia
theorem ez.congr{p:Array Nat}:∀{D:List (Nat×Nat×Nat)}{h c:Nat},ez Q m h D c->(∀g,h<=g->g<c->bp Q p g=bp Q m g)->ez Q p h D c
 |[],h,c,e,_=>e
 | (f,I,_)::D,h,c,e,L=>by
  have:=e.2.2.2.le;let@⟨rfl,A,a,b⟩:=e;refine⟨rfl,A,λg r Vl d i=>?_,b.congr λg h c=>L g ⋯ c⟩;rw[L g Vl ⋯,L r ⋯ ⋯];exact a g r Vl d i
theorem ez.app{m:Array Nat}:∀{D J:List (Nat×Nat×Nat)}{h c:Nat},ez Q m h (D++J) c↔∃o,ez Q m h D o/\ez Q m o J c
 |[],J,h,c=>⟨λe=>⟨h,rfl,e⟩,λ⟨o,d,e⟩=>by rw[show h=o from d];exact e⟩
 | (f,I,i)::D,J,h,c=>by
  show (f=h/\0<I/\hU Q m f I/\ez Q m (h+I) (D++J) c)↔_;rw[ez.app];constructor
  ·rintro⟨t,A,a,o,b,g⟩;exact⟨o,⟨t,A,a,b⟩,g⟩
  ·rintro⟨o,⟨t,A,a,b⟩,g⟩;exact⟨t,A,a,o,b,g⟩
def OW{VM:Type}{I:List VM}{g:Nat}(e:g+1<I.length):∃a f z b,I=a++f::z::b/\a.length=g:=by
 refine⟨I.take g,I[g]'⋯,I[g+1],I.drop<|g+2,?_,by rw[gN];lia⟩;have c:=i6 (l:=I) (i:=g) ⋯;have d:=i6 (l:=I) (i:=g+1) e;rw[<-d,<-c,fz]
def uL(I:List Nat)(g:Nat):bp Q I.toArray g=Q (I.getD g 0):=by unfold bp;rw[lO]
def B8(S:fY x Q (fo Vs H O VO Vr) j){m:Array Nat}(G:c5 x m){Y:bL}(b:eK VO Vr n Y m){M g:Nat}(Vl:g+1<n.size)(Vp:ez Q m 0 n.toList M)(cr:M<=x){C:Bool->bL->ao->Prop}(e:∀J v z,c5 x v->eK VO Vr J z v->J.size+1=n.size->ez Q v 0 J.toList M->(∀g,M<=g->bp Q v g=bp Q m g)->C V z j):kasC (aO Vs H) O Vo (vD g) C Y j:=by
 let⟨i,⟨aN,y,s⟩,⟨cP,w,B⟩,@u,d,rfl⟩:=OW (I:=n.toList) (g:=g) ⇑Vl;rw[d]at Vp;let⟨@o,T,rfl,U,al,rfl,am,an,bR⟩:=ez.app.mp Vp;have cQ:=bR.le;have D:n=(i++(aN,y,s)::(aN+y,w,B)::u).toArray:=by rw[<-d]
 have ap:m.size=x:=G.size;have as:∀f∈m.toList,f<x:=λf a1=>gI.mp (G.mem_iff.mp a1);have E:∀g,bp Q m g=Q (m.toList.getD g 0):=λg=>uL m.toList g;have aZ:m.toList.length=x:=by rw[df,ap]
 have L:∀h l,h+l<=x->hU Q m h l->cB Q ((m.toList.drop h).take l):=λh l cs e=>by
  refine n1.mpr λg r Vl a2 db=>?_;have bd:=Vl;have be:=a2;rw[gN,hc,aZ]at bd be;have:=e (h+g) (h+r) ⋯ ⋯ ⋯;rw[E,E]at this;rw[u5,ps,u5,ps];rw[cK,cK,dN ⋯,dN ⋯]at this;exact this
 refine Oh S (b:=m.toList) as (g:=i.length) (aN:=aN) (y:=y) (w:=w) (bi:=s) (fd:=B) b.k (by rw[b.a];apply km;simp) b.f (by rw[b.p,D];simp) (by rw[b.p,D];simp) U am ⋯ (L _ _ ⋯ al) (L _ _ ⋯ an) ?_;intro mid z bi bm bn N bs bv;have ca:mid.length=y+w:=by rw[N.length_eq,gN,hc,aZ];lia
 have cd:m.toList.take aN++(m.toList.drop aN).take (y+w)++m.toList.drop (aN+(y+w))=m.toList:=by rw[o6,fz]
 have ce:c5 x (m.toList.take aN++mid++m.toList.drop (aN+(y+w))).toArray:=by
  show (m.toList.take aN++mid++m.toList.drop (aN+(y+w))).Perm (range x);refine List.Perm.trans (e1 _<|dZ _ N) ?_;rw[cd];exact G
 have WY:(m.toList.take aN).length=aN:=by rw[gN,aZ];lia
 have ch:∀g,g<aN->bp Q (m.toList.take aN++mid++m.toList.drop (aN+(y+w))).toArray g=bp Q m g:=λg Vl=>by
  rw[uL,E];congr 1;rw[cK,cK,bk,nh ⋯,oh,aF Vl]
 have P:∀g,aN+(y+w)<=g->bp Q (m.toList.take aN++mid++m.toList.drop (aN+(y+w))).toArray g=bp Q m g:=λg Vl=>by
  rw[uL,E];congr 1;rw[cK,cK,lX (by rw[dd];lia),m1,dd,WY,ca];congr 2;lia
 have R:∀g,aN<=g->g<aN+(y+w)->bp Q (m.toList.take aN++mid++m.toList.drop (aN+(y+w))).toArray g=Q (mid.getD (g-aN) 0):=λg t A=>by
  rw[uL];congr 1;rw[cK,cK,bk,lX ⋯,WY,nh ⋯]
 have ci:((i++(aN,y,s)::(aN+y,w,B)::u).toArray.setIfInBounds i.length (aN,y+w,s)).eraseIdxIfInBounds (i.length+1)=(i++(aN,y+w,s)::u).toArray:=by
  rw[H2,List.set_append_right _ _<|bD _,DT,HC];rw[z9,List.eraseIdx_append_of_length_le ⋯,show i.length+1-i.length=1 by lia];rfl
 refine e ((i++(aN,y+w,s)::u).toArray) _ z ce ⟨bi,by rw[bv];apply km;simp,by rw[bn,b.p,D,ci],bm⟩ (by rw[D];simp;lia) ?_ (λg Vl=>P g ⋯);have cl:ez Q m (aN+(y+w)) u M:=by rw[<-sH];exact bR
 refine ez.app.mpr ⟨aN,T.congr λg W c=>ch g c,rfl,⋯,λg r t A co=>?_,cl.congr λg h c=>P g h⟩
 ·rw[R g t ⋯,R r ⋯ co];exact oM bs ⋯ ⋯
end
section
variable{Vs:bE}{H:bg}{O:bq}{Vo:ae->ao->Prop}{VO:gR}{Vr:Array bA}{Q:Nat->Int}{x:Nat}{j:ao}{n:Array (Nat×Nat×Nat)}
variable{p:Array Nat}
def tw(a:c5 x p){g r:Nat}(b:r<=x)(q:Nat):(my p g r)[q]?=if g<=q/\q<r then p[g+r-1-q]? else p[q]?:=by
 unfold my;rw[getElem?_mirror_all (by rw[a.size];lia)]
def ON(a:c5 x p){g r:Nat}(b:r<=x)(d:∀q,g<=q->q<r->bp Q p q=bp Q p g)(q:Nat):bp Q (my p g r) q=bp Q p q:=by
 by_cases e:g<=q/\q<r
 ·rw[mN (show (my p g r)[q]?=p[g+r-1-q]? by rw[tw a b,aF e]),d _ ⋯ ⋯,d q e.1 e.2]
 ·exact mN (by rw[tw a b,aJ e])
structure ht(Q:Nat->Int)(x M:Nat)(m p:Array Nat):Prop where
 gw:c5 x p
 be:∀g,g<M->p[g]?=m[g]?
 a_:∀q,bp Q p q=bp Q m q
def ht.rev{M:Nat}{m:Array Nat}(E:ht Q x M m p){g r:Nat}(Vl:M<=g)(a:r<=x)(d:∀q,g<=q->q<r->bp Q m q=bp Q m g):ht Q x M m (my p g r):=
 ⟨E.gw.rev g r,λq b=>by rw[tw E.gw a,aJ ⋯];exact E.be q b,λq=>by
  rw[ON E.gw a (λq h c=>by rw[E.a_,E.a_];exact d q h c)];exact E.a_ q⟩
theorem E7{F:Nat->Int}{h c:Nat}(e:∀r,h+1<=r->r<c->F r=F (r-1)):∀v,h+v<c->F (h+v)=F h
 |0,_=>rfl
 |v+1,hd=>(e (h+(v+1)) ⋯ hd).trans (E7 e v ⋯)
def Ef(k:fY x Q (fo Vs H O VO Vr) j){M a:Nat}(u:M+a<=x){p:Array Nat}{e:bL}{h:Nat}(m:c5 x p)(Vt:eK VO Vr n e p)(v:1<=h)(Wt:h<=a)(q:∀r,M+1<=r->r<M+h->bp Q p (r-1)<=bp Q p r):
   kasC (aO Vs H) O Vo (forIn [h:a] ((X:Option (Option Nat)),h) λf o=>n3 (M+o.2) (M+o.2-1) >>= λs=>match s with
    |some t=>if t=V then pure (ForInStep.done (X,o.2)) else pure (ForInStep.yield (X,o.2+1))
    |f=>pure<|ForInStep.done (Z X,o.2))
    (λo b Vm=>j=Vm/\e=b/\∃l,o=(X,l)/\h<=l/\l<=a/\(∀r,M+1<=r->r<M+l->bp Q p (r-1)<=bp Q p r)/\(l=a\/bp Q p (M+l)<bp Q p (M+l-1))) e j:=by
 refine fZ (sM (λf o b Vm=>j=Vm/\e=b/\o=(X,f)/\h<=f/\∀r,M+1<=r->r<M+f->bp Q p (r-1)<=bp Q p r) a ?_ _ _ _ _ _ ⋯ ?_ ⟨rfl,rfl,rfl,bD _,q⟩)
 ·rintro f o b Vm w ⟨rfl,rfl,rfl,i,c⟩;dsimp only;refine bw (rC k m ⋯ ⋯ Vt ?_);dsimp only;by_cases g:bp Q p (M+f)<bp Q p (M+f-1)
  ·rw[aF ⇑g];exact bt ⟨rfl,rfl,f,rfl,i,⋯,c,.inr g⟩
  ·rw[aJ ⇑g];refine bt ⟨rfl,rfl,rfl,⋯,λr b1 y=>?_⟩;by_cases d:r=M+f
   ·subst d;lia
   ·exact c r b1 ⋯
 ·rintro o b Vm ⟨rfl,rfl,rfl,i,c⟩;rw[show h+(a-h)=a by lia]at c ⊢;exact⟨rfl,rfl,a,rfl,⋯,bD _,c,.inl rfl⟩
def uK(M a l:Nat): StateT bL dD (Option Nat):=(tc M (M+l) >>= λ_ => (forIn [l:a] ((X:Option (Option Nat)),l) λf o => n3 (M+o.2) (M+o.2-1) >>= λs => match s with
    |some b => if b=V then pure (ForInStep.done (X,o.2)) else pure (ForInStep.yield (X,o.2+1))
    |f => pure<|ForInStep.done (Z X,o.2)) >>= λo => match o.1 with
    |some s => pure s
    |none => pure (Z o.2))
def DL(M f:Nat)(o:Option (Option Nat)×Nat×Nat):StateT bL dD (ForInStep<|Option (Option Nat)×Nat×Nat):=(n3 (M+o.2.1) (M+o.2.1-1) >>= λs=>match s with
 |some a=>if a=V then (if o.2.2>0 then tc (M+o.2.1-(o.2.2+1)) (M+o.2.1) >>= λ_=>pure (.yield (X,o.2.1+1,0)) else pure (.yield (X,o.2.1+1,0)))
  else n3 (M+o.2.1-1) (M+o.2.1) >>= λs=>match s with
   |some b=>if b=V then pure (.done (X,o.2.1,o.2.2)) else pure (.yield (X,o.2.1+1,o.2.2+1))
   |f=>pure (.done (Z X,o.2.1,o.2.2))
 |f=>pure (.done (Z X,o.2.1,o.2.2)))
def t5(M a l:Nat):StateT bL dD (Option Nat):=(liftM (PySem.rule "list.sort.descending-run") >>= λ_=>forIn [l+1:a] ((X:Option (Option Nat)),l+1,0) (DL M) >>= λo=>match o.1 with
 |some s=>pure s
 |none=>if o.2.2>0 then tc (M+o.2.1-(o.2.2+1)) (M+o.2.1) >>= λ_=>uK M a o.2.1 else uK M a o.2.1)
def Fo(i:fY x Q (fo Vs H O VO Vr) j){M d l:Nat}(k:M+d<=x){m p:Array Nat}{Y:bL}(E:ht Q x M m p)(b:eK VO Vr n Y p)(q:1<=l)(s:l<=d)(t:∀r,M+1<=r->r<M+l->bp Q m r<=bp Q m (r-1)){C:Option Nat->bL->ao->Prop}(e:∀l a f,1<=l->l<=d->c5 x a->eK VO Vr n f a->(∀g,g<M->a[g]?=m[g]?)->(∀r,M+1<=r->r<M+l->bp Q a (r-1)<=bp Q a r)->C (Z l) f j):kasC (aO Vs H) O Vo (uK M d l) C Y j:=by
 unfold uK;refine bw (tC b λy VF=>?_);have L:=tw E.gw (g:=M) (r:=M+l) ⋯;have a_:∀g,M<=g->g<M+l->bp Q (my p M<|M+l) g=bp Q m (M+(M+l)-1-g):=λg h c=>(mN (by rw[L,aF ⟨h,c⟩])).trans (E.a_ _);refine bw (hY (Ef i k (E.gw.rev M<|M+l) VF q s λr b1 z=>?_) ?_)
 ·rw[a_ _ ⋯ ⋯,a_ _ ⋯ ⋯];have:=t (M+(M+l)-1-(r-1)) ⋯ ⋯;rw[show M+(M+l)-1-(r-1)-1=M+(M+l)-1-r by lia]at this;exact this
 ·rintro o f Vm ⟨rfl,rfl,u,rfl,A,v,w,B⟩;dsimp only;exact bt (e u _ _ ⋯ v (E.gw.rev M<|M+l) VF (λg Vl=>by rw[L,aJ ⋯];exact E.be g Vl) w)
def HY(A:fY x Q (fo Vs H O VO Vr) j){M k l:Nat}(D:M+k<=x){m p:Array Nat}{Y:bL}(E:ht Q x M m p)(b:eK VO Vr n Y p)(U:1<=l)(al:l<k)(N:∀r,M+1<=r->r<M+(l+1)->bp Q m r<=bp Q m (r-1)){C:Option Nat->bL->ao->Prop}(e:∀l y s,1<=l->l<=k->c5 x y->eK VO Vr n s y->(∀g,g<M->y[g]?=m[g]?)->(∀r,M+1<=r->r<M+l->bp Q y (r-1)<=bp Q y r)->C (Z l) s j):kasC (aO Vs H) O Vo (t5 M k l) C Y j:=by
 have aW:∀{f v:Nat},v+1<=f->(∀r,M+f-v<=r->r<M+f->bp Q m r=bp Q m (r-1))->∀q,M+f-(v+1)<=q->q<M+f->bp Q m q=bp Q m (M+f-(v+1)):=λ{f v} hd d q h c=>by
  have:=E7 (F:=bp Q m) (h:=M+f-(v+1)) (c:=M+f) (λr f z=>d r ⋯ z) (q-(M+f-(v+1))) ⋯
  rwa [show M+f-(v+1)+(q-(M+f-(v+1)))=q by lia]at this
 unfold t5;refine bw (oN<|j9 ?_);refine bw (hY (a:=λo s Vm=>j=Vm/\∃i f v,o=(X,f,v)/\eK VO Vr n s i/\ht Q x M m i/\l+1<=f/\f<=k/\v+1<=f/\(∀r,M+1<=r->r<M+f->bp Q m r<=bp Q m (r-1))/\∀r,M+f-v<=r->r<M+f->bp Q m r=bp Q m (r-1))
  (fZ (sM (λf o s Vm=>j=Vm/\∃i v,o=(X,f,v)/\eK VO Vr n s i/\ht Q x M m i/\l+1<=f/\v+1<=f/\(∀r,M+1<=r->r<M+f->bp Q m r<=bp Q m (r-1))/\∀r,M+f-v<=r->r<M+f->bp Q m r=bp Q m (r-1)) k ?V2 _ _ _ _ _ ⋯ ?V8 ⟨rfl,p,0,rfl,b,E,bD _,⋯,N,λr h c=>⋯⟩)) ?P)
 case V2=>
  rintro f o s Vm an ⟨rfl,i,v,rfl,T,a,B,w,t,u⟩;unfold DL;dsimp only;refine bw (rC A a.gw ⋯ ⋯ T ?_);dsimp only;rw[a.a_,a.a_];by_cases G:bp Q m (M+f)<bp Q m (M+f-1)
  ·rw[aF ⇑G];have I:∀r,M+1<=r->r<M+(f+1)->bp Q m r<=bp Q m (r-1):=λr b1 R=>by
    by_cases d:r=M+f
    ·subst d;lia
    ·exact t r b1 ⋯
   by_cases hd:v>0
   ·rw[aF hd];refine bw (tC T λS VF=>?_);exact bt ⟨rfl,_,0,rfl,VF,a.rev ⋯ ⋯<|aW w u,⋯,⋯,I,λr h c=>⋯⟩
   ·rw[aJ hd];exact bt ⟨rfl,i,0,rfl,T,a,⋯,⋯,I,λr h c=>⋯⟩
  ·rw[aJ ⇑G];refine bw (rC A a.gw ⋯ ⋯ T ?_);dsimp only;rw[a.a_,a.a_];by_cases J:bp Q m (M+f-1)<bp Q m (M+f)
   ·rw[aF ⇑J];exact bt ⟨rfl,i,f,v,rfl,T,a,B,⋯,w,t,u⟩
   ·rw[aJ ⇑J];refine bt ⟨rfl,i,v+1,rfl,T,a,⋯,⋯,λr b1 R=>?_,λr h c=>?_⟩
    ·by_cases d:r=M+f
     ·subst d;lia
     ·exact t r b1 ⋯
    ·by_cases d:r=M+f
     ·subst d;lia
     ·exact u r ⋯ ⋯
 case V8=>
  rintro o s Vm ⟨rfl,i,v,rfl,T,a,B,w,t,u⟩;rw[show l+1+(k-(l+1))=k by lia] at *;exact⟨rfl,i,k,v,rfl,T,a,B,bD _,w,t,u⟩
 case P=>
  rintro o s Vm ⟨rfl,i,f,v,rfl,T,a,B,L,w,t,u⟩;dsimp only;by_cases hd:v>0
  ·rw[aF hd];refine bw (tC T λS VF=>?_);exact Fo A D (a.rev ⋯ ⋯<|aW w u) VF ⋯ L t e
  ·rw[aJ hd];exact Fo A D a T ⋯ L t e
def E8(M a:Nat): StateT bL dD (Option Nat):=((forIn [1:a] ((X:Option (Option Nat)),1) λf o => n3 (M+o.2) (M+o.2-1) >>= λs => match s with
    |some b => if b=V then pure (ForInStep.done (X,o.2)) else pure (ForInStep.yield (X,o.2+1))
    |f => pure<|ForInStep.done (Z X,o.2)) >>= λo => match o.1 with
    |some s => pure s
    |none => if (o.2==a)=V then pure (Z o.2) else if o.2>1 then n3 M (M+o.2-1) >>= λs => match s with
      |some c => if c=V then pure (Z o.2) else tc M (M+o.2) >>= λ_ => t5 M a o.2
      |f => pure X
      else t5 M a o.2)
def Lo(M a:Nat):countRun' M a=E8 M a:=by
 kernel_rfl
def JL(k:fY x Q (fo Vs H O VO Vr) j){m:Array Nat}(a:c5 x m){M f:Nat}(t:1<=f)(s:M+f<=x){Y:bL}(b:eK VO Vr n Y m){C:Option Nat->bL->ao->Prop}(e:∀l i u,1<=l->l<=f->c5 x i->eK VO Vr n u i->(∀g,g<M->i[g]?=m[g]?)->(∀r,M+1<=r->r<M+l->bp Q i (r-1)<=bp Q i r)->C (Z l) u j):
  kasC (aO Vs H) O Vo (countRun' M f) C Y j:=by
 rw[Lo];unfold E8;have A:ht Q x M m m:=⟨a,λ_ W=>rfl,λ_=>rfl⟩;refine bw (hY (Ef k s a b (bD _) t λr h c=>⋯) ?_);rintro o u Vm ⟨rfl,rfl,l,rfl,w,B,p,F⟩;dsimp only;by_cases d:l=f
 ·rw[aF ⇑d];exact bt (e l m _ w B a b (λ_ W=>rfl) p)
 rw[aJ ⇑d];have G:bp Q m (M+l)<bp Q m (M+l-1):=F.resolve_left d;by_cases D:l>1
 ·rw[aF D];refine bw (rC k a ⋯ ⋯ b ?_);dsimp only;by_cases E:bp Q m M<bp Q m (M+l-1)
  ·rw[aF ⇑E];exact bt (e l m _ w B a b (λ_ W=>rfl) p)
  ·rw[aJ ⇑E];have I:∀v,v<l->bp Q m M<=bp Q m (M+v)/\bp Q m (M+v)<=bp Q m (M+l-1):=by
    have J:∀v,v<l->bp Q m M<=bp Q m (M+v):=λv=>by
     induction v with
     |zero=>intro W;exact mU _
     |succ v y=>
      intro hd;have h:=p (M+(v+1)) ⋯ ⋯;rw[show M+(v+1)-1=M+v by lia]at h;have:=y ⋯;lia
    have L:∀v,v<l->bp Q m (M+l-1-v)<=bp Q m (M+l-1):=λv=>by
     induction v with
     |zero=>intro W;exact mU _
     |succ v y=>
      intro hd;have h:=p (M+l-1-v) ⋯ ⋯;rw[show M+l-1-v-1=M+l-1-(v+1) by lia]at h;have:=y ⋯;lia
    intro v hd;refine⟨J v hd,?_⟩;have:=L (l-1-v) ⋯
    rwa [show M+l-1-(l-1-v)=M+v by lia]at this
   have z:∀q,M<=q->q<M+l->bp Q m q=bp Q m M:=λq h c=>by
    have:=I (q-M) ⋯;rw[show M+(q-M)=q by lia]at this;lia
   refine bw (tC b λP VF=>?_);exact HY (m:=m) k s (A.rev (bD _) ⋯ z) VF w ⋯ (λr b1 N=>by
    by_cases d:r=M+l
    ·subst d;lia
    ·rw[z r ⋯ ⋯,z (r-1) ⋯ ⋯];exact mU _) e
 rw[aJ D];obtain rfl:l=1:=⋯
 exact HY (m:=m) k s A b (bD _) ⋯ (λr b1 N=>by
  obtain rfl:r=M+1:=⋯
  exact Int.le_of_lt G) e
end
section
variable{Vs:bE}{H:bg}{O:bq}{Vo:ae->ao->Prop}{VO:gR}{Vr:Array bA}{Q:Nat->Int}{x:Nat}{j:ao}{n:Array (Nat×Nat×Nat)}
variable{m:Array Nat}
theorem ez.same:∀{D J:List (Nat×Nat×Nat)}{h c:Nat},ez Q m h D c->(D.map λf=>(f.1,f.2.1))=(J.map λf=>(f.1,f.2.1))->ez Q m h J c
 |[],[],h,c,e,_=>e
 |[],_::_,h,c,e,d=>by cases d
 |_::_,[],h,c,e,d=>by cases d
 | (f,I,i)::D,(k,l,n)::J,h,c,e,d=>by
  rw[b4,b4]at d;injection d with g j;injection g with a b;dsimp only at a b;subst a;subst b;exact⟨e.1,e.2.1,e.2.2.1,e.2.2.2.same j⟩
def Ky(w:Array (Nat×Nat×Nat))(g i:Nat):(w.toList.map λf=>(f.1,f.2.1))=((w.modify g λf=>(f.1,f.2.1,i)).toList.map λf=>(f.1,f.2.1)):=by
 apply pv;intro r;rw[d3,d3,eE,eE,Array.getElem?_modify];split
 ·rw[Option.map_map];rfl
 ·rfl
def hU.congr{p:Array Nat}{M l:Nat}(e:hU Q m M l)(L:∀g,M<=g->bp Q p g=bp Q m g):hU Q p M l:=λg r h c o=>by
 rw[L g h,L r ⋯];exact e g r h c o
def S4{ay:gc}{O:bq}{Vo:ae->ao->Prop}{B VM:Type}{o:Nat->Prop}{d:∀l,Decidable (o l)}{a Wk:Nat->StateT B dD VM}{C:VM->B->ao->Prop}{j:ao}(Vz:Nat->B->Prop)(b:∀l Y,Vz l Y->kasC ay O Vo (Wk l) C Y j)(c:(∀l Y,Vz l Y->kasC ay O Vo (Wk l) C Y j)->∀l Y,o l->Vz l Y->kasC ay O Vo (a l) C Y j):∀l Y,Vz l Y->kasC ay O Vo (if o l then a l else Wk l) C Y j:=λl Y m=>
 if e:o l then by rw[aF e];exact c b l Y e m else by rw[aJ e];exact b l Y m
variable{C:Unit->bL->ao->Prop}
def Od(D:fY x Q (fo Vs H O VO Vr) j)(A:2<=x)(a1:∀u s,c5 x u->ia Q u x->arrOf s=u.map (br Vr)->hQ s=X->C () s j):kasC (aO Vs H) O Vo sortRuns' C (v5 VO Vr (range x).toArray) j:=by
 rw[sortRuns'_eq];refine bw (jV ?_);dsimp only;have a2:(arrOf<|v5 VO Vr (range x).toArray).size=x:=by
  show ((range x).toArray.map<|br Vr).size=x;simp
 simp only[a2];refine bw (hY (a:=λo s Vm=>j=Vm/\o=(X,x)/\∃n m,c5 x m/\eK VO Vr n s m/\ez Q m 0 n.toList x)
  (fZ (g7 (λf o s Vm=>j=Vm/\∃M n m,o=(X,M)/\f<=M/\M<=x/\c5 x m/\eK VO Vr n s m/\ez Q m 0 n.toList M) ?step _ 0 _ _ _ ?fin ⟨rfl,0,#[],(range x).toArray,rfl,bD _,⋯,List.Perm.refl _,⟨rfl,rfl,rfl,rfl⟩,rfl⟩)) ?after)
 case fin=>
  rintro o s Vm ⟨rfl,M,n,m,rfl,h,c,v,d,F⟩;have:M=x:=⋯
  subst this;exact⟨rfl,rfl,n,m,v,d,F⟩
 case after=>
  rintro o s Vm ⟨rfl,rfl,n,m,t,b,Vp⟩;dsimp only;refine bw (hY (a:=λo s Vm=>j=Vm/\o=(X,())/\∃m,c5 x m/\ia Q m x/\arrOf s=m.map (br Vr)/\hQ s=X)
   (fZ (g7 (λf o s Vm=>j=Vm/\o=(X,())/\∃n m,c5 x m/\eK VO Vr n s m/\ez Q m 0 n.toList x/\n.size+f<=x) ?E _ 0 _ _ _ ?f2 ⟨rfl,rfl,n,m,t,b,Vp,by have:=Vp.le;rw[df]at this;lia⟩)) ?Wt)
  case Wt=>
   rintro o s Vm ⟨rfl,rfl,m,h,c,o,v⟩;exact bt (a1 m _ h c o v)
  case f2=>
   rintro o s Vm ⟨rfl,rfl,n,m,t,b,Vp,bd⟩;have d:n.toList=[]:=nY (by rw[df];lia);rw[d]at Vp;have:0=x:=Vp;lia
  case E=>
   rintro f o s Vm ⟨rfl,rfl,n,m,t,b,Vp,bd⟩;refine bw (jV ?_);by_cases d:(h1 s).size<=1
   ·rw[aF d];refine bt ⟨rfl,rfl,m,t,?_,b.a,b.f⟩;rw[b.p]at d;have be:n.toList.length<=1:=by rw[df];exact d
    match U:n.toList,be with
    |[],_=>
     rw[U]at Vp;have:0=x:=Vp;lia
    |[(f,I,i)],_=>
     rw[U]at Vp;let@⟨rfl,_,bi,bm⟩:=Vp;have:0+I=x:=bm;exact λg r bn cl=>bi g r (hl _) bn ⋯
    |_::_::_,e=>exact absurd e ↥0
   ·rw[aJ d];rw[b.p]at d;have bs:∀R,R+1<n.size->kasC (aO Vs H) O Vo (vD R) (λc w E=>c=V/\j=E/\∃n m,c5 x m/\eK VO Vr n w m/\ez Q m 0 n.toList x/\n.size+(f+1)<=x) s j:=λR bv=>
     B8 D t b bv Vp (bD _) λS u ca h c o v al=>⟨rfl,rfl,S,u,h,c,v,⋯⟩;refine bw (hY (bs _ ?_) ?_)
    ·rw[b.p];have:∀(o:Prop) [Decidable o],(if o then n.size-2-1 else n.size-2)+1<n.size:=λo W=>by split<;>lia
     exact this _
    ·rintro c w E ⟨rfl,rfl,cd⟩;rw[aJ ∅];exact bt ⟨rfl,rfl,cd⟩
 case step=>
  rintro f o s Vm ⟨rfl,M,n,m,rfl,co,cr,t,b,Vp⟩;dsimp only;by_cases am:M >= x
  ·rw[aF am];have:M=x:=⋯
   subst this;exact bt ⟨rfl,rfl,n,m,t,b,Vp⟩
  rw[aJ am];refine bw (JL D t ⋯ ⋯ b ?_);intro l an B y G J Vt ap L;have p:l<=x-M/\1<=l/\∃m,c5 x m/\eK VO Vr n B m/\ez Q m 0 n.toList M/\hU Q m M l:=⟨G,y,an,J,Vt,Vp.congr λg W c=>mN<|ap g c,EW L⟩;dsimp only;clear L ap Vt J y G;revert l B;refine S4 (λl B=>l<=x-M/\1<=l/\∃m,c5 x m/\eK VO Vr n B m/\ez Q m 0 n.toList M/\hU Q m M l) ?_ ?_
  ·intro l w p;let@⟨G,y,⟨@Wj,N,VF,bR,P⟩⟩:=p;refine bw (jV ?_);rcases cs:(h1 w).back? with _|⟨db,ds,dL⟩
   ·dsimp only;refine bw (kA ?_);refine bt ⟨rfl,M+l,n.push (M,l,0),Wj,rfl,⋯,⋯,N,⟨VF.k,VF.a,by show (h1 w).push _=_;rw[VF.p],VF.f⟩,?_⟩;rw[yJ];exact ez.app.mpr ⟨M,bR,rfl,⋯,P,rfl⟩
   ·dsimp only;refine bw (hY (a:=λo s Vm=>j=Vm/\o=(X,())/\∃n m,c5 x m/\eK VO Vr n s m/\ez Q m 0 n.toList M/\hU Q m M (l))
     (fZ<|g7 (λf o s Vm=>j=Vm/\o=(X,())/\∃n m,c5 x m/\eK VO Vr n s m/\ez Q m 0 n.toList M/\hU Q m M (l)) ?_ _ 0 _ _ _ (λ_ W W i=>i) ⟨rfl,rfl,n,Wj,N,VF,bR,P⟩) ?_)
    ·rintro z o s Vm ⟨rfl,rfl,n,m,t,b,Vp,O⟩;refine bw (jV ?_);by_cases d:(h1 s).size>1
     ·rw[aF d];rcases eq:(h1 s)[(h1 s).size-2]? with _|⟨h,c,ev⟩
      ·dsimp only;exact bt ⟨rfl,rfl,n,m,t,b,Vp,O⟩
      ·dsimp only;split
       ·exact bt ⟨rfl,rfl,n,m,t,b,Vp,O⟩
       ·refine bw (B8 D t b (by rw[b.p]at d ⊢;lia) Vp ⋯ ?_);intro S u ca h c o v al;rw[aJ ∅];exact bt ⟨rfl,rfl,S,u,h,c,v,O.congr al⟩
     ·rw[aJ d];dsimp only;exact bt ⟨rfl,rfl,n,m,t,b,Vp,O⟩
    ·rintro o s Vm ⟨rfl,rfl,n,m,t,b,Vp,O⟩;dsimp only;refine bw (kA ?_);refine bw (kA ?_);refine bt ⟨rfl,M+l,(n.modify (n.size-1) _).push (M,l,0),m,rfl,⋯,⋯,t,⟨b.k,b.a,by show ((h1 s).modify ((h1 s).size-1) _).push _=_;rw[b.p],b.f⟩,?_⟩;rw[yJ];exact ez.app.mpr ⟨M,Vp.same<|Ky _ _ _,rfl,⋯,O,rfl⟩
  ·intro Vv l B ex p;let@⟨G,y,⟨@an,J,Vt,ce,L⟩⟩:=p;refine bw (oN<|j9 ?_);have WR:l<=min (x-M) (minRun' x x 0):=⋯
   have as:min (x-M) (minRun' x x 0)<=x-M:=⋯
   generalize min (x-M) (minRun' x x 0)=ch at WR as ⊢;refine bw (JP D J ⋯ y WR L Vt ?_);intro Wj w N VF ci P;rw[aJ ∅];exact Vv ch w ⟨as,dc y WR,Wj,N,VF,ce.congr λg W c=>mN<|ci g c,P⟩
def Li(c:fY x Q (fo Vs H O VO Vr) j)(A:2<=x)(e:x<1001\/∀r,1<=r->r<x->Q (r-1)<=Q r)(d:∀a b,c5 x a->ia Q a x->arrOf b=a.map (br Vr)->hQ b=X->C () b j):kasC (aO Vs H) O Vo sortRuns' C (v5 VO Vr (range x).toArray) j:=Od c A d
end
end L2
namespace L2
open Spec PyProof.Rows
variable{j:ao}{Wh:bR}{V3 Wn VV:List Nat}{own Vw:List az}{w Vj:List au}{R:Φ}{Wo VR o c d h:bl}{WT:List cf}{Vo:og}{r x:Nat}{WW B:a6}{fd:gM}{f:az}{m VC:Pos}{E:List aa}{ab VE O Vp VQ U V0 Q N:List aj}{S s:List bl}{C:cW}{V1:eo}{a:aL}{VF Vt T b:aD}{u:au}
def F0(R:Φ)(b:aD)(f:au)(Vv:String)(c:Bool):Prop:=(
 (∃g,f=.int g/\((Vv = "int" /\ c=V)\/(Vv = "tuple" /\ c=aA)\/(Vv = "str" /\ c=aA)\/(Vv = "bool" /\ c=aA)\/(Vv = "list" /\ c=aA)))\/
 (∃g,f=.av g/\((Vv = "bool" /\ c=V)\/(Vv = "int" /\ c=V)\/(Vv = "tuple" /\ c=aA)\/(Vv = "str" /\ c=aA)\/(Vv = "list" /\ c=aA)))\/
 (∃g,f=.str g/\((Vv = "str" /\ c=V)\/(Vv = "int" /\ c=aA)\/(Vv = "tuple" /\ c=aA)\/(Vv = "bool" /\ c=aA)\/(Vv = "list" /\ c=aA)))\/
 (∃h w,f=.ref h/\cZ R b h w/\((Vv = "tuple" /\ c=V)\/(Vv = "int" /\ c=aA)\/(Vv = "str" /\ c=aA)\/(Vv = "bool" /\ c=aA)\/(Vv = "list" /\ c=aA)))\/
 (∃h w,f=.ref h/\dw R b h w/\((Vv = "list" /\ c=V)\/(Vv = "int" /\ c=aA)\/(Vv = "str" /\ c=aA)\/(Vv = "bool" /\ c=aA)\/(Vv = "tuple" /\ c=aA))))
section
variable{a:aL}
def Ou:eD a (.builtin "isinstance") (λw b C=>∃f Vv c,w=[f,.ty Vv]/\F0 a.K b f Vv c/\C (.av c) b):=by
 intro G j B b w VH C y s e;let⟨f,Vv,@c,rfl,Vl,p⟩:=e;cases s with
 |cons s l=>
  cases l with
  |cons Wh l=>
   cases l;cases Wh;have WK:∀{c:Bool},C (.av c) b->eM a G B C (.bool c) j:=λ{c} p=>⟨.av c,b,y,rfl,p⟩;have d:∀{c:Bool},C (.av c) b->eM a G B C (.bool c) {j with toks:=j.toks+1}:=λ{c} p=>⟨.av c,b,y.tok _,rfl,p⟩;rcases Vl with ⟨g,rfl,Vl⟩|⟨g,rfl,Vl⟩|⟨g,rfl,Vl⟩|⟨h,w,rfl,Vy,Vl⟩|⟨h,w,rfl,Vy,Vl⟩
   ·let⟨@D,rfl⟩:=s;rcases Vl with ⟨rfl,rfl⟩|⟨rfl,rfl⟩|⟨rfl,rfl⟩|⟨rfl,rfl⟩|⟨rfl,rfl⟩
    ·exact IsiPair.int_int (WK p)
    ·exact IsiPair.int_tuple (d p)
    ·exact IsiPair.int_str (d p)
    ·exact IsiPair.int_bool (d p)
    ·exact IsiPair.int_list (d p)
   ·cases s;rcases Vl with ⟨rfl,rfl⟩|⟨rfl,rfl⟩|⟨rfl,rfl⟩|⟨rfl,rfl⟩|⟨rfl,rfl⟩
    ·exact IsiPair.bool_bool (WK p)
    ·exact IsiPair.bool_int (WK p)
    ·exact IsiPair.bool_tuple (d p)
    ·exact IsiPair.bool_str (d p)
    ·exact IsiPair.bool_list (d p)
   ·let⟨@D,rfl⟩:=s;rcases Vl with ⟨rfl,rfl⟩|⟨rfl,rfl⟩|⟨rfl,rfl⟩|⟨rfl,rfl⟩|⟨rfl,rfl⟩
    ·exact IsiPair.str_str (WK p)
    ·exact IsiPair.str_int (d p)
    ·exact IsiPair.str_tuple (d p)
    ·exact IsiPair.str_bool (d p)
    ·exact IsiPair.str_list (d p)
   ·cases s;let⟨@VA,o,⟨@n,i,k,W⟩,q⟩:=y.tuple Vy;rcases Vl with ⟨rfl,rfl⟩|⟨rfl,rfl⟩|⟨rfl,rfl⟩|⟨rfl,rfl⟩|⟨rfl,rfl⟩
    ·exact IsiPair.tuple_tuple i k (WK p)
    ·exact IsiPair.tuple_int i k (d p)
    ·exact IsiPair.tuple_str i k (d p)
    ·exact IsiPair.tuple_bool i k (d p)
    ·exact IsiPair.tuple_list i k (d p)
   ·cases s;let⟨@VA,o,m,q⟩:=y.list Vy;let⟨@n,i,k,W⟩:=m.isList;rcases Vl with ⟨rfl,rfl⟩|⟨rfl,rfl⟩|⟨rfl,rfl⟩|⟨rfl,rfl⟩|⟨rfl,rfl⟩
    ·exact IsiPair.list_list i k (WK p)
    ·exact IsiPair.list_int i k (d p)
    ·exact IsiPair.list_str i k (d p)
    ·exact IsiPair.list_bool i k (d p)
    ·exact IsiPair.list_tuple i k (d p)
def HL:∀{M:List Bool}{VH:List ae},bY (M.map au.av) VH->∀(g:Nat) (u:ae),VH[g]?=Z u->∃c,M[g]?=Z c/\u=ae.bool c:=by
 intro M VH s g u e;have a:=s.length;rw[a8]at a;have Vl:g<M.length:=by rw[a];exact (eX.mp e).1
 let⟨@J,b,d⟩:=s.get (g:=g) (f:=au.av M[g]) (by simp[Vl]);rw[e]at b;cases b;exact⟨M[g],by simp[Vl],d⟩
def L6(l:a.calm=V):eD a (.builtin "all") (λw b C=>∃I M,w=[.ref I]/\b I=Z (.lst<|List.map au.av M)/\C (.av<|M.all id) b):=by
 intro G j B b w VH C y s e;let⟨I,@M,rfl,m,p⟩:=e;let⟨@J,rfl,n⟩:=h2 s;cases n;let@⟨i,⟨VA,@x,f,d⟩⟩:=y.a5 I _ m;have h:j.heap.IsList I VA.toArray:=⟨_,d,rfl,x,rfl⟩;refine call_all_walk (vv h ⟨j.heap.objs.size,[j.heap.objs.size,I],[j.heap.objs.size],VA.toArray.size,_,_,λg=>(M[g]?).getD V,rfl,iK.list (A:=a.A.in1) (y.ok.hd l) _ I (c0<|cA d) VA.toArray,
  ⟨⟨_,dM _ rfl,rfl,rfl⟩,h.push _⟩,λg u Vm v z o k=>?_,λVk Vq q=>?_⟩)
 ·let⟨@c,r,rfl⟩:=HL f g u ⇑o;simp only[r,qI]at k;exact lB k
 ·have t:VA.toArray.size=M.length:=by
   have:=f.length;rw[a8]at this;rw[cN,this]
  rw[t,LSm.range_all];exact⟨.av _,b,y.kept<|FN q,rfl,p⟩
def PM:ek a (gG .Mult) (qY IntMulOk λg r=>.int<|g*r):=tf λ_ W W W W W W b p=>mul_int p b
end
inductive ai where
 | im (v:aa)
 | dK
 | dF (E:List aa)
 | lst (E:List aa)
 | dJ (Vx:List (et×aa))
 | aw (Vx:List (List aa×aa))
 | hJ (w:List ai)
 | pl (w:List ai)
 | fu (Vx:List (List aa×aa))
 | dL (Vx:List (List aa×List aa))
 | uj (P:List et) (E:List ai)
 | aQ (ab:aj) (P:List az) (E:List ai)
variable{n:Option ai}{Wa:List ai->Option ai}{F:ai->ai->Option ai}{v:ai}
abbrev aY:=List (Option ai)
variable{VL k:aY}{e:List ai->aY->Option aY}
abbrev ed{VO:Type}(b:aD):List (VO×aa)->List (VO×au)->Prop:=dE λm p=>m.1=p.1/\cC b m.2 p.2
def ed.mono{VO:Type}{I:List (VO×aa)}{l:List (VO×au)}(D:pj b T)(e:ed b I l):ed T I l:=dE.vE e λ_ W i=>⟨i.1,i.2.mono D⟩
structure eA(b T:aD):Prop where
 tup:pj b T
 cV:∀h n J,b h=Z (.cV n J)->T h=Z (.cV n J)
def l3(b:aD):List (List aa×List aa)->List (List aa×au)->List aj->Prop
 |[],a,Q=>a=[]/\Q=[]
 |m::s,a,Q=>∃c w H d,a=(m.1,.ref c)::H/\b c=Z (.lst w)/\bM b m.2 w/\l3 b s H d/\Q=c::d
theorem l3.mono{b T:aD}(D:eA b T):∀{I:List (List aa×List aa)}{a:List (List aa×au)}{Q:List aj},l3 b I a Q->(∀h∈Q,∀n,b h=Z n->T h=Z n)->l3 T I a Q
 |[],_,_,e,_=>e
 |m::s,a,Q,e,q=>by
  let⟨c,w,H,@f,d,t,A,g,rfl⟩:=e;exact⟨c,w,H,f,d,q c (.head _) _ t,A.mono D.tup,l3.mono D g λh i=>q h<|.tail _ i,rfl⟩
mutual
def cq(b:aD):ai->au->List aj->Prop
 |.im v,u,N=>cC b v u/\N=[]
 |.dK,_,N=>N=[]
 |.dF E,u,N=>∃h w n,u=.ref h/\b h=Z (.cV n<|.lst w)/\bM b E w/\N=[]
 |.lst E,u,N=>∃h w,u=.ref h/\b h=Z (.lst w)/\bM b E w/\N=[h]
 |.dJ Vx,u,N=>∃h M,u=.ref h/\b h=Z (.dJ M)/\ed b Vx M/\N=[h]
 |.aw Vx,u,N=>∃h M,u=.ref h/\b h=Z (.aw M)/\ed b Vx M/\N=[h]
 |.hJ E,u,N=>∃h w Q,u=.ref h/\b h=Z (.lst w)/\c2 b E w Q/\N=h::Q
 |.pl E,u,N=>∃h w,u=.ref h/\b h=Z (.tup w)/\c2 b E w N
 |.fu Vx,u,N=>∃h M n,u=.ref h/\b h=Z (.cV n<|.aw M)/\ed b Vx M/\N=[]
 |.dL Vx,u,N=>∃h M Q,u=.ref h/\b h=Z (.aw M)/\l3 b Vx M Q/\N=h::Q
 |.uj P E,u,N=>∃h M Vj Q,u=.ref h/\b h=Z (.dJ M)/\(M.map (·.1)=P/\P.Nodup/\M.map (·.2)=Vj)/\c2 b E Vj Q/\N=h::Q
 |.aQ ab P E,u,N=>∃h V6 M Vj Q,u=.ref h/\b h=Z (.ins ab V6 M)/\(M.map (·.1)=P/\P.Nodup/\M.map (·.2)=Vj)/\c2 b E Vj Q/\N=h::Q
def c2(b:aD):List ai->List au->List aj->Prop
 |[],Vj,N=>Vj=[]/\N=[]
 |v::E,Vj,N=>∃u s U VQ,Vj=u::s/\cq b v u U/\c2 b E s VQ/\N=U++VQ
end
mutual
theorem cq.mono{b T:aD}(D:eA b T):∀{v:ai}{u:au}{N:List aj},cq b v u N->(∀h∈N,∀n,b h=Z n->T h=Z n)->cq T v u N
 |.im v,u,N,e,_=>⟨e.1.mono D.tup,e.2⟩
 |.dK,u,N,e,_=>e
 |.dF E,u,N,e,_=>by
  let⟨h,w,@n,rfl,t,A,rfl⟩:=e;exact⟨h,w,n,rfl,D.cV _ _ _ t,A.mono D.tup,rfl⟩
 |.lst E,u,N,e,q=>by
  let⟨h,@w,rfl,t,A,rfl⟩:=e;exact⟨h,w,rfl,q h (.head _) _ t,A.mono D.tup,rfl⟩
 |.dJ Vx,u,N,e,q=>by
  let⟨h,@w,rfl,t,A,rfl⟩:=e;exact⟨h,w,rfl,q h (.head _) _ t,A.mono D.tup,rfl⟩
 |.aw Vx,u,N,e,q=>by
  let⟨h,@w,rfl,t,A,rfl⟩:=e;exact⟨h,w,rfl,q h (.head _) _ t,A.mono D.tup,rfl⟩
 |.hJ E,u,N,e,q=>by
  let⟨h,w,@Q,rfl,t,A,rfl⟩:=e;exact⟨h,w,Q,rfl,q h (.head _) _ t,c2.mono D A λc a=>q c<|.tail _ a,rfl⟩
 |.pl E,u,N,e,q=>by
  let⟨h,@w,rfl,t,A⟩:=e;exact⟨h,w,rfl,D.tup h w t,c2.mono D A q⟩
 |.fu Vx,u,N,e,_=>by
  let⟨h,w,@n,rfl,t,A,rfl⟩:=e;exact⟨h,w,n,rfl,D.cV _ _ _ t,A.mono D.tup,rfl⟩
 |.dL Vx,u,N,e,q=>by
  let⟨h,M,@Q,rfl,t,A,rfl⟩:=e;exact⟨h,M,Q,rfl,q h (.head _) _ t,A.mono D λc a=>q c<|.tail _ a,rfl⟩
 |.uj P E,u,N,e,q=>by
  let⟨h,M,Vj,@Q,rfl,t,A,d,rfl⟩:=e;exact⟨h,M,Vj,Q,rfl,q h (.head _) _ t,A,c2.mono D d λc a=>q c<|.tail _ a,rfl⟩
 |.aQ ab P E,u,N,e,q=>by
  let⟨h,V6,M,Vj,@Q,rfl,t,A,d,rfl⟩:=e;exact⟨h,V6,M,Vj,Q,rfl,q h (.head _) _ t,A,c2.mono D d λc a=>q c<|.tail _ a,rfl⟩
theorem c2.mono{b T:aD}(D:eA b T):∀{E:List ai}{Vj:List au}{N:List aj},c2 b E Vj N->(∀h∈N,∀n,b h=Z n->T h=Z n)->c2 T E Vj N
 |[],Vj,N,e,_=>e
 |v::E,Vj,N,e,q=>by
  let⟨u,s,U,@VQ,rfl,t,A,rfl⟩:=e;exact⟨u,s,U,VQ,rfl,cq.mono D t λh a=>q h<|dW _ a,c2.mono D A λh a=>q h<|dy _ a,rfl⟩
end
def fx(b:aD)(h:aj):Prop:=(∃n,b h=Z n/\(∀w,n≠.tup w)/\∀m J,n≠.cV m J)
theorem l3.chg{b:aD}:∀{I:List (List aa×List aa)}{f:List (List aa×au)}{Q:List aj},l3 b I f Q->∀h∈Q,fx b h
 |[],_,Q,e,h,a=>by rw[e.2]at a;cases a
 |m::s,f,Q,e,h,a=>by
  let⟨c,w,H,@i,d,t,A,g,rfl⟩:=e;rcases cm.mp a with rfl|a
  ·exact⟨_,t,(λ_ d=>by cases d),(λ_ W d=>by cases d)⟩
  ·exact l3.chg g h a
mutual
theorem cq.chg{b:aD}:∀{v:ai}{u:au}{N:List aj},cq b v u N->∀h∈N,fx b h
 |.im v,u,N,e,h,f=>by rw[e.2]at f;cases f
 |.dK,u,N,e,h,f=>by rw[show N=[] from e]at f;cases f
 |.dF E,u,N,e,c,a=>by
  let⟨h,w,@n,rfl,t,A,rfl⟩:=e;cases a
 |.lst E,u,N,e,c,a=>by
  let⟨h,@w,rfl,t,A,rfl⟩:=e;rw[cb.mp a];exact⟨_,t,(λ_ d=>by cases d),(λ_ W d=>by cases d)⟩
 |.dJ Vx,u,N,e,c,a=>by
  let⟨h,@w,rfl,t,A,rfl⟩:=e;rw[cb.mp a];exact⟨_,t,(λ_ d=>by cases d),(λ_ W d=>by cases d)⟩
 |.aw Vx,u,N,e,c,a=>by
  let⟨h,@w,rfl,t,A,rfl⟩:=e;rw[cb.mp a];exact⟨_,t,(λ_ d=>by cases d),(λ_ W d=>by cases d)⟩
 |.hJ E,u,N,e,c,a=>by
  let⟨h,w,@Q,rfl,t,A,rfl⟩:=e;rcases cm.mp a with rfl|a
  ·exact⟨_,t,(λ_ d=>by cases d),(λ_ W d=>by cases d)⟩
  ·exact c2.chg A c a
 |.pl E,u,N,e,c,a=>by
  let⟨h,@w,rfl,t,A⟩:=e;exact c2.chg A c a
 |.fu Vx,u,N,e,c,a=>by
  let⟨h,w,@n,rfl,t,A,rfl⟩:=e;cases a
 |.dL Vx,u,N,e,c,a=>by
  let⟨h,M,@Q,rfl,t,A,rfl⟩:=e;rcases cm.mp a with rfl|a
  ·exact⟨_,t,(λ_ d=>by cases d),(λ_ W d=>by cases d)⟩
  ·exact A.chg c a
 |.uj P E,u,N,e,c,a=>by
  let⟨h,M,Vj,@Q,rfl,t,A,g,rfl⟩:=e;rcases cm.mp a with rfl|a
  ·exact⟨_,t,(λ_ d=>by cases d),(λ_ W d=>by cases d)⟩
  ·exact c2.chg g c a
 |.aQ ab P E,u,N,e,c,a=>by
  let⟨h,V6,M,Vj,@Q,rfl,t,A,g,rfl⟩:=e;rcases cm.mp a with rfl|a
  ·exact⟨_,t,(λ_ d=>by cases d),(λ_ W d=>by cases d)⟩
  ·exact c2.chg g c a
theorem c2.chg{b:aD}:∀{E:List ai}{Vj:List au}{N:List aj},c2 b E Vj N->∀h∈N,fx b h
 |[],Vj,N,e,h,a=>by rw[e.2]at a;cases a
 |v::E,Vj,N,e,h,a=>by
  let⟨u,s,U,@VQ,rfl,t,A,rfl⟩:=e;rcases du.mp a with a|a
  ·exact cq.chg t h a
  ·exact c2.chg A h a
end
theorem c2.length:∀{E:List ai}{Vj:List au}{N:List aj},c2 b E Vj N->E.length=Vj.length
 |[],Vj,N,e=>by rw[e.1];rfl
 |v::E,Vj,N,e=>by
  let⟨u,s,U,@VQ,rfl,t,A,rfl⟩:=e;rw[dn,dn,A.length]
theorem bM.length:∀{E:List aa}{Vj:List au},bM b E Vj->E.length=Vj.length
 |[],Vj,e=>by rw[show Vj=[] from e];rfl
 |v::E,Vj,e=>by
  let⟨u,@s,rfl,t,A⟩:=e;rw[dn,dn,A.length]
def mW(b:aD):Option ai->Option au->List aj->Prop
 |none,_,N=>N=[]
 |some v,f,N=>∃u,f=Z u/\cq b v u N
def bC(b:aD):aY->a6->List aj->Prop
 |[],B,N=>B=[]/\N=[]
 |n::k,B,N=>∃f s U VQ,B=f::s/\mW b n f U/\bC b k s VQ/\N=U++VQ
structure bb(b:aD)(N:List aj)(T:aD)(V0:List aj):Prop where
 keep:∀h n,b h=Z n->h∉N->T h=Z n
 sub:∀h∈V0,h∈N\/b h=X
 aq:V0.Nodup
 tup:eA b T
 grow:∀h n,b h=Z n->∃V4,T h=Z V4
theorem mW.mono(D:eA b T):∀{n:Option ai}{f:Option au}{N:List aj},mW b n f N->(∀h∈N,∀n,b h=Z n->T h=Z n)->mW T n f N
 |none,_,_,e,_=>e
 |some v,f,N,e,q=>by
  let⟨@u,rfl,e⟩:=e;exact⟨u,rfl,e.mono D q⟩
theorem bC.mono{b T:aD}(D:eA b T):∀{k:aY}{B:a6}{N:List aj},bC b k B N->(∀h∈N,∀n,b h=Z n->T h=Z n)->bC T k B N
 |[],B,N,e,_=>e
 |n::k,B,N,e,q=>by
  let⟨f,s,U,@VQ,rfl,t,A,rfl⟩:=e;exact⟨f,s,U,VQ,rfl,t.mono D λh a=>q h<|dW _ a,bC.mono D A λh a=>q h<|dy _ a,rfl⟩
theorem mW.chg:∀{n:Option ai}{f:Option au}{N:List aj},mW b n f N->∀h∈N,fx b h
 |none,_,N,e,h,a=>by rw[show N=[] from e]at a;cases a
 |some v,f,N,e,h,a=>by
  let⟨@u,rfl,e⟩:=e;exact e.chg h a
theorem bC.chg{b:aD}:∀{k:aY}{B:a6}{N:List aj},bC b k B N->∀h∈N,fx b h
 |[],B,N,e,h,a=>by rw[e.2]at a;cases a
 |n::k,B,N,e,h,a=>by
  let⟨f,s,U,@VQ,rfl,t,A,rfl⟩:=e;rcases du.mp a with a|a
  ·exact t.chg h a
  ·exact bC.chg A h a
theorem bC.len{b:aD}:∀{k:aY}{B:a6}{N:List aj},bC b k B N->k.length=B.length
 |[],B,N,e=>by rw[e.1];rfl
 |n::k,B,N,e=>by
  let⟨f,s,U,@VQ,rfl,t,A,rfl⟩:=e;rw[dn,dn,bC.len A]
def ai.el:ai->Bool
 |.im _=>V
 |.dF _=>V
 |.fu _=>V
 |_=>aA
def cq.el(e:cq b v u N)(o:v.el=V):N=[]:=by
 cases v with
 |im v=>exact e.2
 |dF E=>let⟨h,w,@n,rfl,t,A,rfl⟩:=e;rfl
 |fu E=>let⟨h,w,@n,rfl,t,A,rfl⟩:=e;rfl
 |_=>cases o
theorem bC.out{b:aD}:∀{k:aY}{B:a6}{N:List aj}{g:Nat}{v:ai},bC b k B N->k[g]?=Z (Z v)->∃u U VQ,B[g]?=Z (Z u)/\cq b v u U/\bC b (k.set g<|Z .dK) B VQ/\(VQ++U).Perm N
 |[],B,N,g,v,e,d=>by simp at d
 |n::k,B,N,0,v,e,d=>by
  let⟨f,s,U,@VQ,rfl,t,A,rfl⟩:=e;simp at d;subst d;let⟨@u,rfl,t⟩:=t;exact⟨u,U,VQ,rfl,t,⟨Z u,s,[],VQ,rfl,⟨u,rfl,rfl⟩,A,rfl⟩,c6⟩
 |n::k,B,N,g+1,v,e,d=>by
  let⟨f,s,U,@VQ,rfl,t,A,rfl⟩:=e;let⟨u,c,@a,h,i,j,l⟩:=bC.out (g:=g) A ⇑d;refine⟨u,c,U++a,by simpa using h,i,⟨f,s,U,a,rfl,t,j,rfl⟩,?_⟩;rw[bk];exact dZ _ l
theorem bC.put{b:aD}:∀{k:aY}{B:a6}{N:List aj}{g:Nat}{v:ai}{u:au}{Q:List aj},bC b k B N->cq b v u Q->g<k.length->∃U VQ,bC b (k.set g<|Z v) (B.set g<|Z u) U/\(U++VQ).Perm (N++Q)
 |[],B,N,g,v,u,Q,e,H,I=>by simp at I
 |n::k,B,N,0,v,u,Q,e,H,I=>by
  let⟨f,s,U,@VQ,rfl,t,A,rfl⟩:=e;refine⟨Q++VQ,U,⟨Z u,s,Q,VQ,rfl,⟨u,rfl,H⟩,A,rfl⟩,?_⟩;refine c6.trans ?_;rw[bk];exact dZ _ c6
 |n::k,B,N,g+1,v,u,Q,e,H,I=>by
  let⟨f,s,U,@VQ,rfl,t,A,rfl⟩:=e;let⟨a,@c,d,h⟩:=bC.put (g:=g) A H ⇑I;refine⟨U++a,c,⟨f,_,U,a,rfl,t,d,rfl⟩,?_⟩;rw[bk,bk];exact dZ _ h
def bC.el{g:Nat}(e:bC b k B N)(d:k[g]?=Z (Z v))(o:v.el=V):∃u,B[g]?=Z (Z u)/\cq b v u []:=by
 let⟨u,U,@VQ,c,a,W⟩:=e.out d;obtain rfl:=a.el o;exact⟨u,c,a⟩
def Rk{g:Nat}(e:B[g]?=Z (Z u)):B.set g (Z u)=B:=by
 refine pv λr=>?_;by_cases d:g=r
 ·subst d;rw[e,va (eX.mp e).1]
 ·rw[oR d]
def bC.back{g:Nat}(e:bC b k B N)(H:cq b v u Q)(a:B[g]?=Z (Z u)):∃U VQ,bC b (k.set g<|Z v) B U/\(U++VQ).Perm (N++Q):=by
 have I:g<k.length:=by rw[e.len];exact (eX.mp a).1
 let⟨U,@VQ,t,A⟩:=e.put (g:=g) H I;rw[Rk a]at t;exact⟨U,VQ,t,A⟩
def eA.of(F:qp b T)(L:∀h n J,b h=Z (.cV n J)->T h=Z (.cV n J)):eA b T:=⟨⟨F,L⟩,L⟩
def Uw(b:aD):eA b b:=⟨⟨λ_ W d=>d,λ_ W W d=>d⟩,λ_ W W d=>d⟩
def eA.trans(h:eA b Vt)(c:eA Vt VF):eA b VF:=⟨⟨λf w d=>c.tup.t f w<|h.tup.t f w d,λf n J d=>c.cV f n J<|h.cV f n J d⟩,λf n J d=>c.cV f n J<|h.cV f n J d⟩
def bb.refl(e:V0.Nodup)(j:∀h∈V0,h∈N):bb b N b V0:=⟨λ_ W d W=>d,λh a=>.inl<|j h a,e,Uw b,λ_ n d=>⟨n,d⟩⟩
def bb.perm(e:N.Nodup)(m:V0.Perm N):bb b N b V0:=bb.refl ((m.nodup_iff).mpr e) λh a=>m.mem_iff.mp a
def bb.trans(h:bb b N Vt (U++Vp))(c:bb Vt U VF VQ)(j:∀f∈Vp,fx Vt f):bb b N VF (VQ++Vp):=by
 have aq:=cO.mp h.aq;have k:∀f∈VQ,f∉Vp:=λf a i=>by
  rcases c.sub f a with e|e
  ·exact aq.2.2 f e f i rfl
  ·let⟨@n,d,W⟩:=j f i;rw[d]at e;cases e
 refine⟨λf n d a=>?_,λf a=>?_,cO.mpr ⟨c.aq,aq.2.1,λf a z l d=>k f a<|d ▸ l⟩,h.tup.trans c.tup,λf n d=>let ⟨V4,g⟩:=h.grow f n d;c.grow f V4 g⟩
 ·refine c.keep f n (h.keep f n d a) λt=>?_;rcases h.sub f (dW _ t) with e|e
  ·exact a e
  ·rw[d]at e;cases e
 ·rcases du.mp a with a|a
  ·rcases c.sub f a with e|e
   ·exact h.sub f (dW _ e)
   ·refine .inr ?_;cases d:b f with
    |none=>rfl
    |some n=>
     let⟨@V4,g⟩:=h.grow f n d;rw[g]at e;cases e
  ·exact h.sub f (dy _ a)
def cY.tupS(j:cY b T):eA b T:=⟨⟨λh w d=>j h _ d,λh n J d=>j h _ d⟩,λh n J d=>j h _ d⟩
def Di{h c:aj}{n J:eV}(d:b c=Z n)(e:b h=X):L2.upd b h J c=Z n:=by rw[cz (j7 d e)];exact d
def cY.upd(j:cY b T){h:aj}{n:eV}(e:T h=X):cY b (L2.upd T h n):=λc J d=>Di (j c J d) e
abbrev ay(VM:Type):=aY->Option (VM×aY)
variable{WZ:ay ai}{WG q:ay Bool}
inductive bN where
 | bo (g:Nat)
 | cu (v:ai)
variable{V_ Wv:ay bN}{L:ay (List bN)}
def dG(k:aY):bN->Option ai
 |.bo g=>(k[g]?).getD X
 |.cu v=>Z v
def hN(b:aD)(B:a6):bN->au->List aj->Prop
 |.bo g,u,Vp=>B[g]?=Z (Z u)/\Vp=[]
 |.cu v,u,Vp=>cq b v u Vp
def mL(L:ay ai):b5:=(λB b C=>∃k N s VL,bC b k B N/\N.Nodup/\L k=Z (s,VL)/\∀u T V0 Vp,bC T VL B V0->cq T s u Vp->bb b N T (V0++Vp)->C u T)
def mS(L:ay bN):b5:=(λB b C=>∃k N s VL,bC b k B N/\N.Nodup/\L k=Z (s,VL)/\∀u T V0 Vp,bC T VL B V0->hN T B s u Vp->bb b N T (V0++Vp)->C u T)
def je(L:ay Bool):eo:=(λB b C=>∃k N c VL,bC b k B N/\N.Nodup/\L k=Z (c,VL)/\∀T V0,bC T VL B V0->bb b N T V0->C c T)
def bh(a:aL)(d:bl)(L:ay ai):Prop:=(∀ ⦃m⦄,xi a d (mL L) m)
def eL(a:aL)(d:bl)(L:ay bN):Prop:=(∀ ⦃m⦄,xi a d (mS L) m)
def fC(a:aL)(d:bl)(L:ay Bool):Prop:=(∀ ⦃m⦄,D2 a d (je L) m)
def d6{D V1:b5}(e:bG a d D)(g:∀B b C,V1 B b C->D B b C):bG a d V1:=λG j B b C y c=>e G j B b C y (g B b C c)
def sy{D:eo}(e:hA a d D)(g:∀B b C,V1 B b C->D B b C):hA a d V1:=λG j B b C y c=>e G j B b C y (g B b C c)
def hN.mono{s:bN}(e:hN b B s u Vp)(D:eA b T)(q:∀h∈Vp,∀n,b h=Z n->T h=Z n):hN T B s u Vp:=by
 cases s with
 |bo g=>exact e
 |cu v=>exact cq.mono D e q
def hN.chg{s:bN}(e:hN b B s u Vp):∀h∈Vp,fx b h:=by
 cases s with
 |bo g=>intro h a;rw[e.2]at a;cases a
 |cu v=>exact cq.chg e
def eY(b:aD)(v:ai)(u:au):Prop:=(∃Vp,cq b v u Vp)
def hN.read{s:bN}(e:hN b B s u Vp)(Y:bC b k B N)(d:dG k s=Z v):eY b v u:=by
 cases s with
 |cu h=>cases d;exact⟨Vp,e⟩
 |bo g=>
  have c:k[g]?=Z (Z v):=by
   have:(k[g]?).getD X=Z v:=d;cases p:k[g]? with
   |none=>rw[p]at this;cases this
   |some n=>rw[p]at this;rw[show n=Z v from this]
  let⟨i,U,@VQ,a,f,W⟩:=Y.out c;rw[e.1]at a;cases a;exact⟨U,f⟩
@[simp] def dB(g:Nat):ay ai:=λk=>match k[g]? with
 |some (Z v)=>if v.el=V then Z (v,k) else Z (v,k.set g<|Z .dK)
 |_=>X
def aG(v:aa):ay ai:=(λk=>Z (.im v,k))
@[simp] def ak(g:Nat):ay bN:=λk=>match k[g]? with
 |some (Z _)=>Z (.bo g,k)
 |_=>X
@[simp] def af(L:ay ai):ay bN:=λk=>(L k).map λm=>(.cu m.1,m.2)
section
variable{a:aL}
variable{g:Nat}
def SA(e:bG a d (fA g)):bh a d (dB g):=by
 refine d6 e λB b C f=>?_;let⟨k,N,s,@VL,Y,aq,c,p⟩:=f;unfold dB at c;split at c
 ·rename_i v hd;split at c
  ·rename_i h;cases c;let⟨@u,t,A⟩:=Y.el hd h;exact⟨u,t,p u b N [] Y A (by rw[bQ];exact bb.perm aq (List.Perm.refl _))⟩
  ·cases c;let⟨u,U,@VQ,t,A,i,j⟩:=Y.out hd;exact⟨u,t,p u b VQ U i A<|bb.perm aq j⟩
 ·cases c
def L7(e:bG a d (fA g)):eL a d (ak g):=by
 refine d6 e λB b C f=>?_;let⟨k,N,s,@VL,Y,aq,c,p⟩:=f;unfold ak at c;split at c
 ·rename_i v hd;cases c;let⟨u,U,@VQ,t,A,h,i⟩:=Y.out hd;exact⟨u,t,p u b N [] Y ⟨t,rfl⟩ (by rw[bQ];exact bb.perm aq (List.Perm.refl _))⟩
 ·cases c
def Pj{L:ay ai}(e:bh a d L):eL a d (af L):=by
 refine d6 e λB b C f=>?_;let⟨k,N,s,@VL,Y,aq,c,p⟩:=f;unfold af at c;let⟨@⟨Wh,Vu⟩,t,A⟩:=b9.mp c;cases A;exact⟨k,N,Wh,_,Y,aq,t,p⟩
def vL{v:aa}(e:bG a d (rz u))(hd:∀b,cC b v u):bh a d (aG v):=by
 refine d6 e λB b C c=>?_;let⟨k,N,s,@VL,Y,aq,f,p⟩:=c;cases f;exact p u b N [] Y ⟨hd b,rfl⟩ (by rw[bQ];exact bb.perm aq (List.Perm.refl _))
def JK{g:Int}{r VC}:bh a (.Constant (.int g) r VC) (aG<|.int g):=vL T9 λ_=>rfl
def KC{c:Bool}{r VC}:bh a (.Constant (.bool c) r VC) (aG<|.av c):=vL Nk λ_=>rfl
def two{Vu VY:aY}{f z:bN}{R:au->au->aD->Prop}(Y:bC b k B N)(aq:N.Nodup)(c:Wv k=Z (f,Vu))(j:V_ Vu=Z (z,VY))(q:∀u J T V0 a bR,bC T VY B V0->hN T B f u a->hN T B z J bR->bb b N T ((V0++bR)++a)->R u J T):mS Wv B b λu Vt=>mS V_ B Vt λJ VF=>R u J VF:=by
 refine⟨k,N,f,Vu,Y,aq,c,λu Vt U a l VG g=>⟨Vu,U,z,VY,l,(cO.mp g.aq).1,j,λJ VF VQ bR m VW i=>?_⟩⟩;refine q u J VF VQ a bR m (VG.mono i.tup λh c n d=>i.keep h n d λe=>?_) VW (g.trans i VG.chg);exact (cO.mp g.aq).2.2 h e h c rfl
def bb.new{y:List aj}(h:bb b N Vt (U++Vp))(j:cY Vt VF)(aq:y.Nodup)(e:∀f∈y,Vt f=X)(o:∀f∈U,fx Vt f):bb b N VF (U++y):=by
 refine⟨λf n d a=>j _ _<|h.keep f n d a,λf a=>?_,cO.mpr ⟨(cO.mp h.aq).1,aq,λf a z g d=>?_⟩,h.tup.trans j.tupS,λf n d=>let ⟨V4,c⟩:=h.grow f n d;⟨V4,j _ _ c⟩⟩
 ·rcases du.mp a with a|a
  ·exact h.sub f (dW _ a)
  ·refine .inr ?_;cases d:b f with
   |none=>rfl
   |some n=>
    let⟨@V4,c⟩:=h.grow f n d;rw[e f a]at c;cases c
 ·subst d;let⟨@n,d,W⟩:=o f a;rw[e f g]at d;cases d
def d2(a:aL)(F:ae->ae->dD ae)(Wa:ai->ai->Option ai):Prop:=(
 ek a F λf z b C=>∃V2 V8 v,eY b V2 f/\eY b V8 z/\Wa V2 V8=Z v/\∀u T Vp,cY b T->cq T v u Vp->Vp.Nodup->(∀h∈Vp,b h=X)->C u T)
@[simp] def aC(Wa:ai->ai->Option ai)(Wv V_:ay bN):ay ai:=λk=>(Wv k).bind λm=>(V_ m.2).bind λp=>(dG p.2 m.1).bind λV2=>(dG p.2 p.1).bind λV8=>(Wa V2 V8).map λv=>(v,p.2)
def wm{Wa:ai->ai->Option ai}(e:mL (aC Wa Wv V_) B b C):
  mS Wv B b λf Vt=>mS V_ B Vt λz VF=>∃V2 V8 v,eY VF V2 f/\eY VF V8 z/\Wa V2 V8=Z v/\∀u T Vp,cY VF T->cq T v u Vp->Vp.Nodup->(∀h∈Vp,VF h=X)->C u T:=by
 let⟨k,N,s,@VL,Y,aq,a,p⟩:=e;unfold aC at a;let⟨@⟨f,Vu⟩,j,a⟩:=bB.mp a;let⟨@⟨z,VY⟩,l,a⟩:=bB.mp a;let⟨@V2,t,a⟩:=bB.mp a;let⟨@V8,A,a⟩:=bB.mp a;let⟨@v,m,a⟩:=b9.mp a;cases a;refine two Y aq j l λu J VF VQ w bR c VG VW i=>⟨V2,V8,_,VG.read c t,VW.read c A,m,λH o Vp g VX q r=>?_⟩;rw[bk]at i;exact p H o VQ Vp (c.mono g.tupS λh W n d=>g h n d) VX (i.new g q r c.chg)
def Ms{Wa:Operator}(b:d2 a (gG Wa) F)(d:eL a h Wv)(f:eL a c V_):bh a (.BinOp h Wa c VC) (aC F Wv V_):=
 d6 (R3 b d f) λ_ W W e=>wm e
variable{Wa:jI}
def Q0(b:d2 a (e2 Wa) F)(d:eL a h Wv)(f:eL a c V_)(g:oL Wa c=aA):bh a (.Compare h [Wa] [c] VC) (aC F Wv V_):=
 d6 (N1 b d f g) λ_ W W e=>wm e
def CX(d:hL a (λf z b C=>∃V2 V8 v,eY b V2 f/\eY b V8 z/\F V2 V8=Z v/\∀u T Vp,cY b T->cq T v u Vp->Vp.Nodup->(∀h∈Vp,b h=X)->C u T))(g:eL a h Wv)(i:eL a c V_)(Vy:xO c):bh a (.Subscript h c VC) (aC F Wv V_):=
 d6 (Um d g i Vy) λ_ W W e=>wm e
@[simp] def kW:ai->Option Bool
 |.im (.av c)=>Z c
 |_=>X
@[simp] def bK(L:ay ai):ay Bool:=λk=>(L k).bind λm=>(kW m.1).map λc=>(c,m.2)
def o5{c:Bool}(e:kW v=Z c):v=.im (.av c):=by
 unfold kW at e;split at e
 ·cases e;rfl
 ·cases e
def P7(d:d2 a (e2 Wa) F)(e:eL a h Wv)(f:eL a c V_)(g:oL Wa c=aA):fC a (.Compare h [Wa] [c] VC) (bK<|aC F Wv V_):=by
 refine sy (AU d e f g) λB b C i=>?_;let⟨k,N,o,@VL,Y,aq,l,p⟩:=i;refine wm ⟨k,N,.im<|.av o,VL,Y,aq,?_,λu T V0 Vp n VX j=>⟨o,VX.1,p T V0 n (by rw[VX.2,bQ]at j;exact j)⟩⟩;let⟨@m,t,A⟩:=bB.mp l;let⟨@V9,q,r⟩:=b9.mp A;cases r;rw[t,<-o5 q]
@[simp] def hz(L:ay Bool):ay Bool:=λk=>(L k).map λm=>(!m.1,m.2)
variable{L:ay Bool}
def T8(e:fC a h L):fC a (.UnaryOp .Not h VC) (hz L):=by
 refine sy (RF e) λB b C c=>?_;let⟨k,N,o,@VL,Y,aq,d,p⟩:=c;let⟨@m,t,A⟩:=b9.mp d;cases A;exact⟨k,N,m.1,_,Y,aq,t,p⟩
@[simp] def eR(L e:ay Bool):ay Bool:=λk=>(L k).bind λm=>if m.1=V then e m.2 else Z (aA,m.2)
@[simp] def j_(L e:ay Bool):ay Bool:=λk=>(L k).bind λm=>if m.1=V then Z (V,m.2) else e m.2
variable{C:Bool->aD->Prop}{e:ay Bool}
def By(H:je (eR L e) B b C):Gz (je L) (je e) B b C:=by
 let⟨k,N,o,@VL,Y,aq,g,p⟩:=H;let⟨@⟨c,Vu⟩,t,A⟩:=bB.mp g;refine⟨k,N,c,Vu,Y,aq,t,λVt U d a=>?_⟩;cases c with
 |true=>
  rw[aF rfl];rw[aF rfl]at A;exact⟨Vu,U,o,VL,d,a.aq,A,λVF VQ h i=>p VF VQ h (by
   have:=bb.trans (Vp:=[]) (by rw[bQ];exact a) i (λf j=>nomatch j)
   rwa [bQ]at this)⟩
 |false=>
  rw[aJ da]at A ⊢;cases A;exact p Vt U d a
def Rq(H:je (j_ L e) B b C):Cr (je L) (je e) B b C:=by
 let⟨k,N,o,@VL,Y,aq,g,p⟩:=H;let⟨@⟨c,Vu⟩,t,A⟩:=bB.mp g;refine⟨k,N,c,Vu,Y,aq,t,λVt U d a=>?_⟩;cases c with
 |false=>
  rw[aJ da]at A ⊢;exact⟨Vu,U,o,VL,d,a.aq,A,λVF VQ h i=>p VF VQ h (by
   have:=bb.trans (Vp:=[]) (by rw[bQ];exact a) i (λf j=>nomatch j)
   rwa [bQ]at this)⟩
 |true=>
  rw[aF rfl]at A ⊢;cases A;exact p Vt U d a
def hT(a:aL)(d:bl)(L:ay Bool):Prop:=(∀ ⦃m⦄,A1 a d (je L) m)
def Dy{D:eo}(e:jZ a d D)(g:∀B b C,V1 B b C->D B b C):jZ a d V1:=λc G j B b C y f=>e c G j B b C y (g B b C f)
def Kl(e:fC a h L):hT a (.BoolOp .And [h] VC) L:=Rj e
def JV(e:fC a h L):hT a (.BoolOp .Or [h] VC) L:=MQ e
def Jp(e:fC a h L)(b:hT a (.BoolOp .And (c::s) VC) q):hT a (.BoolOp .And (h::c::s) VC) (eR L q):=Dy (Lf e b) λ_ W W H=>By H
def Sk(e:fC a h L)(b:hT a (.BoolOp .Or (c::s) VC) q):hT a (.BoolOp .Or (h::c::s) VC) (j_ L q):=Dy (Nx e b) λ_ W W H=>Rq H
def hT.C_(e:hT a d L):fC a d L:=jZ.pt e
@[simp] def fX(L:ay Bool):ay ai:=λk=>(L k).map λm=>(.im<|.av m.1,m.2)
def yT(e:bh a d (fX L)):bG a d λB b C=>je L B b λc T=>C (.av c) T:=by
 refine d6 e λB b C f=>?_;let⟨k,N,o,@VL,Y,aq,g,p⟩:=f;refine⟨k,N,.im<|.av o,VL,Y,aq,by unfold fX;rw[g];rfl,λu T V0 Vp h VX j=>?_⟩;rw[show u=.av o from VX.1];exact p T V0 h (by rw[VX.2,bQ]at j;exact j)
def D5(e:bG a d λB b C=>je L B b λc T=>C (.av c) T):bh a d (fX L):=by
 refine d6 e λB b C f=>?_;let⟨k,N,s,@VL,Y,aq,g,p⟩:=f;let⟨@m,t,A⟩:=b9.mp g;cases A;exact⟨k,N,m.1,_,Y,aq,t,λT V0 h j=>p _ T V0 [] h ⟨rfl,rfl⟩ (by rw[bQ];exact j)⟩
def CR{L:ay ai}(e:bh a d L):bh a d (fX<|bK L):=by
 refine d6 e λB b C c=>?_;let⟨k,N,s,@VL,Y,aq,f,p⟩:=c;let⟨@m,t,A⟩:=b9.mp f;let⟨@g,h,i⟩:=bB.mp t;let⟨@o,j,l⟩:=b9.mp i;cases l;cases A;exact⟨k,N,g.1,_,Y,aq,h,by rw[o5 j];exact p⟩
def Ku(e:bh a h (fX L)):bh a (.UnaryOp .Not h VC) (fX<|hz L):=by
 refine D5 (d6 (IA<|yT e) λB b C c=>?_);let⟨k,N,o,@VL,Y,aq,d,p⟩:=c;let⟨@m,t,A⟩:=b9.mp d;cases A;exact⟨k,N,m.1,_,Y,aq,t,λT V0 f j=>⟨_,rfl,p T V0 f j⟩⟩
def L5{Wa}{L:ay ai}(e:bh a h L):bh a (.BoolOp Wa [h] VC) L:=T6 e
def Og(e:bh a h (fX L))(d:bh a (.BoolOp .And (c::s) VC) (fX q)):bh a (.BoolOp .And (h::c::s) VC) (fX<|eR L q):=by
 refine D5 (d6 (LN (yT e)<|yT d) λB b C H=>?_);have:=By H;let⟨k,N,o,@VL,Y,aq,f,p⟩:=this;exact⟨k,N,o,VL,Y,aq,f,λT V0 g j=>⟨o,rfl,p T V0 g j⟩⟩
@[simp] def kB(o:ay Bool)(h c:ay ai):ay ai:=λk=>(o k).bind λm=>if m.1=V then h m.2 else c m.2
def bb.seq(h:bb b N Vt U)(c:bb Vt U VF VQ):bb b N VF VQ:=by
 have:=bb.trans (Vp:=[]) (by rw[bQ];exact h) c (λf a=>nomatch a)
 rwa [bQ]at this
def Kg{Wv V_:ay ai}(i:fC a o WG)(j:bh a h Wv)(l:bh a c V_):bh a (.IfExp o h c VC) (kB WG Wv V_):=by
 refine d6 (UE i j l) λB b C m=>?_;let⟨k,N,s,@VL,Y,aq,n,p⟩:=m;let⟨@⟨D,Vu⟩,t,A⟩:=bB.mp n;refine⟨k,N,D,Vu,Y,aq,t,λVt U g d=>?_⟩;cases D with
 |true=>
  rw[aF rfl]at A ⊢;exact⟨Vu,U,s,VL,g,d.aq,A,λu VF VQ Vp e VX f=>p u VF VQ Vp e VX<|d.seq f⟩
 |false=>
  rw[aJ da]at A ⊢;exact⟨Vu,U,s,VL,g,d.aq,A,λu VF VQ Vp e VX f=>p u VF VQ Vp e VX<|d.seq f⟩
end
def kf(b:aD)(B:a6):List bN->List au->List aj->Prop
 |[],Vj,Vp=>Vj=[]/\Vp=[]
 |n::VI,Vj,Vp=>∃u s a bR,Vj=u::s/\hN b B n u a/\kf b B VI s bR/\Vp=a++bR
def ha(L:ay (List bN)):fh:=(λB b C=>∃k N s VL,bC b k B N/\N.Nodup/\L k=Z (s,VL)/\∀Vj T V0 Vp,bC T VL B V0->kf T B s Vj Vp->bb b N T (V0++Vp)->C Vj T)
def fV(a:aL)(S:List bl)(L:ay (List bN)):Prop:=(∀ ⦃m⦄,Dn a S (ha L) m)
def FO{D V1:fh}(e:hg a S D)(g:∀B b C,V1 B b C->D B b C):hg a S V1:=λVC G j B b C y c=>e VC G j B b C y (g B b C c)
def aH:ay (List bN):=(λk=>Z ([],k))
@[simp] def ar(L:ay bN)(e:ay (List bN)):ay (List bN):=λk=>(L k).bind λm=>(e m.2).map λp=>(m.1::p.1,p.2)
def bb.hK(j:bb b N T O)(m:O.Perm VE):bb b N T VE:=⟨j.keep,λh a=>j.sub h<|m.mem_iff.mpr a,(m.nodup_iff).mp j.aq,j.tup,j.grow⟩
def bb.less(j:bb b N T O)(m:(VE++ab).Perm O):bb b N T VE:=
 ⟨j.keep,λh a=>j.sub h<|m.mem_iff.mp<|dW _ a,(cO.mp<|(m.nodup_iff).mpr j.aq).1,j.tup,j.grow⟩
section
variable{a:aL}
def PD:fV a [] aH:=by
 refine FO o8 λB b C c=>?_;let⟨k,N,s,@VL,Y,aq,d,p⟩:=c;cases d;exact p [] b N [] Y ⟨rfl,rfl⟩ (by rw[bQ];exact bb.perm aq (List.Perm.refl _))
def TM{L:ay bN}{e:ay (List bN)}(j:eL a d L)(l:fV a S e)(Vy:bP (d::S) a.env=(aA,bJ d a.env)::bP S a.env:=by rfl):fV a (d::S) (ar L e):=by
 refine FO (lQ j l Vy) λB b C m=>?_;let⟨k,N,s,@VL,Y,aq,o,p⟩:=m;let⟨@⟨f,Vu⟩,t,A⟩:=bB.mp o;let⟨@⟨VJ,VY⟩,q,r⟩:=b9.mp A;cases r;refine⟨k,N,f,Vu,Y,aq,t,λu Vt U i v VG c=>⟨Vu,U,VJ,_,v,(cO.mp c.aq).1,q,λVj VF VQ bR w VW g=>?_⟩⟩;refine p (u::Vj) VF VQ (i++bR) w ⟨u,Vj,i,bR,rfl,VG.mono g.tup λh x n d=>g.keep h n d λe=>?_,VW,rfl⟩ ((c.trans g VG.chg).hK ?_)
 ·exact (cO.mp c.aq).2.2 h e h x rfl
 ·rw[bk];exact dZ _ c6
end
def h5(k:aY):List bN->Option (List ai)
 |[]=>Z []
 |n::VI=>(dG k n).bind λv=>(h5 k VI).map λE=>v::E
def m_(b:aD):List ai->List au->Prop
 |[],Vj=>Vj=[]
 |v::E,Vj=>∃u s,Vj=u::s/\eY b v u/\m_ b E s
theorem kf.read{b:aD}{k:aY}{B:a6}{N:List aj}(Y:bC b k B N):∀{VI:List bN}{Vj:List au}{Vp:List aj}{E:List ai},kf b B VI Vj Vp->h5 k VI=Z E->m_ b E Vj
 |[],_,_,_,e,d=>by cases d;exact e.1
 |n::VI,_,_,_,e,d=>by
  let⟨u,s,h,@bR,rfl,t,A,rfl⟩:=e;let⟨@v,a,c⟩:=bB.mp d;let⟨@E,f,g⟩:=b9.mp c;cases g;exact⟨u,s,rfl,t.read Y a,kf.read Y A f⟩
def ei:List bN->aY->Option (List ai×aY)
 |[],k=>Z ([],k)
 |.cu v::VI,k=>(ei VI k).map λm=>(v::m.1,m.2)
 |.bo g::VI,k=>(dB g k).bind λm=>(ei VI m.2).map λp=>(m.1::p.1,p.2)
def Ik{g:Nat}(Y:bC b k B N)(e:dB g k=Z (v,VL)):∃u U Vp,B[g]?=Z (Z u)/\cq b v u Vp/\bC b VL B U/\(U++Vp).Perm N:=by
 unfold dB at e;split at e
 ·rename_i d hd;split at e
  ·rename_i a;cases e;let⟨@u,t,A⟩:=Y.el hd a;exact⟨u,N,[],t,A,Y,by rw[bQ]⟩
  ·cases e;let⟨u,U,@VQ,t,A,c,f⟩:=Y.out hd;exact⟨u,VQ,U,t,A,c,f⟩
 ·cases e
def kv:(O++(VE++ab)).Perm (VE++(O++ab)):=by
 rw[<-bk,<-bk];exact e1 _ c6
theorem lV{b:aD}{B:a6}:∀{VI:List bN}{Vj:List au}{Vp N:List aj}{k VL:aY}{E:List ai},bC b k B N->kf b B VI Vj Vp->ei VI k=Z (E,VL)->∃U a,bC b VL B U/\c2 b E Vj a/\(U++a).Perm (N++Vp)
 |[],_,_,N,_,_,_,Y,e,d=>by
  cases d;exact⟨N,[],Y,⟨e.1,rfl⟩,by rw[e.2]⟩
 |.cu v::VI,_,_,N,k,_,_,Y,e,d=>by
  let⟨u,s,a,@bR,rfl,t,A,rfl⟩:=e;rw[ei]at d;let⟨@m,h,i⟩:=b9.mp d;cases i;let⟨U,@c,f,j,l⟩:=lV (VL:=m.2) (E:=m.1) Y A h;exact⟨U,a++c,f,⟨u,s,a,c,rfl,t,j,rfl⟩,kv.trans<|(dZ _ l).trans kv⟩
 |.bo g::VI,_,_,N,k,_,_,Y,e,d=>by
  let⟨u,s,a,@bR,rfl,@⟨t,rfl⟩,A,rfl⟩:=e;rw[ei]at d;let⟨@⟨v,Vu⟩,o,p⟩:=bB.mp d;let⟨@m,h,i⟩:=b9.mp p;cases i;let⟨y,U,@c,f,j,l,q⟩:=Ik Y o;rw[t]at f;cases f;let⟨VQ,@n,r,w,x⟩:=lV (VL:=m.2) (E:=m.1) l A h;refine⟨VQ,c++n,r,⟨u,s,c,n,rfl,j,w,rfl⟩,kv.trans<|(dZ _ x).trans ?_⟩;rw[<-bk];exact e1 _ (c6.trans q)
@[simp] def hh:List bN->List ai->aY->aY
 |.bo g::VI,v::E,k=>hh VI E (match k[g]? with|some (Z .dK)=>k.set g (Z v)|_=>k)
 |.cu _::VI,_::E,k=>hh VI E k
 |_,_,k=>k
theorem pX{b i:aD}{B:a6}:∀{VI:List bN}{E:List ai}{Vj:List au}{Vp N VD:List aj}{k:aY},bC b k B N->kf i B VI Vj VD->c2 b E Vj Vp->∃U a,bC b (hh VI E k) B U/\(U++a).Perm (N++Vp)
 |[],E,_,Vp,N,_,k,Y,_,_=>⟨N,Vp,by unfold hh;exact Y,List.Perm.refl _⟩
 |.cu _::VI,[],_,Vp,N,_,k,Y,_,_=>⟨N,Vp,by unfold hh;exact Y,List.Perm.refl _⟩
 |.bo _::VI,[],_,Vp,N,_,k,Y,_,_=>⟨N,Vp,by unfold hh;exact Y,List.Perm.refl _⟩
 |.cu _::VI,v::E,_,Vp,N,_,k,Y,e,H=>by
  let⟨u,s,j,@l,rfl,t,A,rfl⟩:=e;let⟨m,Wh,a,@bR,d,cp,cv,rfl⟩:=H;cases d;let⟨U,@c,f,h⟩:=pX (k:=k) Y A cv;refine⟨U,a++c,by rw[hh];exact f,kv.trans<|(dZ _ h).trans kv⟩
 |.bo g::VI,v::E,_,Vp,N,_,k,Y,e,H=>by
  let⟨u,s,j,@l,rfl,@⟨t,W⟩,A,rfl⟩:=e;let⟨m,Wh,a,@bR,d,cp,cv,rfl⟩:=H;cases d;rw[hh];split
  ·let⟨U,@Q,f,h⟩:=Y.back cp t;let⟨VQ,@c,n,o⟩:=pX f A cv;refine⟨VQ,c++Q,n,?_⟩;rw[<-bk,<-bk];refine (e1 _ o).trans ?_;rw[bk];refine (dZ _ c6).trans ?_;rw[<-bk];exact e1 _ h
  ·let⟨U,@c,f,h⟩:=pX Y A cv;exact⟨U,a++c,f,kv.trans<|(dZ _ h).trans kv⟩
def gA:List ai->Option (List aa)
 |[]=>Z []
 |.im v::E=>(gA E).map λs=>v::s
 |_::_=>X
@[simp] def rm(E:List ai):ai:=match gA E with
 |some is=>.im (.tup is)
 |none=>.pl E
@[simp] def sa(E:List ai):ai:=match gA E with
 |some is=>.lst is
 |none=>.hJ E
theorem w7{b:aD}:∀{E:List ai}{Vj:List au}{Vp:List aj}{is:List aa},c2 b E Vj Vp->gA E=Z is->bM b is Vj/\Vp=[]
 |[],_,_,_,e,d=>by cases d;exact e
 |.im v::E,_,_,_,e,d=>by
  let⟨u,s,g,@bR,rfl,@⟨t,rfl⟩,A,rfl⟩:=e;rw[gA]at d;let⟨@m,a,c⟩:=b9.mp d;cases c;let@⟨f,rfl⟩:=w7 A a;exact⟨⟨u,s,rfl,t,f⟩,rfl⟩
 |.dK::_,_,_,_,_,d=>by rw[gA]at d;cases d;all_goals (intro W i;cases i)
 |.dF _::_,_,_,_,_,d=>by rw[gA]at d;cases d;all_goals (intro W i;cases i)
 |.lst _::_,_,_,_,_,d=>by rw[gA]at d;cases d;all_goals (intro W i;cases i)
 |.dJ _::_,_,_,_,_,d=>by rw[gA]at d;cases d;all_goals (intro W i;cases i)
 |.aw _::_,_,_,_,_,d=>by rw[gA]at d;cases d;all_goals (intro W i;cases i)
 |.hJ _::_,_,_,_,_,d=>by rw[gA]at d;cases d;all_goals (intro W i;cases i)
 |.pl _::_,_,_,_,_,d=>by rw[gA]at d;cases d;all_goals (intro W i;cases i)
 |.fu _::_,_,_,_,_,d=>by rw[gA]at d;cases d;all_goals (intro W i;cases i)
 |.dL _::_,_,_,_,_,d=>by rw[gA]at d;cases d;all_goals (intro W i;cases i)
 |.uj _ _::_,_,_,_,_,d=>by rw[gA]at d;cases d;all_goals (intro W i;cases i)
 |.aQ _ _ _::_,_,_,_,_,d=>by rw[gA]at d;cases d;all_goals (intro W i;cases i)
@[simp] def dp(L:ay (List bN)):ay ai:=λk=>(L k).bind λm=>(ei m.1 m.2).bind λp=>if p.1.length<=100000 then Z (rm p.1,p.2) else X
@[simp] def fp(L:ay (List bN)):ay ai:=λk=>(L k).bind λm=>(ei m.1 m.2).bind λp=>if p.1.length<=100000 then Z (sa p.1,p.2) else X
def NY{E:List ai}{m:aj}(j:cY b T)(e:c2 b E Vj Vp)(d:T m=Z (.tup Vj)):∃y,cq T (rm E) (.ref m) y/\y=Vp:=by
 unfold rm;split
 ·rename_i is Vl;let@⟨a,rfl⟩:=w7 e Vl;exact⟨[],⟨⟨m,Vj,rfl,d,a.mono j.tupS.tup⟩,rfl⟩,rfl⟩
 ·exact⟨Vp,⟨m,Vj,rfl,d,e.mono j.tupS λh W n p=>j h n p⟩,rfl⟩
def Ji{E:List ai}{m:aj}(j:cY b T)(e:c2 b E Vj Vp)(d:T m=Z (.lst Vj)):cq T (sa E) (.ref m) (m::Vp):=by
 unfold sa;split
 ·rename_i is Vl;let@⟨a,rfl⟩:=w7 e Vl;exact⟨m,Vj,rfl,d,a.mono j.tupS.tup,rfl⟩
 ·exact⟨m,Vj,Vp,rfl,d,e.mono j.tupS λh W n p=>j h n p,rfl⟩
def mO(e:x<=100000):x<=sizeLine:=dc e ∅
def bb.add{b Vt:aD}{N O:List aj}{m:aj}{n:eV}(h:bb b N Vt O)(a:Vt m=X)(o:∀f∈O,fx Vt f):bb b N (upd Vt m n) (O++[m]):=by
 have j:cY Vt (upd Vt m n):=(cY.refl Vt).upd a;have:=bb.new (Vp:=[]) (y:=[m]) (by rw[bQ];exact h) j (eB _ _) (λf c=>by rw[cb.mp c];exact a) o;exact this
def bb.same(h:bb b N Vt O)(j:cY Vt VF):bb b N VF O:=
 ⟨λf n d a=>j _ _<|h.keep f n d a,h.sub,h.aq,h.tup.trans j.tupS,λf n d=>let ⟨V4,c⟩:=h.grow f n d;⟨V4,j _ _ c⟩⟩
section
variable{a:aL}
def Oc{f}(e:fV a S L):bh a (.Tuple S f VC) (dp L):=by
 refine d6 (Jv e) λB b C g=>?_;let⟨k,N,s,@VL,Y,aq,i,p⟩:=g;let⟨@⟨VI,Vu⟩,t,A⟩:=bB.mp i;let⟨@⟨E,VY⟩,l,c⟩:=bB.mp A;refine⟨k,N,VI,Vu,Y,aq,t,λVj Vt U z o VG q=>?_⟩;let⟨VQ,@bR,r,VX,VN⟩:=lV o VG l;split at c
 ·rename_i u;cases c;have v:Vj.length<=100000:=by rw[<-VX.length];exact u
  refine⟨mO v,λm w=>?_⟩;have j:cY Vt (upd Vt m<|.tup Vj):=(cY.refl Vt).upd w;let⟨@y,x,rfl⟩:=NY j VX d_;exact p _ _ VQ y (r.mono j.tupS λh W n d=>j h n d) x ((q.hK VN.symm).same j)
 ·cases c
def PU(e:fV a S L):bh a (.List S VC) (fp L):=by
 refine d6 (PZ e) λB b C o=>?_;let⟨k,N,s,@VL,Y,aq,q,p⟩:=o;let⟨@⟨VI,Vu⟩,t,A⟩:=bB.mp q;let⟨@⟨E,VY⟩,r,g⟩:=bB.mp A;refine⟨k,N,VI,Vu,Y,aq,t,λVj Vt U z u VG v=>?_⟩;let⟨VQ,@bR,i,VX,VN⟩:=lV u VG r;split at g
 ·rename_i w;cases g;have x:Vj.length<=100000:=by rw[<-VX.length];exact w
  refine⟨mO x,λm l=>?_⟩;have j:cY Vt (upd Vt m<|.lst Vj):=(cY.refl Vt).upd l;have y:=Ji j VX (m:=m) d_;refine p _ _ VQ (m::bR) (i.mono j.tupS λh W n d=>j h n d) y (((v.hK VN.symm).add l λf c=>?_).hK ?_)
  ·rcases du.mp c with c|c
   ·exact i.chg f c
   ·exact VX.chg f c
  ·rw[bk];exact dZ _ c6
 ·cases g
def gV(a:aL)(F:ae)(Wa:List ai->Option ai):Prop:=(
 eD a F λw b C=>∃E v,m_ b E w/\Wa E=Z v/\∀u T Vp,cY b T->cq T v u Vp->Vp.Nodup->(∀h∈Vp,b h=X)->C u T)
@[simp] def bS(Wa:List ai->Option ai)(L:ay (List bN)):ay ai:=λk=>(L k).bind λm=>(h5 m.2 m.1).bind λE=>(Wa E).map λv=>(v,m.2)
def GL(e:mL (bS Wa L) B b C):
  ha L B b λw Vt=>∃E v,m_ Vt E w/\Wa E=Z v/\∀u T Vp,cY Vt T->cq T v u Vp->Vp.Nodup->(∀h∈Vp,Vt h=X)->C u T:=by
 let⟨k,N,s,@VL,Y,aq,f,p⟩:=e;let⟨@⟨VI,Vu⟩,t,A⟩:=bB.mp f;let⟨@E,g,i⟩:=bB.mp A;let⟨@v,j,l⟩:=b9.mp i;cases l;refine⟨k,N,VI,Vu,Y,aq,t,λVj Vt U r a VG m=>⟨E,_,VG.read a g,j,λu VF Vp c VX o q=>?_⟩⟩;exact p u VF U Vp (a.mono c.tupS λh W n d=>c h n d) VX (m.new c o q a.chg)
def Mw{id:String}(b:gV a (.builtin id) Wa)(c:eu a f)(g:a.aU f=X)(h:iA f=Z (.builtin id))(i:fV a (d::S) L)(j:f ≠ "__name__" := by decide)(k:(f==("__debug__" : az))=aA:=by decide)(l:bP (d::S) a.env=(aA,bJ d a.env)::bP S a.env:=by rfl)(n:(d9 VC<|bP S a.env).any (·.1)=aA:=by rfl):
  bh a (.Call (.Name f m) (d::S) [] VC) (bS Wa L):=d6 (wZ b c g h i j k l n) λ_ W W e=>GL e
def wj{Vv:String}(b:gV a (.type Vv) Wa)(c:eu a f)(g:a.aU f=X)(h:iA f=Z (.type Vv))(i:fV a (d::S) L)(j:f ≠ "__name__" := by decide)(k:(f==("__debug__" : az))=aA:=by decide)(l:bP (d::S) a.env=(aA,bJ d a.env)::bP S a.env:=by rfl)(n:(d9 VC<|bP S a.env).any (·.1)=aA:=by rfl):
  bh a (.Call (.Name f m) (d::S) [] VC) (bS Wa L):=d6 (M7 b c g h i j k l n) λ_ W W e=>GL e
abbrev cj:=List ai->Option (ai×List ai)
def i3(x:Nat)(Q:cj):j0:=(λVj b C W=>Vj.length=x/\∃E N s outs,c2 b E Vj N/\N.Nodup/\Q E=Z (s,outs)/\∀u T Vp y,cq T s u Vp->c2 T outs Vj y->bb b N T (Vp++y)->C u T)
@[simp] def bF(x:Nat)(Q:cj)(L:ay (List bN)):ay ai:=λk=>(L k).bind λm=>if m.1.length=x then (ei m.1 m.2).bind λp=>(Q p.1).map λs=>(s.1,hh m.1 s.2 p.2) else X
theorem kf.length{b:aD}{B:a6}:∀{VI:List bN}{Vj:List au}{Vp:List aj},kf b B VI Vj Vp->VI.length=Vj.length
 |[],_,_,e=>by rw[e.1];rfl
 |n::VI,_,_,e=>by
  let⟨u,s,a,@bR,rfl,t,A,rfl⟩:=e;rw[dn,dn,kf.length A]
def Ir{Q:cj}{Vo:fv}(e:mL (bF x Q L) B b C):Cj (i3 x Q) [] Vo (ha L) B b C:=by
 let⟨k,N,s,@VL,Y,aq,j,p⟩:=e;let⟨@⟨VI,Vu⟩,t,A⟩:=bB.mp j;split at A
 ·rename_i l;let⟨@⟨E,VY⟩,m,o⟩:=bB.mp A;let⟨@⟨Wh,outs⟩,q,r⟩:=b9.mp o;cases r;refine⟨k,N,VI,Vu,Y,aq,t,λVj Vt U O v VG w=>?_⟩;let⟨VQ,bR,g,VX,VN⟩:=lV v VG m;have a:=w.hK (VN.symm.trans c6);rw[bQ];refine⟨by rw[<-VG.length];exact l,E,bR,_,outs,VX,(cO.mp a.aq).1,q,λu i Vp y cp cv c=>?_⟩;have z:=a.trans c g.chg;have D:∀h∈VQ,h∉bR:=λh f F=>(cO.mp a.aq).2.2 h F h f rfl;have G:bC i VY B VQ:=g.mono c.tup λh f n d=>c.keep h n d (D h f);let⟨H,@I,J,M⟩:=pX G VG cv;refine p u i H Vp J cp (z.less (ab:=I) ?_);refine List.Perm.trans ?_ c6;rw[bk];refine (dZ _ c6).trans ?_;rw[<-bk];refine (e1 _ M).trans ?_;rw[bk];exact dZ _ c6
 ·cases A
variable{q:Nat}
def R0{Q:cj}{F:aj}(N:fT a.prog a.w a.K a.aU a.base gr q F fd Vw (i3 x Q))(b:dt q a.A)(c:eu a f)(g:a.aU f=Z (.ref F))(h:Θ a.K (.ref F)=V)(i:f6 a.K fd Vw [])(j:fV a (d::S) L)(k:(f==("__debug__" : az))=aA:=by decide)(l:bP (d::S) a.env=(aA,bJ d a.env)::bP S a.env:=by rfl)(n:(d9 VC<|bP S a.env).any (·.1)=aA:=by rfl):
  bh a (.Call (.Name f m) (d::S) [] VC) (bF x Q L):=d6 (FW N b c g h i .nil qK j k l n) λ_ U U e=>Ir e
inductive kH where
 | aX|ej (v:ai)|d0|b3
abbrev bu:=aY->Option (kH×aY)
def c4(VV:List Nat)(B a:a6):Prop:=(a.length=B.length/\∀g∈VV,a[g]?=B[g]?)
def c4.refl:c4 VV B B:=⟨rfl,λ_ W=>rfl⟩
def c4.trans{a:a6}(h:c4 VV B WW)(c:c4 VV WW a):c4 VV B a:=⟨c.1.trans h.1,λg Vl=>(c.2 g Vl).trans<|h.2 g Vl⟩
def c4.set{u:Option au}(e:r∉VV):c4 VV B (B.set r u):=⟨tZ,λg Vl=>oR λd=>e (by rw[d];exact Vl)⟩
def rS(VV:List Nat)(Vo:og)(B:a6)(b:aD)(N:List aj)(VL:aY):kH->Prop
 |.aX=>∀a T V0,c4 VV B a->bC T VL a V0->bb b N T V0->Vo.aX a T
 |.d0=>∀a T V0,c4 VV B a->bC T VL a V0->bb b N T V0->Vo.d0 a T
 |.b3=>∀a T V0,c4 VV B a->bC T VL a V0->bb b N T V0->Vo.b3 a T
 |.ej v=>∀u a T V0 Vp,c4 VV B a->bC T VL a V0->cq T v u Vp->bb b N T (V0++Vp)->Vo.ej u T
def qz(VV:List Nat)(L:bu):e4:=(λVo B b=>∃k N aW VL,bC b k B N/\N.Nodup/\L k=Z (aW,VL)/\rS VV Vo B b N VL aW)
def ec(a:aL)(VV:List Nat)(Y:cf)(L:bu):Prop:=(∀ ⦃m⦄,DB a Y (qz VV L) m)
def gk(a:aL)(VV:List Nat)(sd:List cf)(L:bu):Prop:=(∀ ⦃m⦄,Bz a sd (qz VV L) m)
variable{V1:e4}
def jb{Y:cf}{D:e4}(e:hs a Y D)(g:∀Vo B b,V1 Vo B b->D Vo B b):hs a Y V1:=λG j B b k y c=>e G j B b k y (g k B b c)
def HK{Y:List cf}{D:e4}(e:h6 a Y D)(g:∀Vo B b,V1 Vo B b->D Vo B b):h6 a Y V1:=λG j B b k y c=>e G j B b k y (g k B b c)
def rS.on{aW:kH}(e:rS VV Vo B b N VL aW)(Wn:c4 VV B WW)(j:bb b N Vt U):rS VV Vo WW Vt U VL aW:=by
 cases aW with
 |aX=>exact λa T V0 F Y Vm=>e a T V0 (Wn.trans F) Y (j.seq Vm)
 |d0=>exact λa T V0 F Y Vm=>e a T V0 (Wn.trans F) Y (j.seq Vm)
 |b3=>exact λa T V0 F Y Vm=>e a T V0 (Wn.trans F) Y (j.seq Vm)
 |ej v=>exact λu a T V0 Vp F Y VX Vm=>e u a T V0 Vp (Wn.trans F) Y VX (j.seq Vm)
def fH:bu:=(λk=>Z (.aX,k))
@[simp] def bf(L e:bu):bu:=λk=>(L k).bind λm=>match m.1 with
 |.aX=>e m.2
 |aW=>Z (aW,m.2)
def M3:gk a VV [] fH:=by
 refine HK KO λVo B b c=>?_;let⟨k,N,aW,@VL,Y,aq,d,p⟩:=c;cases d;exact p B b N c4.refl Y (bb.perm aq<|List.Perm.refl _)
variable{L:bu}
def Pp{Y:cf}(e:ec a VV Y L):gk a VV [Y] L:=PY e
def QT{e:bu}(H:qz VV (bf L e) Vo B b):GN (qz VV L) (qz VV e) Vo B b:=by
 let⟨k,N,aW,@VL,Y,aq,a,p⟩:=H;let⟨@⟨c,Vu⟩,t,A⟩:=bB.mp a;cases c with
 |aX=>exact⟨k,N,.aX,Vu,Y,aq,t,λf T V0 Wn d j=>⟨Vu,V0,aW,VL,d,j.aq,A,p.on Wn j⟩⟩
 |d0=>cases A;exact⟨k,N,.d0,Vu,Y,aq,t,p⟩
 |b3=>cases A;exact⟨k,N,.b3,Vu,Y,aq,t,p⟩
 |ej v=>cases A;exact⟨k,N,.ej v,Vu,Y,aq,t,p⟩
def Uk{Y:cf}{sd:List cf}{e:bu}(t:ec a VV Y L)(A:gk a VV sd e):gk a VV (Y::sd) (bf L e):=HK (Ta t A) λ_ W W H=>QT H
def p7:bu:=(λ_=>X)
def SN{Y:cf}:ec a VV Y p7:=jb Mi λ_ _ _ ⟨_,_,_,_,_,_,e,_⟩=>by cases e
@[simp] def gh(L:ay ai):bu:=λk=>(L k).map λm=>(.aX,m.2)
variable{L:ay ai}
def J4(e:bh a d L)(Vy:kC d X VC.line a.env=pure aA:=by rfl):ec a VV (.Expr d VC) (gh L):=by
 refine jb (J5 e Vy) λVo B b c=>?_;let⟨k,N,aW,@VL,Y,aq,f,p⟩:=c;let⟨@⟨s,Vu⟩,t,A⟩:=b9.mp f;cases A;exact⟨k,N,s,_,Y,aq,t,λu T V0 Vp g VX j=>p B T V0 c4.refl g<|j.less<|List.Perm.refl _⟩
@[simp] def cw(L:ay ai):bu:=λk=>(L k).map λm=>(.ej m.1,m.2)
def Rz(e:bh a d L):ec a VV (.Return (Z d) VC) (cw L):=by
 refine jb (NR e) λVo B b c=>?_;let⟨k,N,aW,@VL,Y,aq,f,p⟩:=c;let⟨@⟨s,Vu⟩,t,A⟩:=b9.mp f;cases A;exact⟨k,N,s,_,Y,aq,t,λu T V0 Vp g VX j=>p u B T V0 Vp c4.refl g VX j⟩
@[simp] def eg(o:ay Bool)(h c:bu):bu:=λk=>(o k).bind λm=>if m.1=V then h m.2 else c m.2
variable{V_:bu}
def Tc{h c:List cf}{Wv:bu}(f:fC a o WG)(g:gk a VV h Wv)(i:gk a VV c V_):ec a VV (.If o h c VC) (eg WG Wv V_):=by
 refine jb (LW f g i) λVo B b j=>?_;let⟨k,N,aW,@VL,Y,aq,l,p⟩:=j;let⟨@⟨D,Vu⟩,t,A⟩:=bB.mp l;refine⟨k,N,D,Vu,Y,aq,t,λVt U e d=>?_⟩;cases D with
 |true=>
  rw[aF rfl]at A ⊢;exact⟨Vu,U,aW,VL,e,d.aq,A,p.on c4.refl d⟩
 |false=>
  rw[aJ da]at A ⊢;exact⟨Vu,U,aW,VL,e,d.aq,A,p.on c4.refl d⟩
@[simp] def bZ(g:Nat)(L:ay ai):bu:=λk=>(L k).bind λm=>if g<m.2.length then Z (.aX,m.2.set g<|Z m.1) else X
variable{g:Nat}
def Oz{WM:Pos}(c:a.N.Nodup)(Vl:a.N[g]?=Z f)(e:j6 a.env.scope f)(h:bh a d L)(i:g∉VV)(Vy:kC d (Z<|.Name f WM) VC.line a.env=pure aA:=by rfl)(j:a.fn f=V\/a.env.scope.names.lookup f=Z .local:=by first|exact .inl rfl|exact .inr rfl|assumption):ec a VV (.Assign [.Name f WM] d VC) (bZ g L):=by
 refine jb (Ro c Vl e h Vy j) λVo B b l=>?_;let⟨k,N,aW,@VL,Y,aq,m,p⟩:=l;let⟨@⟨s,Vu⟩,t,A⟩:=bB.mp m;split at A
 ·rename_i n;cases A;refine⟨k,N,s,_,Y,aq,t,λu Vt U Vp o VX q=>?_⟩;let⟨VQ,@bR,r,VN⟩:=o.put (g:=g) VX n;exact p _ Vt VQ (c4.set i) r (q.less VN)
 ·cases A
abbrev eW:=ai->aY->Option aY
def AA(VV:List Nat)(L:eW):gQ:=(λu B b C=>∃k N v Vp VL,bC b k B N/\cq b v u Vp/\(N++Vp).Nodup/\L v k=Z VL/\∀a T V0,c4 VV B a->bC T VL a V0->bb b (N++Vp) T V0->C a T)
def fO(a:aL)(VV:List Nat)(d:bl)(L:eW):Prop:=(∀ ⦃m⦄,AV a d (AA VV L) m)
def r3{D V1:gQ}(e:j2 a d D)(g:∀u B b C,V1 u B b C->D u B b C):j2 a d V1:=λG j B b f u C y s c=>e G j B b f u C y s (g f B b C c)
@[simp] def bx(g:Nat):eW:=λv k=>if g<k.length then Z (k.set g<|Z v) else X
def IH(d:a.N.Nodup)(Vl:a.N[g]?=Z f)(e:j6 a.env.scope f)(h:g∉VV)(i:a.fn f=V\/a.env.scope.names.lookup f=Z .local:=by first|exact .inl rfl|exact .inr rfl|assumption):fO a VV (.Name f VC) (bx g):=by
 refine r3 (UK d Vl e i) λu B b C j=>?_;let⟨k,N,v,Vp,@VL,Y,VX,aq,c,p⟩:=j;unfold bx at c;split at c
 ·rename_i l;cases c;let⟨VQ,@bR,m,VN⟩:=Y.put (g:=g) VX l;exact p _ b VQ (c4.set h) m ((bb.perm aq<|List.Perm.refl _).less VN)
 ·cases c
def JG(VV:List Nat)(L:List ai->aY->Option aY):kn:=(λVj B b C=>∃k N E Vp VL,bC b k B N/\c2 b E Vj Vp/\(N++Vp).Nodup/\L E k=Z VL/\∀a T V0,c4 VV B a->bC T VL a V0->bb b (N++Vp) T V0->C a T)
def nE(a:aL)(VV:List Nat)(S:List bl)(L:List ai->aY->Option aY):Prop:=(∀ ⦃m⦄,BL a S (JG VV L) m)
@[simp] def ki:List ai->aY->Option aY
 |[],k=>Z k
 |_,_=>X
@[simp] def gF(L:eW)(e:List ai->aY->Option aY):List ai->aY->Option aY
 |v::E,k=>(L v k).bind (e E)
 |_,_=>X
def AR{D V1:kn}(e:qq a S D)(g:∀u B b C,V1 u B b C->D u B b C):qq a S V1:=λG j B b w Vj C y s c=>e G j B b w Vj C y s (g w B b C c)
def Qu:nE a VV [] ki:=by
 refine AR L_ λVj B b C d=>?_;let⟨k,N,E,Vp,@VL,Y,VX,aq,c,p⟩:=d;cases E with
 |cons v E=>cases c
 |nil=>
  cases c;exact⟨VX.1,p B b N c4.refl Y<|(bb.perm aq<|List.Perm.refl _).less<|List.Perm.refl _⟩
def OG{L:eW}(t:fO a VV d L)(A:nE a VV S e)(Vy:(jK (d::S) a.env).map (·.2)=i2 d a.env::(jK S a.env).map (·.2):=by rfl):nE a VV (d::S) (gF L e):=by
 refine AR (Kb t A Vy) λVj B b C r=>?_;let⟨k,N,E,Vp,@VL,Y,VX,aq,m,p⟩:=r;cases E with
 |nil=>cases m
 |cons v E=>
  let⟨u,s,i,@bR,rfl,cp,cv,rfl⟩:=VX;let⟨@Vu,w,x⟩:=bB.mp (show (L v k).bind (e E)=Z VL from m);have l:((N++i)++bR).Nodup:=by rw[bk];exact aq
  refine⟨u,s,rfl,k,N,v,i,Vu,Y,cp,(cO.mp l).1,w,λWW Vt U Wn y g=>?_⟩;have o:∀h∈bR,h∉N++i:=λh f j=>(cO.mp l).2.2 h j h f rfl;have z:c2 Vt E s bR:=cv.mono g.tup λh f n d=>g.keep h n d (o h f);have q:bb b (N++(i++bR)) Vt (U++bR):=by
   refine⟨λh n d f=>g.keep h n d λe=>f ?_,λh f=>?_,cO.mpr ⟨g.aq,(cO.mp l).2.1,λh f c j d=>?_⟩,g.tup,g.grow⟩
   ·rw[<-bk];exact dW _ e
   ·rcases du.mp f with f|f
    ·rcases g.sub h f with e|e
     ·left;rw[<-bk];exact dW _ e
     ·exact .inr e
    ·left;rw[<-bk];exact dy _ f
   ·subst d;rcases g.sub h f with e|e
    ·exact o h j e
    ·let⟨@n,d,W⟩:=cv.chg h j;rw[d]at e;cases e
  exact⟨Vu,U,E,bR,VL,y,z,q.aq,x,λD VF VQ F G H=>p D VF VQ (Wn.trans F) G<|q.seq H⟩
@[simp] def jU(x:Nat)(e:List ai->aY->Option aY):eW:=λv k=>match v with
 |.im (.tup is)=>if is.length=x then e (is.map .im) k else X
 |.pl E=>if E.length=x then e E k else X
 |_=>X
theorem GU{b:aD}:∀{is:List aa}{Vj:List au},bM b is Vj->c2 b (is.map .im) Vj []
 |[],Vj,e=>⟨e,rfl⟩
 |v::is,Vj,e=>by
  let⟨u,@s,rfl,t,A⟩:=e;exact⟨u,s,[],[],rfl,⟨t,rfl⟩,GU A,rfl⟩
def Ke(f:a.calm=V)(Vy:nE a VV S e)(g:(jK S a.env).length=x:=by rfl)(i:(jK S a.env).findIdx? (·.1)=X:=by rfl):fO a VV (.Tuple S q VC) (jU x e):=by
 refine r3 (R9 f Vy g i) λu B b C j=>?_;let⟨k,N,v,Vp,@VL,Y,VX,aq,c,p⟩:=j;unfold jU at c;split at c
 ·rename_i is;split at c
  ·rename_i d;let@⟨⟨h,@w,rfl,t,A⟩,rfl⟩:=VX;exact⟨h,w,rfl,cZ.of t,by rw[<-A.length];exact d,k,N,_,[],VL,Y,GU A,aq,c,p⟩
  ·cases c
 ·rename_i E;split at c
  ·rename_i d;let⟨h,@w,rfl,t,A⟩:=VX;exact⟨h,w,rfl,cZ.of t,by rw[<-A.length];exact d,k,N,_,Vp,VL,Y,A,aq,c,p⟩
  ·cases c
 ·cases c
@[simp] def fR(L:ay ai)(e:eW):bu:=λk=>(L k).bind λm=>(e m.1 m.2).map λVL=>(.aX,VL)
def O5{e:eW}(f:bh a d L)(g:fO a VV VR e)(Vy:tF [VR] d VC.line a.env=pure aA:=by rfl)(h:tR [VR] d a.env=pure X:=by rfl)(t:(jK [VR] a.env).map (·.2)=[i2 VR a.env]:=by rfl):ec a VV (.Assign [VR] d VC) (fR L e):=by
 refine jb (M9 f g Vy h t) λVo B b i=>?_;let⟨k,N,aW,@VL,Y,aq,j,p⟩:=i;let⟨@⟨s,Vu⟩,g1,g2⟩:=bB.mp j;let⟨@VY,l,m⟩:=b9.mp g2;cases m;exact⟨k,N,s,Vu,Y,aq,g1,λu Vt U Vp n VX c=>⟨Vu,U,s,Vp,_,n,VX,c.aq,l,λo T V0 Wn q r=>p o T V0 Wn q<|c.seq r⟩⟩
@[simp] def n6(g r:Nat)(L:ay (List bN)):bu:=λk=>(L k).bind λm=>(ei m.1 m.2).bind λp=>match p.1 with
 |[V2,V8]=>if g<p.2.length/\r<p.2.length then Z (.aX,(p.2.set g<|Z V2).set r<|Z V8) else X
 |_=>X
def SS{z:az}{L:ay (List bN)}{mX i Wb VC:Pos}{Wf j l}(o:a.calm=V)(q:a.N.Nodup)(Vl:a.N[g]?=Z f)(v:a.N[r]?=Z z)(w:g≠r)(x:a.env.scope.names.lookup f=Z .local)(y:a.env.scope.names.lookup z=Z .local)(C:fV a [h,c] L)(D:g∉VV)(F:r∉VV)(G:tR [.Tuple [.Name f mX,.Name z i] Wf Wb] (.Tuple [h,c] j l) a.env=pure (Z [f,z]))(Vy:tF [.Tuple [.Name f mX,.Name z i] Wf Wb] (.Tuple [h,c] j l) VC.line a.env=pure aA:=by rfl):
  ec a VV (.Assign [.Tuple [.Name f mX,.Name z i] Wf Wb] (.Tuple [h,c] j l) VC) (n6 g r L):=by
 refine jb (NM o q Vl v w x y C G Vy) λVo B b H=>?_;let⟨k,N,aW,@VL,Y,aq,I,p⟩:=H;let⟨@⟨VI,Vu⟩,t,A⟩:=bB.mp I;let⟨@⟨E,VY⟩,M,e⟩:=bB.mp A;refine⟨k,N,VI,Vu,Y,aq,t,λVj Vt U a1 P VG Q=>?_⟩;let⟨VQ,@bR,R,VX,VN⟩:=lV P VG M;dsimp only at e;split at e
 ·rename_i V2 V8 d;split at e
  ·rename_i m;cases e;let⟨u,s,O,@VE,rfl,cp,cv,rfl⟩:=VX;let⟨J,Wh,a2,@bd,rfl,de,@⟨rfl,rfl⟩,rfl⟩:=cv;let⟨S,@n,T,al⟩:=R.put (g:=g) cp m.1;let⟨am,@an,ap,as⟩:=T.put (g:=r) de (by rw[tZ];exact m.2);refine⟨u,J,rfl,p _ Vt am ((c4.set D).trans<|c4.set F) ap<|(Q.hK VN.symm).less (ab:=an++n) ?_⟩;rw[<-bk,bQ,<-bk];refine (e1 n as).trans ?_;rw[bk];refine (dZ S c6).trans ?_;rw[<-bk];exact e1 _ al
  ·cases e
 ·cases e
def kG(o:ay Bool)(c:bu):Nat->bu
 |0=>λ_=>X
 |x+1=>λk=>(o k).bind λm=>if m.1=V then (c m.2).bind λp=>match p.1 with
  |.aX=>kG o c x p.2
  |.b3=>kG o c x p.2
  |.d0=>Z (.aX,p.2)
  |.ej v=>Z (.ej v,p.2) else Z (.aX,m.2)
def J1(x:Nat)(n:q0 (aO a.prog a.w) a.A a.env a.cR)(q:fC a o WG)(r:gk a VV WT V_):ec a VV (.While o WT [] VC) (kG WG V_ x):=by
 refine jb (NX n q r) λVo B b s=>?_;let⟨k,N,aW,@VL,Y,aq,t,p⟩:=s;refine⟨λl c T=>∃h V0,bC T h c V0/\c4 VV B c/\bb b N T V0/\kG WG V_ l h=Z (aW,VL),⟨x,k,N,Y,c4.refl,bb.perm aq<|List.Perm.refl _,t⟩,?_⟩;rintro l WW Vt ⟨Vu,U,z,i,f,H⟩;cases l with
 |zero=>cases H
 |succ l=>
  rw[kG]at H;let⟨@⟨D,VY⟩,cp,cv⟩:=bB.mp H;refine⟨Vu,U,D,VY,z,f.aq,cp,λVF VQ m g=>?_⟩;cases D with
  |false=>
   rw[aJ da]at cv ⊢;cases cv;exact p WW VF VQ i m (f.seq g)
  |true=>
   rw[aF rfl]at cv ⊢;let⟨@⟨F,y⟩,de,j⟩:=bB.mp cv;refine⟨λc T=>∃h V0,bC T h c V0/\c4 VV B c/\bb b N T V0/\kG WG V_ l h=Z (aW,VL),λc T e=>⟨l,l7 l,e⟩,VY,VQ,F,y,m,g.aq,de,?_⟩;cases F with
   |aX=>exact λc T V0 Wn d Vm=>⟨y,V0,d,i.trans Wn,(f.seq g).seq Vm,j⟩
   |b3=>exact λc T V0 Wn d Vm=>⟨y,V0,d,i.trans Wn,(f.seq g).seq Vm,j⟩
   |d0=>
    cases j;exact λc T V0 Wn d Vm=>p c T V0 (i.trans Wn) d ((f.seq g).seq Vm)
   |ej v=>
    cases j;exact λu c T V0 Vp Wn d VX Vm=>p u c T V0 Vp (i.trans Wn) d VX ((f.seq g).seq Vm)
structure m7(Wk:fs)(b:aD)(Vp:List aj)(E:List aa):Prop where
 go:∀T,eA b T->(∀h∈Vp,∀n,b h=Z n->T h=Z n)->∀(g:Nat) (v:aa),E[g]?=Z v->Wk.go g T/\∀f yO,Wk.vm g T f yO->cY T yO/\cC yO v f
 stop:∀T,eA b T->(∀h∈Vp,∀n,b h=Z n->T h=Z n)->Wk.stop E.length T
def rG(b:aD)(B:a6)(Vp:List aj):Option (Nat×ai)->Prop
 |none=>True
 |some (g,v)=>∃u,B[g]?=Z (Z u)/\cq b v u Vp
def xQ(L:ay (List aa×Option (Nat×ai))):jo:=(λB b a=>∃k N s VL,bC b k B N/\N.Nodup/\L k=Z (s,VL)/\∀Wk T V0 Vp,bC T VL B V0->m7 Wk T Vp s.1->rG T B Vp s.2->(∀h∈Vp,fx T h)->bb b N T (V0++Vp)->a Wk T)
def hb(a:aL)(VR Wo:bl)(L:ay (List aa×Option (Nat×ai))):Prop:=(∀ ⦃m⦄,Bc a VR Wo (xQ L) m)
def Av{D V1:jo}(e:kF a VR Wo D)(g:∀B b Vp,V1 B b Vp->D B b Vp):kF a VR Wo V1:=λG j B b Vp y c=>e G j B b Vp y (g B b Vp c)
def dr(VR:eW)(c:bu):List aa->bu
 |[]=>λk=>Z (.aX,k)
 |f::s=>λk=>(VR (.im f) k).bind λVu=>(c Vu).bind λp=>match p.1 with
  |.aX=>dr VR c s p.2
  |.b3=>dr VR c s p.2
  |.d0=>Z (.aX,p.2)
  |.ej v=>Z (.ej v,p.2)
@[simp] def la:Option (Nat×ai)->aY->aY
 |none,k=>k
 |some (g,v),k=>match k[g]? with
  |some (Z .dK)=>k.set g (Z v)
  |_=>k
@[simp] def dT(L:ay (List aa×Option (Nat×ai)))(VR:eW)(c:bu):bu:=λk=>(L k).bind λm=>(dr VR c m.1.1 m.2).map λp=>(p.1,la m.1.2 p.2)
def Aj{n:Option (Nat×ai)}(Y:bC b k B N)(e:rG b B Vp n):∃U Q,bC b (la n k) B U/\(U++Q).Perm (N++Vp):=by
 cases n with
 |none=>exact⟨N,Vp,Y,List.Perm.refl _⟩
 |some m=>
  let⟨g,v⟩:=m;let⟨@u,t,A⟩:=e;unfold la;dsimp only;split
  ·exact Y.back A t
  ·exact⟨N,Vp,Y,List.Perm.refl _⟩
def jB(Wn:List Nat):Option (Nat×ai)->Prop
 |none=>True
 |some (g,_)=>g∈Wn
def NN{L:ay (List aa×Option (Nat×ai))}{WE:eW}(g1:q0 (aO a.prog a.w) a.A a.env a.cR)(g2:a.calm=V)(Vl:hb a VR Wo L)(g3:fO a Wn VR WE)(hd:gk a Wn WT V_)(co:∀g∈VV,g∈Wn)(Vy:∀k s VL,L k=Z (s,VL)->jB Wn s.2)(cr:hs a (.For VR Wo WT [] VC) (Fm (xQ L) (AA Wn WE)<|qz Wn V_)):ec a VV (.For VR Wo WT [] VC) (dT L WE V_):=by
 refine jb cr λVo B b cs=>?_;let⟨k,N,aW,@VL,Y,aq,db,p⟩:=cs;let⟨@⟨⟨E,n⟩,Vu⟩,t,A⟩:=bB.mp db;let⟨@⟨F,VY⟩,ds,dL⟩:=b9.mp A;cases dL;refine⟨k,N,(E,n),Vu,Y,aq,t,λWk Vt U Vp eq Vr ev bd al=>?_⟩;have ex:jB Wn n:=Vy k _ _ t;have be:=cO.mp al.aq;have am:∀{VF:aD}{VQ:List aj},bb Vt U VF VQ->∀h∈Vp,∀J,Vt h=Z J->VF h=Z J:=λj h fd J d=>j.keep h J d λe=>be.2.2 h e h fd rfl;have bi:∀{VF:aD}{VQ:List aj}{c:a6},bb Vt U VF VQ->c4 Wn B c->rG VF c Vp n:=λ{VF VQ c} j F=>by
  cases n with
  |none=>trivial
  |some m=>
   let⟨g,v⟩:=m;let⟨@u,fn,fr⟩:=ev;exact⟨u,(F.2 g ex).trans fn,fr.mono j.tup<|am j⟩
 have bm:∀{c:a6},c4 Wn B c->c4 VV B c:=λF=>⟨F.1,λg Vl=>F.2 g<|co g Vl⟩;have bn:∀{c:a6}{VF:aD}{VQ:List aj}{VY:aY},rS VV Vo B b N (la n VY) .aX->c4 Wn B c->bC VF VY c VQ->bb Vt U VF VQ->Vo.aX c VF:=λ{c VF VQ VY} p F an x=>by
  let⟨G,@Q,ap,VN⟩:=Aj an (bi x F);exact p c VF G (bm F) ap ((al.trans x bd).less VN)
 refine⟨λg l as T=>l+g=E.length/\∃i V0,c4 Wn B as/\bC T i as V0/\bb Vt U T V0/\dr WE V_ (E.drop g) i=Z (F,VY),⟨E.length,rfl,Vu,U,c4.refl,eq,bb.perm be.1<|List.Perm.refl _,ds⟩,?_⟩;rintro g l as T ⟨he,i,V0,z,bs,Vm,I⟩;by_cases bv:g<E.length
 ·let@⟨f0,f1⟩:=Vr.go T Vm.tup (am Vm) g E[g] (by simp[bv]);rw[i6 bv,dr]at I;let⟨@y,cp,cv⟩:=bB.mp I;let⟨@⟨ca,a1⟩,de,M⟩:=bB.mp cv;refine .inr ⟨f0,λc VF=>(l-1)+(g+1)=E.length/\∃i V0,c4 Wn B c/\bC VF i c V0/\bb Vt U VF V0/\dr WE V_ (E.drop<|g+1) i=Z (F,VY),λc VF e=>⟨l-1,⋯,e⟩,λf VF f2=>?_⟩;let@⟨a2,f4⟩:=f1 f VF f2;have an:=bs.mono a2.tupS λh W n d=>a2 h n d;have x:=Vm.same a2;refine⟨i,V0,.im E[g],[],y,an,⟨f4,rfl⟩,by rw[bQ];exact x.aq,cp,λhf f8 G P ap cd=>?_⟩;have C:bb Vt U f8 G:=x.seq (by rw[bQ]at cd;exact cd);refine⟨y,G,ca,a1,ap,C.aq,de,?_⟩;cases ca with
  |aX=>exact λR S D o q r=>⟨⋯,a1,D,(z.trans P).trans o,q,C.seq r,M⟩
  |b3=>exact λR S D o q r=>⟨⋯,a1,D,(z.trans P).trans o,q,C.seq r,M⟩
  |d0=>
   cases M;exact λR S D o q r=>bn p ((z.trans P).trans o) q (C.seq r)
  |ej v=>
   cases M;intro u R S D ce o q ga r;have ch:=C.seq r;have ci:=(z.trans P).trans o;let⟨cl,@ge,gl,gt⟩:=Aj (Vp:=Vp) q (bi ch ci);refine p u R S cl ce (bm ci) gl ga ((al.trans ch bd).less (ab:=ge) ?_);rw[bk];refine (dZ cl c6).trans ?_;rw[<-bk];refine (e1 ce gt).trans ?_;rw[bk,bk];exact dZ _ c6
 ·have Vl:g=E.length:=⋯
  subst Vl;refine .inl ⟨Vr.stop T Vm.tup<|am Vm,?_⟩;rw[nP (bD _)]at I;cases I;exact bn p z bs Vm
end
section
variable{a:aL}
variable{WE:eW}
def vp{L:ay (List aa×Option (Nat×ai))}{V_:bu}(b:q0 (aO a.prog a.w) a.A a.env a.cR)(c:a.calm=V)(Vl:hb a VR Wo L)(d:fO a Wn VR WE)(e:gk a Wn WT V_)(h:∀g∈VV,g∈Wn)(Vy:∀k s VL,L k=Z (s,VL)->jB Wn s.2)(i:∀f,k4 Wo a.env f=pure f:=by intro W;rfl):ec a VV (.For VR Wo WT [] VC) (dT L WE V_):=
 NN b c Vl d e h Vy (AW b c Vl d e i)
def Lq(R:Φ)(WY:b5):jo:=(λB b Vp=>WY B b λf Vt=>∃h,f=.ref h/\(((∃w,dw R Vt h w)/\Vp (sG R h) Vt)\/((∃w,cZ R Vt h w)/\Vp (uC R h) Vt)))
variable{I:bl}
def H_{WY:b5}(o:bG a I WY):kF a VR I (Lq a.K WY):=by
 intro G j B b Vp y e;refine b0 (o G j B b _ y e) λu g q=>?_;let⟨f,@Vt,i,r,s⟩:=q;let⟨@h,d,p⟩:=s;subst d;cases r;rcases p with ⟨⟨w,k⟩,p⟩|⟨⟨w,k⟩,p⟩
 ·let⟨@VA,t,m,v⟩:=i.list k;refine vv m.isList ?_;refine⟨g.heap.objs.size,[g.heap.objs.size],_,_,Vt,rfl,i.kept (V1:=g.toks) λc n d=>cG _ d,IT h _,⟨_,dM _ rfl,rfl,rfl⟩,λc l=>?_,p⟩;have d:c=g.heap.objs.size:=by simpa using l
  subst d;exact i.vZ (bD _) (i.a5.fresh<|bD _)
 ·let⟨@VA,t,m,v⟩:=i.tuple k;refine x3 (show g.heap.IsTuple h VA.toArray from m) ?_;refine⟨g.heap.objs.size,[g.heap.objs.size],_,_,Vt,rfl,i.kept (V1:=g.toks) λc n d=>cG _ d,OC h _,⟨_,dM _ rfl,rfl,rfl⟩,λc l=>?_,p⟩;have d:c=g.heap.objs.size:=by simpa using l
  subst d;exact i.vZ (bD _) (i.a5.fresh<|bD _)
theorem bM.get{b:aD}:∀{E:List aa}{Vj:List au}{g:Nat}{v:aa},bM b E Vj->E[g]?=Z v->∃u,Vj[g]?=Z u/\cC b v u
 |[],_,_,_,_,d=>by simp at d
 |v::E,_,0,_,e,d=>by
  let⟨u,@s,rfl,t,A⟩:=e;simp at d;subst d;exact⟨u,rfl,t⟩
 |v::E,_,g+1,_,e,d=>by
  let⟨u,@s,rfl,t,A⟩:=e;let⟨@J,a,c⟩:=bM.get (g:=g) A ⇑d;exact⟨J,by simpa using a,c⟩
variable{h:aj}
theorem xf(e:b h=Z (.lst w))(hd:bM b E w):m7 (sG R h) b [h] E where
 go:=λT D q g v d=>by
  let⟨@u,a,c⟩:=hd.get d;have Vk:=dw.of (R:=R) (q h (.head _) _ e);refine⟨⟨w,u,Vk,a⟩,λf k ⟨i,j⟩=>?_⟩;subst i;rw[j w Vk]at a;cases a;exact⟨cY.refl _,c.mono D.tup⟩
 stop:=λT D q=>⟨w,dw.of<|q h (.head _) _ e,by rw[<-hd.length];exact bD _⟩
theorem MN{n:ba}(e:b h=Z (.cV n<|.lst w))(hd:bM b E w):m7 (sG R h) b [] E where
 go:=λT D q g v d=>by
  let⟨@u,a,c⟩:=hd.get d;have Vk:dw R T h w:=.inl (.inr ⟨n,D.cV _ _ _ e⟩);refine⟨⟨w,u,Vk,a⟩,λf k ⟨i,j⟩=>?_⟩;subst i;rw[j w Vk]at a;cases a;exact⟨cY.refl _,c.mono D.tup⟩
 stop:=λT D q=>⟨w,.inl<|.inr ⟨n,D.cV _ _ _ e⟩,by rw[<-hd.length];exact bD _⟩
theorem Kw(e:b h=Z (.tup w))(hd:bM b E w):m7 (uC R h) b [] E where
 go:=λT D q g v d=>by
  let⟨@u,a,c⟩:=hd.get d;have Vk:=cZ.of (R:=R) (D.tup h _ e);refine⟨⟨w,u,Vk,a⟩,λf k ⟨i,j⟩=>?_⟩;subst i;rw[j w Vk]at a;cases a;exact⟨cY.refl _,c.mono D.tup⟩
 stop:=λT D q=>⟨w,cZ.of<|D.tup h _ e,by rw[<-hd.length];exact bD _⟩
abbrev hI:=ay (List aa×Option (Nat×ai))
@[simp] def jP(v:ai):Option (List aa):=match v with
 |.im (.tup E)=>Z E
 |.lst E=>Z E
 |.dF E=>Z E
 |_=>X
@[simp] def cc(L:ay bN):hI:=λk=>(L k).bind λm=>match m.1 with
 |.cu v=>(jP v).map λE=>((E,X),m.2)
 |.bo g=>(dB g m.2).bind λp=>(jP p.1).map λE=>((E,if p.1.el=V then X else Z (g,p.1)),p.2)
def D0(H:cq b v u Vp)(d:jP v=Z E):
  ∃h,u=.ref h/\(((∃w,dw R b h w)/\m7 (sG R h) b Vp E)\/((∃w,cZ R b h w)/\m7 (uC R h) b Vp E)):=by
 unfold jP at d;split at d
 ·cases d;let@⟨⟨h,@w,rfl,t,A⟩,rfl⟩:=H;exact⟨h,rfl,.inr ⟨⟨w,cZ.of t⟩,Kw t A⟩⟩
 ·cases d;let⟨h,@w,rfl,t,A,rfl⟩:=H;exact⟨h,rfl,.inl ⟨⟨w,dw.of t⟩,xf t A⟩⟩
 ·cases d;let⟨h,w,@n,rfl,t,A,rfl⟩:=H;exact⟨h,rfl,.inl ⟨⟨w,.inl<|.inr ⟨n,t⟩⟩,MN t A⟩⟩
 ·cases d
def Ry{L:ay bN}(e:eL a I L):hb a VR I (cc L):=by
 refine Av (H_ e) λB b F x=>?_;let⟨k,N,s,@VL,Y,aq,y,p⟩:=x;let⟨@⟨f,Vu⟩,t,A⟩:=bB.mp y;refine⟨k,N,f,Vu,Y,aq,t,λu Vt U Vp j VG d=>?_⟩;cases f with
 |cu v=>
  let⟨@E,l,m⟩:=b9.mp A;cases m;let⟨@h,rfl,n⟩:=D0 (R:=a.K) VG l;refine⟨h,rfl,?_⟩;rcases n with ⟨c,Vr⟩|⟨c,Vr⟩
  ·exact .inl ⟨c,p _ Vt U Vp j Vr trivial (cq.chg VG) d⟩
  ·exact .inr ⟨c,p _ Vt U Vp j Vr trivial (cq.chg VG) d⟩
 |bo g=>
  let⟨@⟨v,VY⟩,l,m⟩:=bB.mp A;let⟨@E,z,C⟩:=b9.mp m;cases C;let⟨G,VQ,@bR,o,i,q,D⟩:=Ik j l;let@⟨VG,rfl⟩:=VG;rw[VG]at o;cases o;rw[bQ]at d;have r:=d.hK D.symm;let⟨@h,rfl,n⟩:=D0 (R:=a.K) i z;have w:rG Vt B bR (if v.el=V then X else Z (g,v)):=by
   split
   ·trivial
   ·exact⟨_,VG,i⟩
  refine⟨h,rfl,?_⟩;rcases n with ⟨c,Vr⟩|⟨c,Vr⟩
  ·exact .inl ⟨c,p _ Vt VQ bR q Vr w i.chg r⟩
  ·exact .inr ⟨c,p _ Vt VQ bR q Vr w i.chg r⟩
def O7{L:ay ai}:∀k s VL,cc (af L) k=Z (s,VL)->jB Wn s.2:=by
 intro k s VL e;let⟨@⟨f,Vu⟩,t,A⟩:=bB.mp e;unfold af at t;let⟨@m,c,a⟩:=b9.mp t;cases a;let⟨@E,d,b⟩:=b9.mp A;cases b
 trivial
variable{g:Nat}
def Fd(Vl:g∈Wn):∀k s VL,cc (ak g) k=Z (s,VL)->jB Wn s.2:=by
 intro k s VL e;let⟨@⟨f,Vu⟩,t,A⟩:=bB.mp e;unfold ak at t;split at t
 ·cases t;let⟨@⟨v,VY⟩,c,a⟩:=bB.mp A;let⟨@E,d,b⟩:=b9.mp a;cases b;show jB Wn (if v.el=V then X else Z (g,v));split
  ·trivial
  ·exact Vl
 ·cases t
def gX(M:Int)(x:Nat):List aa:=((range x).map λ(q:Nat)=>aa.int (M+(q:Int)))
theorem KI{M:Int}:m7 (tK M x) b [] (gX M x) where
 go:=λT D q g v d=>by
  have Vl:g<x:=by
   have:=(eX.mp d).1
   rwa [gX,a8,j1]at this
  refine⟨Vl,λf e ⟨a,c⟩=>?_⟩;subst a;rw[gX,d3,F2 Vl]at d;cases d;exact⟨cY.refl _,c⟩
 stop:=λT D q=>by
  show x<=_;rw[gX,a8,j1];exact bD _
def oW(g:Int):Prop :=( -1000000<=g/\g<=1000000)
noncomputable instance (g:Int):Decidable (oW g):=inferInstanceAs (Decidable<|_/\_)
@[simp] def i8(L:ay (List bN)):hI:=λk=>(L k).bind λm=>(h5 m.2 m.1).bind λE=>match E with
 |[.im (.int r)]=>if oW r then Z ((gX 0 r.toNat,X),m.2) else X
 |_=>X
def Ao{v:aa}(e:m_ b [.im v] Vj):∃u,Vj=[u]/\cC b v u:=by
 let⟨u,@s,rfl,⟨@Vp,t,W⟩,A⟩:=e;cases (show s=[] from A);exact⟨u,rfl,t⟩
def Dz{v d:aa}(e:m_ b [.im v,.im d] Vj):∃u J,Vj=[u,J]/\cC b v u/\cC b d J:=by
 let⟨u,@s,rfl,⟨@Vp,t,W⟩,A⟩:=e;let⟨@J,rfl,a⟩:=Ao A;exact⟨u,J,rfl,t,a⟩
def Tz{h:bl}(i:eu a "range")(j:a.aU "range" = X)(e:fV a [h] L)(Vy:bP [h] a.env=[(aA,bJ h a.env)]:=by rfl):hb a VR (.Call (.Name "range" m) [h] [] VC) (i8 L):=by
 refine Av (LJ i j e Vy) λB b w l=>?_;let⟨k,N,s,@VL,Y,aq,n,p⟩:=l;let⟨@⟨VI,Vu⟩,t,A⟩:=bB.mp n;let⟨@E,o,c⟩:=bB.mp A;refine⟨k,N,VI,Vu,Y,aq,t,λVj Vt U x f VG q=>?_⟩;have v:=VG.read f o;split at c
 ·rename_i r;split at c
  ·rename_i g;cases c;let⟨@u,rfl,d⟩:=Ao v;cases (show u=.int r from d);exact⟨r,rfl,by have:=g.1;lia,by have:=g.2;lia,p _ Vt U [] f KI trivial (λh e=>nomatch e) (by rw[bQ];exact q.less (List.Perm.refl _))⟩
  ·cases c
 ·cases c
def Nc:∀k s VL,i8 L k=Z (s,VL)->jB Wn s.2:=by
 intro k s VL e;let⟨@⟨VI,Vu⟩,t,A⟩:=bB.mp e;let⟨@E,b,a⟩:=bB.mp A;split at a
 ·split at a
  ·cases a;trivial
  ·cases a
 ·cases a
def lx(a:aL)(WD:List bl)(L:ay Bool):Prop:=(∀ ⦃m⦄,E5 a WD (je L) m)
def g5:ay Bool:=(λk=>Z (V,k))
def SJ:lx a [] g5:=by
 intro G j B b C y d;let⟨k,N,c,@VL,Y,aq,e,p⟩:=d;cases e;exact Kn G j B b C y (p b N Y<|bb.perm aq<|List.Perm.refl _)
def IJ{L:ay Bool}(e:fC a o L):lx a [o] L:=Jy e
@[simp] def jM(V3:List Nat)(k:aY):aY:=V3.map λg=>k.getD g X
def k1:List Nat->aY->aY
 |[],k=>k
 |g::s,k=>k1 s (match k[g]? with|some (Z _)=>k.set g (Z .dK)|_=>k)
@[simp] def iD:List Nat->aY->aY->aY
 |g::s,n::ab,k=>iD s ab (k.set g n)
 |_,_,k=>k
def hB(own:Nat)(VR:eW)(o:ay Bool)(d:ay ai): List aa -> List aa -> aY -> Option (List aa × aY)
  |[],a,ab => Z (a,ab)
  |f :: s,a,ab => (VR (.im f)<|List.replicate own X ++ ab).bind λVu => (o Vu).bind λm => if m.1=V then (d m.2).bind λp => match p.1 with
      |.im v => if a.length<100000 then hB own VR o d s (a ++ [v]) (p.2.drop own) else X
      |_ => X
    else hB own VR o d s a (m.2.drop own)
@[simp] def dv(own:Nat)(V3:List Nat)(D:hI)(VR:eW)(o:ay Bool)(d:ay ai):ay ai:=λk=>(D k).bind λm=>(hB own VR o d m.1.1 []<|jM V3 m.2).map λp=>(.lst p.1,la m.1.2<|iD V3 p.2 m.2)
def nH(own x:Nat):List Nat:=((range x).map (·+own))
def QG(e:k[g]?=Z n):k.getD g X=n:=by rw[cK,e];rfl
def bC.void(Y:bC b k B N)(g:Nat):∃U VQ,bC b (match k[g]? with|some (Z _)=>k.set g (Z .dK)|_=>k) B U/\mW b (k.getD g X) (B.getD g X) VQ/\(U++VQ).Perm N:=by
 split
 ·rename_i v hd;let⟨u,U,@VQ,t,A,a,c⟩:=Y.out hd;refine⟨VQ,U,a,?_,c⟩;rw[QG hd,cK,t];exact⟨u,rfl,A⟩
 ·rename_i e;refine⟨N,[],Y,?_,by rw[bQ]⟩;have:k.getD g X=X:=by
   rw[cK];cases d:k[g]? with
   |none=>rfl
   |some n=>
    cases n with
    |none=>rfl
    |some v=>exact absurd d (e v)
  rw[this];exact rfl
theorem HE{b:aD}{B:a6}:∀{V3:List Nat}{k:aY}{N:List aj},V3.Nodup->bC b k B N->∃U VQ,bC b (k1 V3 k) B U/\bC b (jM V3 k) (V3.map λg=>B.getD g X) VQ/\(U++VQ).Perm N
 |[],k,N,_,Y=>⟨N,[],Y,⟨rfl,rfl⟩,by rw[bQ]⟩
 |g::s,k,N,aq,Y=>by
  let⟨U,@VQ,t,A,f⟩:=Y.void g;have a:=gd.mp aq;let⟨h,@c,i,e,j⟩:=HE (V3:=s) a.2 t;refine⟨h,VQ++c,i,⟨_,_,VQ,c,rfl,A,?_,rfl⟩,kv.trans<|(dZ _ j).trans<|c6.trans f⟩;have d:jM s (match k[g]? with|some (Z _)=>k.set g (Z .dK)|_=>k)=jM s k:=by
   unfold jM;refine lD λr l=>?_;split
   ·rw[cK,cK,oR];rintro rfl;exact a.1 l
   ·rfl
  rw[d]at e;exact e
def bC.QF(Y:bC b k B N)(e:mW b n (B.getD g X) Q):∃U VQ,bC b (k.set g n) B U/\(U++VQ).Perm (N++Q):=by
 cases n with
 |some v=>
  let⟨@u,d,H⟩:=e;refine Y.back H ?_;rw[cK]at d;cases p:B[g]? with
  |none=>rw[p]at d;cases d
  |some f=>rw[p]at d;rw[show f=Z u from d]
 |none=>
  cases (show Q=[] from e);rw[bQ];by_cases Vl:g<k.length
  ·cases p:k[g]? with
   |none=>exact absurd (List.getElem?_eq_none_iff.mp p) ⋯
   |some f=>
    cases f with
    |none=>
     refine⟨N,[],?_,by rw[bQ]⟩;have:k.set g X=k:=by
      refine pv λr=>?_;by_cases d:g=r
      ·subst d;rw[p,va Vl]
      ·rw[oR d]
     rw[this];exact Y
    |some v=>
     let⟨u,U,@VQ,t,A,l,m⟩:=Y.out p;have gen:∀{k:aY}{B:a6}{N:List aj}{g:Nat},bC b k B N->∃U VQ,bC b (k.set g X) B U/\(U++VQ).Perm N:=by
      intro k;induction k with
      |nil=>intro B N g Y;exact⟨N,[],by simpa using Y,by rw[bQ]⟩
      |cons n k c=>
       intro B N g Y;let⟨f,s,O,@VE,rfl,h,a,rfl⟩:=Y;cases g with
       |zero=>exact⟨VE,O,⟨f,s,[],VE,rfl,rfl,a,rfl⟩,c6⟩
       |succ g=>
        let⟨ab,@Vo,i,j⟩:=c (g:=g) a;refine⟨O++ab,Vo,⟨f,s,O,ab,rfl,h,i,rfl⟩,?_⟩;rw[bk];exact dZ _ j
     exact gen Y
  ·refine⟨N,[],?_,by rw[bQ]⟩;rw[List.set_eq_of_length_le ⋯];exact Y
theorem C2{b:aD}{B:a6}:∀{V3:List Nat}{ab k:aY}{N Q:List aj},bC b k B N->bC b ab (V3.map λg=>B.getD g X) Q->∃U VQ,bC b (iD V3 ab k) B U/\(U++VQ).Perm (N++Q)
 |[],ab,k,N,Q,Y,_=>⟨N,Q,by cases ab<;>exact Y,List.Perm.refl _⟩
 |g::s,[],k,N,Q,Y,e=>⟨N,Q,Y,List.Perm.refl _⟩
 |g::s,n::ab,k,N,Q,Y,e=>by
  let⟨f,D,j,@l,d,t,A,rfl⟩:=e;cases d;let⟨U,@O,a,c⟩:=Y.QF t;let⟨VQ,@VE,h,i⟩:=C2 (V3:=s) (ab:=ab) a A;refine⟨VQ,VE++O,h,?_⟩;rw[<-bk,<-bk];refine (e1 O i).trans ?_;rw[bk];refine (dZ U c6).trans ?_;rw[<-bk];exact e1 _ c
def Ph:∀{V3:List Nat}{ab k:aY},V3.length=ab.length->V3.Nodup->iD V3 ab (k1 V3 k)=iD V3 ab k:=by
 have l:∀{s:List Nat}{ab k:aY}{g:Nat}{n:Option ai},g∉s->iD s ab (k.set g n)=(iD s ab k).set g n:=by
  intro s;induction s with
  |nil=>intro ab k g n W;cases ab<;>rfl
  |cons r s a=>
   intro ab k g n e;cases ab with
   |nil=>rfl
   |cons o ab=>
    have c:g≠r:=λd=>e (by rw[d];exact .head _);show iD s ab ((k.set g n).set r o)=(iD s ab<|k.set r o).set g n;rw[yI _ _ c,a λi=>e<|.tail _ i]
 have f:∀{s:List Nat}{k:aY}{g:Nat}{n:Option ai},g∉s->k1 s (k.set g n)=(k1 s k).set g n:=by
  intro s;induction s with
  |nil=>intro k g n W;rfl
  |cons r s a=>
   intro k g n e;have c:g≠r:=λd=>e (by rw[d];exact .head _);show k1 s (match (k.set g n)[r]? with|some (Z _)=>(k.set g n).set r (Z .dK)|_=>k.set g n)=(k1 s (match k[r]? with|some (Z _)=>k.set r (Z .dK)|_=>k)).set g n;rw[oR c];cases k[r]? with
   |none=>exact a λi=>e (.tail _ i)
   |some p=>
    cases p with
    |none=>exact a λi=>e (.tail _ i)
    |some v=>
     show k1 s ((k.set g n).set r<|Z .dK)=_;rw[yI _ _ c];exact a λi=>e (.tail _ i)
 intro V3;induction V3 with
 |nil=>intro ab k W W;cases ab<;>rfl
 |cons g s a=>
  intro ab k h aq;have b:=gd.mp aq;cases ab with
  |nil=>cases h
  |cons o ab=>
   have j:s.length=ab.length:=by simpa using h
   show iD s ab ((k1 s (match k[g]? with|some (Z _)=>k.set g (Z .dK)|_=>k)).set g o)=iD s ab (k.set g o);split
   ·rw[f b.1,n8,<-f b.1,a j b.2]
   ·rw[<-f b.1,a j b.2]
theorem Ig{b:aD}{k:aY}{s:a6}{N:List aj}(e:bC b k s N):∀{own:List az},bC b (List.replicate own.length X++k) (own.map (λ_=>X)++s) N
 |[]=>e
 |f::own=>⟨X,_,[],N,rfl,rfl,Ig e (own:=own),rfl⟩
theorem yb{b:aD}:∀{x:Nat}{k:aY}{B:a6}{N:List aj},bC b k B N->∃U VQ,bC b (k.drop x) (B.drop x) U/\(U++VQ).Perm N
 |0,k,B,N,e=>⟨N,[],e,by rw[bQ]⟩
 |x+1,[],B,N,e=>by
  cases e.1;exact⟨[],N,⟨rfl,rfl⟩,List.Perm.refl _⟩
 |x+1,n::k,B,N,e=>by
  let⟨f,s,O,@VE,rfl,t,A,rfl⟩:=e;let⟨U,@VQ,a,c⟩:=yb (x:=x) A;exact⟨U,VQ++O,a,by rw[<-bk];exact (e1 O c).trans c6⟩
def bb.both(h:bb b N Vt (U++Vp)):bb b N Vt U:=h.less (List.Perm.refl _)
theorem bM.snoc:∀{E:List aa}{Vj:List au}{v:aa}{u:au},bM b E Vj->cC b v u->bM b (E++[v]) (Vj++[u])
 |[],Vj,v,u,e,H=>by cases (show Vj=[] from e);exact⟨u,[],rfl,H,rfl⟩
 |d::E,Vj,v,u,e,H=>by
  let⟨J,@s,rfl,t,A⟩:=e;exact⟨J,s++[u],rfl,t,A.snoc H⟩
variable{D:hI}
def HV(aq:V3.Nodup)(e:mL (dv own.length V3 D WE WG WZ) B b C):
  uV own V3 (xQ D) (λ_=>AA (nH own.length V3.length) WE) (λ_=>je WG) (λ_=>mL WZ) B b C:=by
 let⟨k,N,s,@VL,Y,f0,f1,p⟩:=e;let⟨@⟨⟨w,n⟩,Vu⟩,t,A⟩:=bB.mp f1;let⟨@⟨E,bv⟩,f2,f4⟩:=b9.mp A;cases f4;refine⟨k,N,(w,n),Vu,Y,f0,t,λWk Vt U Vp f8 Vr ga ge gl lf=>?_⟩;let⟨S,@I,dA,M,VN⟩:=HE aq f8;have ca:bb b N Vt (I++(S++Vp)):=gl.hK (by
  refine (e1 Vp VN.symm).trans ?_;rw[bk];exact kv)
 have cd:=cO.mp ca.aq;have gt:∀f∈S++Vp,fx Vt f:=λf G=>by
  rcases du.mp G with G|G
  ·exact dA.chg f G
  ·exact ge f G
 have al:∀{VF:aD}{VQ:List aj},bb Vt I VF VQ->∀h∈S++Vp,∀J,Vt h=Z J->VF h=Z J:=λj h a J d=>j.keep h J d λe=>cd.2.2 h e h a rfl;refine⟨λg l VJ T=>l+g=w.length/\∃q ab H,bC T ab (V3.map λg=>B.getD g X) H/\ab.length=V3.length/\bb Vt I T H/\bM T q VJ/\hB own.length WE WG WZ (w.drop g) q ab=Z (E,bv),
  ⟨w.length,rfl,[],jM V3 Vu,I,M,by rw[jM,a8],bb.perm cd.1<|List.Perm.refl _,rfl,f2⟩,?_⟩;rintro g l VJ T ⟨am,q,ab,H,ce,g1,Vm,ch,an⟩;by_cases ci:g<w.length
 ·let@⟨g2,g3⟩:=Vr.go T Vm.tup (λh a=>al Vm h<|dy _ a) g w[g] (by simp[ci]);rw[i6 ci,hB]at an;let⟨@y,cp,cv⟩:=bB.mp an;let⟨@⟨c,a1⟩,de,P⟩:=bB.mp cv;refine .inr ⟨g2,λcl VF=>(l-1)+(g+1)=w.length/\∃q ab H,bC VF ab (V3.map λg=>B.getD g X) H/\ab.length=V3.length/\bb Vt I VF H/\bM VF q cl/\hB own.length WE WG WZ (w.drop<|g+1) q ab=Z (E,bv),λcl VF e=>⟨l-1,⋯,e⟩,λf VF G=>?_⟩;let@⟨z,hd⟩:=g3 f VF G;have he:=ce.mono z.tupS λh W n d=>z h n d;have co:=Vm.same z;have ap:=ch.mono z.tupS.tup;refine⟨List.replicate own.length X++ab,H,.im w[g],[],y,Ig he,⟨hd,rfl⟩,by rw[bQ];exact co.aq,cp,λa2 hf cr as cs bd=>⟨λr u o=>?_,?_⟩⟩
  ·
   have li:own.length<=r:=by
    by_cases hm:r<own.length
    ·rw[jX,nh ⇑hm,d3]at o;cases d:own[r]? with
     |none=>rw[d]at o;cases o
     |some i=>rw[d]at o;cases o
    ·lia
   have lm:r<own.length+V3.length:=by
    have:=(eX.mp o).1
    rwa [jX,dd,a8,a8]at this
   have am:r∈nH own.length V3.length:=ep.mpr ⟨r-own.length,gI.mpr ⋯,⋯⟩;exact (as.2 r am).trans o
  ·have db:bb Vt I hf cr:=co.seq (by rw[bQ]at bd;exact bd);have ap:=ap.mono bd.tup.tup;have ds:a2.drop own.length=V3.map λg=>B.getD g X:=by
    have ln:=cs.len;refine pv λr=>?_;by_cases o:r<V3.length
    ·have am:r+own.length∈nH own.length V3.length:=ep.mpr ⟨r,gI.mpr o,rfl⟩;have:=as.2 _ am;rw[m1,uN,this,jX,lX ↥0,a8,Nat.add_sub_cancel]
    ·have ls:a2.length<=own.length+V3.length:=by
      rw[as.1,jX,dd,a8,a8];exact bD _
     rw[rW (by rw[hc];lia),rW (by rw[a8];lia)]
   have dL:a2.length=own.length+V3.length:=by rw[as.1,jX,dd,a8,a8]
   refine⟨y,cr,c,a1,cs,db.aq,de,λlv be L bi=>?_⟩;have Q:=db.seq bi;dsimp only at P ⊢;cases c with
   |false=>
    rw[aJ da]at P ⊢;let⟨R,@eq,F,bm⟩:=yb (x:=own.length) L;rw[ds]at F;exact⟨⋯,q,a1.drop own.length,R,F,by rw[hc,L.len,dL];lia,Q.less bm,ap.mono bi.tup.tup,P⟩
   |true=>
    rw[aF rfl]at P ⊢;let⟨@⟨u,ev⟩,hw,O⟩:=bB.mp P;dsimp only at O;split at O
    ·rename_i v;split at O
     ·rename_i lw;refine⟨a1,be,.im v,ev,L,Q.aq,hw,λJ mb R mo F VX bn=>?_⟩;let@⟨h0,rfl⟩:=VX;rw[bQ]at bn;have ex:=(ap.mono bi.tup.tup).mono bn.tup.tup;refine⟨uE (show VJ.length<=100000 by rw[<-ex.length];lia) ∅,?_⟩;let⟨ii,@ms,fd,io⟩:=yb (x:=own.length) F;rw[ds]at fd;exact⟨⋯,q++[v],ev.drop own.length,ii,fd,by rw[hc,F.len,dL];lia,(Q.seq bn).less io,ex.snoc h0,O⟩
     ·cases O
    ·cases O
 ·have Vl:g=w.length:=⋯
  subst Vl;refine .inl ⟨Vr.stop T Vm.tup<|λh a=>al Vm h<|dy _ a,λbs fn=>?_⟩;rw[nP (bD _),hB]at an;cases an;have it:bC T (k1 V3 Vu) B S:=dA.mono Vm.tup λh a=>al Vm h (dW _ a);let⟨be,@fr,L,jp⟩:=C2 it ce;rw[Ph (by rw[g1]) aq]at L;have kt:rG T B Vp n:=by
   cases n with
   |none=>trivial
   |some m=>
    let⟨g,v⟩:=m;let⟨@u,kw,lc⟩:=ga;exact⟨u,kw,lc.mono Vm.tup λh a=>al Vm h<|dy _ a⟩
  let⟨R,@eq,F,bm⟩:=Aj (Vp:=Vp) L kt;have z:cY T (upd T bs<|.lst VJ):=(cY.refl T).upd fn;have Q:bb b N T R:=(ca.trans Vm gt).less (ab:=eq++fr) (by
   rw[<-bk];refine (e1 fr bm).trans ?_;rw[bk];refine (dZ be c6).trans ?_;rw[<-bk];refine (e1 Vp jp).trans ?_;rw[bk];exact kv)
  exact p _ _ R [bs] (F.mono z.tupS λh W n d=>z h n d) ⟨bs,VJ,rfl,d_,ch.mono z.tupS.tup,rfl⟩ (Q.add fn F.chg)
def QE{WL:bl}{WD:List bl}{VK:gY}(d:a.calm=V)(VD:iy a VK own V3)(aq:V3.Nodup)(Vl:hb a VR Wo D)(g:∀c,fO (a.d4 (ff a own V3) VK c) (nH own.length V3.length) VR WE)(bI:∀c,lx (a.d4 (ff a own V3) VK c) WD WG)(h:∀c,bh (a.d4 (ff a own V3) VK c) WL WZ)(Vy:∀f,k4 Wo a.env f=pure f:=by intro W;rfl):bh a (.ListComp WL [⟨VR,Wo,WD,0⟩] VK VC) (dv own.length V3 D WE WG WZ):=
 d6 (SI d VD Vl g bI h Vy) λB b C e=>HV aq e
end
@[simp] def iW(VV:List Nat):List ai->aY->Nat->List ai
 |v::E,n::k,r=>(if v.el=V then v else if r∈VV then n.getD .dK else .dK)::iW VV E k (r+1)
 |v::E,[],r=>(if v.el=V then v else .dK)::iW VV E [] (r+1)
 |[],_,_=>[]
@[simp] def cJ(x l:Nat)(VV:List Nat)(L:bu):cj:=λE=>if E.length=x then match L (E.map Z++List.replicate (l-x) X) with
 |some (.ej s,k)=>Z (s,iW VV E k 0)
 |some (.aX,k)=>Z (.im .a3,iW VV E k 0)
 |_=>X else X
theorem B9{b:aD}:∀{E:List ai}{Vj:List au}{N:List aj}{l:Nat},c2 b E Vj N->bC b (E.map Z++List.replicate l X) (Vj.map Z++List.replicate l X) N
 |[],Vj,N,l,e=>by
  let@⟨rfl,rfl⟩:=e;show bC b (List.replicate l X) (List.replicate l X) [];induction l with
  |zero=>exact⟨rfl,rfl⟩
  |succ l a=>exact⟨X,_,[],[],rfl,rfl,a,rfl⟩
 |v::E,Vj,N,l,e=>by
  let⟨u,s,U,@VQ,rfl,t,A,rfl⟩:=e;exact⟨Z u,_,U,VQ,rfl,⟨u,rfl,t⟩,B9 A,rfl⟩
theorem AL{b T:aD}{VV:List Nat}(D:eA b T):∀{E:List ai}{Vj:List au}{m:List aj}{k:aY}{B:a6}{N:List aj}{a:Nat},c2 b E Vj m->bC T k B N->(∀(r:Nat) (u:au),(a+r)∈VV->Vj[r]?=Z u->B[r]?=Z (Z u))->
  ∃Vp Q,c2 T (iW VV E k a) Vj Vp/\(Vp++Q).Perm N
 |[],Vj,m,k,B,N,a,e,Y,_=>⟨[],N,by unfold iW;exact⟨e.1,rfl⟩,List.Perm.refl _⟩
 |v::E,Vj,m,[],B,N,a,e,Y,q=>by
  let⟨u,s,O,@VE,rfl,t,A,rfl⟩:=e;let@⟨rfl,rfl⟩:=Y;let⟨Vp,@Q,c,g⟩:=AL (k:=[]) (B:=[]) (N:=[]) (a:=a+1) D A ⟨rfl,rfl⟩ λr u o p=>by
   have:=q (r+1) u (by rw[show a+(r+1)=a+1+r by lia];exact o) ⇑p;simp at this
  rw[iW];refine⟨Vp,Q,⟨u,s,[],Vp,rfl,?_,c,rfl⟩,g⟩;split
  ·rename_i i;have:=t.mono D λh l=>by rw[t.el i]at l;cases l
   rw[t.el i]at this;exact this
  ·exact rfl
 |v::E,Vj,m,n::k,B,N,a,e,Y,q=>by
  let⟨u,s,O,@VE,rfl,t,A,rfl⟩:=e;let⟨f,j,ab,@Vo,rfl,x,y,rfl⟩:=Y;let⟨Vp,@Q,c,g⟩:=AL (k:=k) (B:=j) (a:=a+1) D A y λr u o p=>by
   have:=q (r+1) u (by rw[show a+(r+1)=a+1+r by lia];exact o) ⇑p;simpa using this
  rw[iW];split
  ·rename_i i;have w:=t.mono D λh l=>by rw[t.el i]at l;cases l
   rw[t.el i]at w;refine⟨Vp,Q++ab,⟨u,s,[],Vp,rfl,w,c,rfl⟩,?_⟩;rw[<-bk];exact (e1 ab g).trans c6
  ·split
   ·rename_i z;have C:f=Z u:=by
     have:=q 0 u z rfl;simpa using this
    subst C;cases n with
    |none=>
     refine⟨Vp,Q++ab,⟨u,s,[],Vp,rfl,rfl,c,rfl⟩,?_⟩;rw[<-bk];exact (e1 ab g).trans c6
    |some d=>
     let⟨@G,F,H⟩:=x;cases F;refine⟨ab++Vp,Q,⟨u,s,ab,Vp,rfl,H,c,rfl⟩,?_⟩;rw[bk];exact dZ _ g
   ·refine⟨Vp,Q++ab,⟨u,s,[],Vp,rfl,rfl,c,rfl⟩,?_⟩;rw[<-bk];exact (e1 ab g).trans c6
section
variable{Vz:bE}{H:bg}{R:Φ}{aU:az->Option ae}{VB:a4}
def Cm{Ww:az}{Y:cf}{F:aj}{VS:List az}{q:Nat}{L:bu}(N:f7 R f Ww Y F fd)(VD:kb VS Vw (dq Y))(t:Vw.length=x)(D:∀g∈VV,g<x)(v:∀(Wc:ae) (O:bq) (Wq:List d5) (j:ao) (b:aD) (Vo:fv),dt q (O.deeper<|h7 Ww (dq Y) j.heap.objs.size F Wc)->gk (ju gr Vz H R aU VB VS Ww (dq Y) F Wc O Wq j b Vo).ke VV (eQ Y) L):
  fT Vz H R aU VB gr (q+1) F fd Vw (i3 x<|cJ x VS.length VV L):=by
 refine N.ok VD (λVj b C Vo e=>e.1.trans t.symm) (λWc O Wq j b Vj C Vo w e=>⟨_,v Wc O Wq j b Vo w,?_⟩);let@⟨k,⟨E,i,s,@outs,VX,aq,a,p⟩⟩:=e;have y:E.length=x:=VX.length.trans k;unfold cJ at a;rw[aF y]at a;have Y:=B9 (l:=VS.length-x) VX;have S:start VS Vj=Vj.map Z++List.replicate (VS.length-x) X:=by unfold start;rw[k]
 rw[S];have fin:∀{c:a6}{T:aD}{V0:List aj}{VL:aY}{u:au}{Vp:List aj},iW VV E VL 0=outs->c4 VV (Vj.map Z++List.replicate (VS.length-x) X) c->bC T VL c V0->cq T s u Vp->bb b i T (V0++Vp)->C u T:=λ{c T V0 VL u Vp} A Wn h z Vm=>by
  let⟨bR,@Q,m,B⟩:=AL (VV:=VV) (a:=0) Vm.tup VX h λr u n o=>by
   rw[Nat.zero_add]at n;rw[Wn.2 r n,nh (by rw[a8];exact (eX.mp o).1),d3,o];rfl
  rw[A]at m;refine p u T Vp bR z m (Vm.less (ab:=Q) ?_);rw[bk];exact (dZ Vp B).trans c6
 split at a
 ·rename_i Wh VL d;cases a;exact⟨_,i,.ej s,VL,Y,aq,d,λu c T V0 Vp Wn h z Vm=>fin rfl Wn h z Vm⟩
 ·rename_i VL d;cases a;exact⟨_,i,.aX,VL,Y,aq,d,λc T V0 Wn h Vm=>fin rfl Wn h ⟨rfl,rfl⟩ (by rw[bQ];exact Vm)⟩
 ·cases a
end
def b_(b:aD)(v:ai)(C:cW):Prop:=(∀u T Vp,cY b T->cq T v u Vp->Vp.Nodup->(∀h∈Vp,b h=X)->C u T)
def b_.Dl{v:aa}(p:b_ b (.im v) C)(j:cY b T)(e:cC T v u):C u T:=p u T [] j ⟨e,rfl⟩ hn (λh a=>nomatch a)
def b_.i{b:aD}{v:aa}{C:cW}{u:au}(p:b_ b (.im v) C)(e:cC b v u):C u b:=p.Dl (cY.refl b) e
def b_.l{m:aj}(p:b_ b (.lst E) C)(a:b m=X)(e:bM b E w):C (.ref m) (upd b m<|.lst w):=by
 have j:cY b (upd b m<|.lst w):=(cY.refl b).upd a;exact p _ _ [m] j ⟨m,w,rfl,d_,e.mono j.tupS.tup,rfl⟩ (eB _ _) λh c=>by rw[cb.mp c];exact a
def b_.t{b:aD}{E:List aa}{w:List au}{C:cW}{m:aj}(p:b_ b (.im<|.tup E) C)(a:b m=X)(e:bM b E w):C (.ref m) (upd b m<|.tup w):=by
 have j:cY b (upd b m<|.tup w):=(cY.refl b).upd a;exact p.Dl j ⟨m,w,rfl,d_,e.mono j.tupS.tup⟩
section
variable{a:aL}
def ek.imp{F:ae->ae->dD ae}{s:bR}(e:ek a F s)(g:∀f z b C,Wh f z b C->s f z b C):ek a F Wh:=λG j B b f z u J C y c d h=>e G j B b f z u J C y c d (g f z b C h)
def eD.imp{F:ae}{s Wh:List au->aD->cW->Prop}(e:eD a F s)(g:∀w b C,Wh w b C->s w b C):eD a F Wh:=λG j B b w VH C y c d=>e G j B b w VH C y c (g w b C d)
def hL.imp{s:bR}(e:hL a s)(g:∀f z b C,Wh f z b C->s f z b C):hL a Wh:=λc d G j B b f z u J C y h i k=>e c d G j B b f z u J C y h i (g f z b C k)
def eY.i{b:aD}{v:aa}{u:au}(e:eY b (.im v) u):cC b v u:=e.elim λ_ H=>H.1
end
abbrev gS:=ai->ai->Option ai
@[simp] def jf(ab:Int->Int->Bool)(L:Int->Int->aa):gS:=λh c=>match h,c with
 |.im (.int g),.im (.int r)=>if ab g r=V then Z (.im<|L g r) else X
 |_,_=>X
def GV{ab:Int->Int->Bool}{L:Int->Int->aa}{h c:ai}(e:jf ab L h c=Z v):∃g r,h=.im (.int g)/\c=.im (.int r)/\ab g r=V/\v=.im (L g r):=by
 unfold jf at e;split at e
 ·rename_i g r;split at e
  ·rename_i a;cases e;exact⟨g,r,rfl,rfl,a,rfl⟩
  ·cases e
 ·cases e
section
variable{a:aL}
variable{F:ae->ae->dD ae}{L:Int->Int->au}{e:Int->Int->aa}
def tA{ab:Int->Int->Prop}{VE:Int->Int->Bool}(n:ek a F (qY ab L))(c:∀g r,VE g r=V->ab g r)(h:∀b g r,cC b (e g r)<|L g r):d2 a F (jf VE e):=
 n.imp λf z b C ⟨V2,V8,v,j,k,d,p⟩=>by
  let⟨g,@r,rfl,rfl,l,rfl⟩:=GV d;exact⟨g,r,j.i,k.i,c g r l,b_.i p<|h b g r⟩
def ur(n:ek a F (mY L))(c:∀b g r,cC b (e g r)<|L g r):d2 a F (jf (λ_ W=>V) e):=
 n.imp λf z b C ⟨V2,V8,v,h,j,d,p⟩=>by
  let⟨g,@r,rfl,rfl,k,rfl⟩:=GV d;exact⟨g,r,h.i,j.i,b_.i p<|c b g r⟩
@[simp] def gs:gS:=jf (λ_ W=>V) λg r=>.int (g-r)
def iz(g r:Int):Bool:=(!(decide (bH.Int.intBits g>u3)&&decide (bH.Int.intBits r>u3)&&bH.Int.intTooBig (bH.Int.intBits g+bH.Int.intBits r)))
@[simp] def gZ:gS:=jf iz λg r=>.int (g*r)
@[simp] def oZ:gS:=jf (λ_ r=>decide (0<r/\r<1073741824)) λg r=>.int (g/r)
@[simp] def fK:gS:=jf (λ_ r=>decide (0<r)) λg r=>.int (g%r)
@[simp] def lY:gS:=jf (λg r=>decide (0<=r/\r<=1000000/\g.natAbs<2^64)) λg r=>.int (g^r.toNat)
@[simp] def gj:gS:=jf (λ_ W=>V) λg r=>.av (decide (g<=r))
@[simp] def h_:gS:=jf (λ_ W=>V) λg r=>.av (decide (r<g))
@[simp] def AH:gS:=jf (λ_ W=>V) λg r=>.av (decide (r<=g))
def Un:d2 a (gG .Sub) gs:=ur Sw λ_ W W=>rfl
def N3:d2 a (gG .Mult) gZ:=tA PM (λg r e=>by unfold iz at e;unfold IntMulOk;rw[vz]at e;rw[e];exact da) λ_ W W=>rfl
def RA:d2 a (gG .FloorDiv) oZ:=tA P6 (λg r e=>show 0<r/\r<1073741824 from fE e) λ_ W W=>rfl
def IQ:d2 a (gG .Mod) fK:=tA Iv (λg r e=>fE e) λ_ W W=>rfl
def Jn:d2 a (gG .Pow) lY:=tA Td (λg r e=>show 0<=r/\r<=1000000/\g.natAbs<2^64 from fE e) λ_ W W=>rfl
def Jl:d2 a (e2 .LtE) gj:=ur KP λ_ W W=>rfl
def TC:d2 a (e2 .Gt) h_:=ur T_ λ_ W W=>rfl
def OH:d2 a (e2 .GtE) AH:=ur OB λ_ W W=>rfl
def Km:ek a (gG .Add) (λf z b C=>∃h c VJ,f=.ref h/\z=.ref c/\cZ a.K b h []/\cZ a.K b c VJ/\C (.ref c) b):=by
 intro G j B b f z u J C y n o e;let⟨h,c,@VJ,rfl,rfl,q,r,p⟩:=e;cases n;cases o;let⟨@VA,s,t,W⟩:=y.tuple q;let⟨@D,E,Wj,W⟩:=y.tuple r;have d:VA=[]:=s.tY.mpr rfl;subst d;let⟨@⟨cls,v,data,bo⟩,g,i,⟨@x,hd⟩⟩:=id t;let⟨@⟨F,w,data2,A⟩,k,l,⟨@Wu,m⟩⟩:=id Wj;simp only at i hd l m;subst i hd l m;exact zG ⟨_,g,rfl⟩ ⟨_,k,rfl⟩ w9 Ap xK yp (zR _ _) (tuple_addW0 h c _ _ x Wu v w bo A rfl) ⟨g,k,.ref c,b,y,rfl,p⟩
@[simp] def dg:gS:=λh c=>match h,c with
 |.im (.int g),.im (.int r)=>Z (.im<|.int<|g+r)
 |.im (.tup f),.im (.tup z)=>if f.length+z.length<=100000 then Z (.im<|.tup<|f++z) else X
 |.lst f,.lst z=>if f.length+z.length<=100000 then Z (.lst<|f++z) else X
 |.im (.str f),.im (.str z)=>if f.length+z.length<=100000 then Z (.im<|.str<|f++z) else X
 |_,_=>X
theorem bM.app:∀{h c:List aa}{f z:List au},bM b h f->bM b c z->bM b (h++c) (f++z)
 |[],c,f,z,e,q=>by cases (show f=[] from e);exact q
 |v::h,c,f,z,e,q=>by
  let⟨u,@s,rfl,t,A⟩:=e;exact⟨u,s++z,rfl,t,A.app q⟩
def bM.nil{b:aD}{h:List aa}(e:bM b h []):h=[]:=by
 cases h with
 |nil=>rfl
 |cons v h=>let⟨W,@W,d,W⟩:=e;cases d
def MP:d2 a (gG .Add) dg:=by
 refine (M4.or<|Km.or<|Io.or<|LD.or LS).imp λf z b C y=>?_;let⟨V2,V8,@v,o,q,d,p⟩:=y;unfold dg at d;split at d
 ·cases d;exact .inl ⟨_,_,o.i,q.i,b_.i p rfl⟩
 ·rename_i h c;split at d
  ·rename_i j;cases d;let⟨m,@w,rfl,t,A⟩:=o.i;let⟨k,@VJ,rfl,n,e⟩:=q.i;refine .inr ?_;by_cases s:w=[]
   ·subst s;cases A.nil;exact .inl ⟨m,k,VJ,rfl,rfl,cZ.of t,cZ.of n,b_.i p ⟨k,VJ,rfl,n,e⟩⟩
   ·refine .inr (.inl ⟨m,k,w,VJ,rfl,rfl,cZ.of t,cZ.of n,s,mO (by rw[<-A.length,<-e.length];exact j),λu=>?_,λu x r=>b_.t p r<|A.app e⟩);subst u;cases e.nil;rw[bQ]at p;exact b_.i p ⟨m,w,rfl,t,A⟩
  ·cases d
 ·rename_i h c;split at d
  ·rename_i j;cases d;let⟨W,m,@w,rfl,t,A,W⟩:=o;let⟨W,k,@VJ,rfl,n,e,W⟩:=q;exact .inr (.inr (.inr (.inl ⟨m,k,w,VJ,rfl,rfl,t,n,mO (by rw[<-A.length,<-e.length];exact j),λx r=>b_.l p r<|A.app e⟩)))
  ·cases d
 ·rename_i h c;split at d
  ·rename_i j;cases d;exact .inr (.inr<|.inr<|.inr ⟨h,c,o.i,q.i,mO j,b_.i p rfl⟩)
  ·cases d
 ·cases d
def Pg(x:Nat){O:bq}{f z:aa}{J u:ae}(k:aa.aZ x f=V)(a_:aa.aZ x z=V)(R:O.units+x+2<bW)(m:dh j.heap f J)(a:dh j.heap z u):SeqAt.RcAt O j J u (cn f z):=by
 cases f with
 |a3=>
  cases (show J=.none from m);cases z with
  |a3=>cases (show u=.none from a);exact KS
  |av c=>cases (show u=.bool c from a);exact Kh c
  |int r=>let⟨@D,rfl⟩:=a;exact NU r D
  |str i=>let⟨@D,rfl⟩:=a;exact R2 i D
  |tup E=>let⟨h,n,VP,@l,rfl,t,A,e,W⟩:=a;exact ML ⟨n,t,A,l,e⟩ ⋯
  |fn h=>cases x<;>cases a_
  |aW h=>cases x<;>cases a_
  |fd=>cases x<;>cases a_
 |av c=>
  cases (show J=.bool c from m);cases z with
  |a3=>cases (show u=.none from a);exact ID c
  |av o=>cases (show u=.bool o from a);exact PB c o
  |int r=>let⟨@D,rfl⟩:=a;exact PL c r D
  |str i=>let⟨@D,rfl⟩:=a;exact ND c i D
  |tup E=>let⟨h,n,VP,@l,rfl,t,A,e,W⟩:=a;exact Ua c ⟨n,t,A,l,e⟩ ⋯
  |fn h=>cases x<;>cases a_
  |aW h=>cases x<;>cases a_
  |fd=>cases x<;>cases a_
 |int g=>
  let⟨@b,rfl⟩:=m;cases z with
  |a3=>cases (show u=.none from a);exact J2 g b
  |av o=>cases (show u=.bool o from a);exact Su g b o
  |int r=>let⟨@D,rfl⟩:=a;exact I4 g b r D
  |str i=>let⟨@D,rfl⟩:=a;exact Qs g b i D
  |tup E=>let⟨h,n,VP,@l,rfl,t,A,e,W⟩:=a;exact P4 g b ⟨n,t,A,l,e⟩ ⋯
  |fn h=>cases x<;>cases a_
  |aW h=>cases x<;>cases a_
  |fd=>cases x<;>cases a_
 |str g=>
  let⟨@b,rfl⟩:=m;cases z with
  |a3=>cases (show u=.none from a);exact TO g b
  |av o=>cases (show u=.bool o from a);exact KJ g b o
  |int r=>let⟨@D,rfl⟩:=a;exact IP g b r D
  |str i=>let⟨@D,rfl⟩:=a;exact Oq g b i D
  |tup E=>let⟨h,n,VP,@l,rfl,t,A,e,W⟩:=a;exact TJ g b ⟨n,t,A,l,e⟩ ⋯
  |fn h=>cases x<;>cases a_
  |aW h=>cases x<;>cases a_
  |fd=>cases x<;>cases a_
 |fn h=>cases x<;>cases k
 |aW h=>cases x<;>cases k
 |fd=>cases x<;>cases k
 |tup E=>
  cases x with
  |zero=>cases k
  |succ x=>
  let⟨h,n,VP,@l,rfl,t,A,e,s⟩:=m;have We:j.heap.IsTuple h VP:=⟨n,t,A,l,e⟩;cases z with
  |a3=>cases (show u=.none from a);exact Tf We ⋯
  |av o=>cases (show u=.bool o from a);exact N0 o We ⋯
  |int r=>let⟨@D,rfl⟩:=a;exact JT r D We ⋯
  |str i=>let⟨@D,rfl⟩:=a;exact IK i D We ⋯
  |fn h=>cases a_
  |aW h=>cases a_
  |fd=>cases a_
  |tup S=>
   let⟨c,V4,q,@F,rfl,G,H,I,v⟩:=a;have Wy:j.heap.IsTuple c q:=⟨V4,G,H,F,I⟩;have w:=s.length;have y:=v.length;have L:VP.toList.length=VP.size:=by simp
   have M:q.toList.length=q.size:=by simp
   rw[L]at w;rw[M]at y;have p:=GG (A:=O) (e:=λr=>cn (E.getD r .a3)<|S.getD r .a3) We Wy ⋯ λr b1 N=>by
    let⟨@V2,B,P⟩:=s.get (r:=r) (u:=VP[r]) (by rw[eE];simp[b1]);let⟨@V8,C,Q⟩:=v.get (r:=r) (u:=q[r]) (by rw[eE];simp[N]);rw[cK,B,cK,C];exact iU x (jF k B) (jF a_ C) (by show O.units+1+x+1<bW;lia) P Q
   rw[<-w,<-y,r4 (E:=E) (S:=S) (λr f z h c=>by rw[cK,h,cK,c];rfl)]at p;rw[cn];exact p
@[simp] def fb:gS:=λh c=>match h,c with
 |.im f,.im z=>if (aa.aZ 8 f&&aa.aZ 8 z)=V then Z (.im<|.av<|cn f z) else X
 |.lst f,.lst z=>if (aa.dj 8 f&&aa.dj 8 z)=V then Z (.im<|.av<|fg f z) else X
 |_,_=>X
theorem zH:∀{f z:List aa},f.length≠z.length->fg f z=aA
 |[],[],e=>absurd rfl e
 |[],_::_,_=>rfl
 |_::_,[],_=>rfl
 |h::f,c::z,e=>by
  rw[fg,zH (λd=>e (by rw[dn,dn,d])),EN]
def pT{G:List (aj×ba)}(y:aI a G B b j){h:aj}{w:List au}{E:List aa}(t:b h=Z (.lst w))(A:bM b E w):∃VA:List ae,j.heap.IsList h VA.toArray/\dR j.heap E VA/\VA.length=E.length:=by
 let@⟨i,⟨VA,@x,c,d⟩⟩:=y.a5 h _ t;have:=A.ft y.a5 c;exact⟨VA,⟨_,d,rfl,x,rfl⟩,this,this.length.symm⟩
def Uj(al:a.A.units+20<bW):d2 a (e2 .Eq) fb:=by
 intro G j B b f z u J C y q s N;let⟨V2,V8,@v,k,l,d,p⟩:=N;unfold fb at d;split at d
 ·rename_i h c;split at d
  ·rename_i e;cases d;rw[cT]at e;exact Pg 8 e.1 e.2 ⋯ (k.i.ft y.a5 q) (l.i.ft y.a5 s) a.prog a.w _ _ ⟨.av _,b,y,rfl,b_.i p rfl⟩
  ·cases d
 ·rename_i h c;split at d
  ·rename_i e;cases d;rw[cT]at e;let⟨W,m,@w,rfl,t,A,W⟩:=k;let⟨W,am,@VJ,rfl,P,Q,W⟩:=l;cases q;cases s;let⟨@R,x,T,o⟩:=pT y t A;let⟨@WJ,D,U,Wu⟩:=pT y P Q;by_cases n:h.length=c.length
   ·have:=Nr (A:=a.A) (e:=λr=>cn (h.getD r .a3)<|c.getD r .a3) x D (by rw[cN,cN,o,Wu];exact n) ⋯ λr b1 F=>by
     let⟨@V2,I,k⟩:=T.get (r:=r) (u:=R.toArray[r]) (by simp at b1;simp[b1]);let⟨@V8,L,l⟩:=U.get (r:=r) (u:=WJ.toArray[r]) (by simp at F;simp[F]);rw[cK,I,cK,L];exact iU 8 (jF e.1 I) (jF e.2 L) (by show a.A.units+1+8+1<bW;lia) k l
    refine this a.prog a.w _ _ ⟨.av _,b,y,rfl,?_⟩;have M:=r4 (E:=h) (S:=c) (d:=λr=>cn (h.getD r .a3)<|c.getD r .a3) (λr f z h c=>by rw[cK,h,cK,c];rfl);rw[<-n,Cg,hW,CH]at M;rw[cN,o,M];exact b_.i p rfl
   ·refine RW (A:=a.A) x D (by rw[cN,cN,o,Wu];simpa using n) ⋯ a.prog a.w _ _ ⟨.av _,b,y,rfl,?_⟩;rw[zH n]at p;exact b_.i p rfl
  ·cases d
 ·cases d
end
section
variable{a:aL}
def NT(x:Nat){O:bq}{f z:aa}{J u:ae}(k:aa.aZ x f=V)(a_:aa.aZ x z=V)(R:O.units+x+2<bW)(m:dh j.heap f J)(a:dh j.heap z u):SeqAt.RcNeAt O j J u (!cn f z):=by
 cases f with
 |a3=>
  cases (show J=.none from m);cases z with
  |a3=>cases (show u=.none from a);exact P5
  |av c=>cases (show u=.bool c from a);exact Pd c
  |int r=>let⟨@D,rfl⟩:=a;exact Pc r D
  |str i=>let⟨@D,rfl⟩:=a;exact I5 i D
  |tup E=>let⟨h,n,VP,@l,rfl,t,A,e,W⟩:=a;exact Lu ⟨n,t,A,l,e⟩ ⋯
  |fn h=>cases x<;>cases a_
  |aW h=>cases x<;>cases a_
  |fd=>cases x<;>cases a_
 |av c=>
  cases (show J=.bool c from m);cases z with
  |a3=>cases (show u=.none from a);exact L4 c
  |av o=>cases (show u=.bool o from a);exact LC c o
  |int r=>let⟨@D,rfl⟩:=a;exact Lp c r D
  |str i=>let⟨@D,rfl⟩:=a;exact Mv c i D
  |tup E=>let⟨h,n,VP,@l,rfl,t,A,e,W⟩:=a;exact Rc c ⟨n,t,A,l,e⟩ ⋯
  |fn h=>cases x<;>cases a_
  |aW h=>cases x<;>cases a_
  |fd=>cases x<;>cases a_
 |int g=>
  let⟨@b,rfl⟩:=m;cases z with
  |a3=>cases (show u=.none from a);exact Ql g b
  |av o=>cases (show u=.bool o from a);exact Kz g b o
  |int r=>let⟨@D,rfl⟩:=a;exact K9 g b r D
  |str i=>let⟨@D,rfl⟩:=a;exact K4 g b i D
  |tup E=>let⟨h,n,VP,@l,rfl,t,A,e,W⟩:=a;exact J6 g b ⟨n,t,A,l,e⟩ ⋯
  |fn h=>cases x<;>cases a_
  |aW h=>cases x<;>cases a_
  |fd=>cases x<;>cases a_
 |str g=>
  let⟨@b,rfl⟩:=m;cases z with
  |a3=>cases (show u=.none from a);exact QQ g b
  |av o=>cases (show u=.bool o from a);exact M1 g b o
  |int r=>let⟨@D,rfl⟩:=a;exact KV g b r D
  |str i=>let⟨@D,rfl⟩:=a;exact Il g b i D
  |tup E=>let⟨h,n,VP,@l,rfl,t,A,e,W⟩:=a;exact SO g b ⟨n,t,A,l,e⟩ ⋯
  |fn h=>cases x<;>cases a_
  |aW h=>cases x<;>cases a_
  |fd=>cases x<;>cases a_
 |fn h=>cases x<;>cases k
 |aW h=>cases x<;>cases k
 |fd=>cases x<;>cases k
 |tup E=>
  cases x with
  |zero=>cases k
  |succ x=>
  let⟨h,n,VP,@l,rfl,t,A,e,s⟩:=m;have We:j.heap.IsTuple h VP:=⟨n,t,A,l,e⟩;cases z with
  |a3=>cases (show u=.none from a);exact Jo We ⋯
  |av o=>cases (show u=.bool o from a);exact SH o We ⋯
  |int r=>let⟨@D,rfl⟩:=a;exact S0 r D We ⋯
  |str i=>let⟨@D,rfl⟩:=a;exact OD i D We ⋯
  |fn h=>cases a_
  |aW h=>cases a_
  |fd=>cases a_
  |tup S=>
   let⟨c,V4,q,@F,rfl,G,H,I,v⟩:=a;have Wy:j.heap.IsTuple c q:=⟨V4,G,H,F,I⟩;have w:=s.length;have y:=v.length;have L:VP.toList.length=VP.size:=by simp
   have M:q.toList.length=q.size:=by simp
   rw[L]at w;rw[M]at y;have p:=MF (A:=O) (e:=λr=>cn (E.getD r .a3)<|S.getD r .a3) We Wy ⋯ λr b1 N=>by
    let⟨@V2,B,P⟩:=s.get (r:=r) (u:=VP[r]) (by rw[eE];simp[b1]);let⟨@V8,C,Q⟩:=v.get (r:=r) (u:=q[r]) (by rw[eE];simp[N]);rw[cK,B,cK,C];exact iU x (jF k B) (jF a_ C) (by show O.units+1+x+1<bW;lia) P Q
   rw[<-w,<-y,r4 (E:=E) (S:=S) (λr f z h c=>by rw[cK,h,cK,c];rfl)]at p;rw[cn];exact p
@[simp] def gq:gS:=λh c=>match h,c with
 |.im f,.im z=>if (aa.aZ 8 f&&aa.aZ 8 z)=V then Z (.im<|.av<|!cn f z) else X
 |.lst f,.lst z=>if (aa.dj 8 f&&aa.dj 8 z)=V then Z (.im<|.av<|!fg f z) else X
 |_,_=>X
def Ov(al:a.A.units+20<bW):d2 a (e2 .NotEq) gq:=by
 intro G j B b f z u J C y q s N;let⟨V2,V8,@v,k,l,d,p⟩:=N;unfold gq at d;split at d
 ·rename_i h c;split at d
  ·rename_i e;cases d;rw[cT]at e;exact NT 8 e.1 e.2 ⋯ (k.i.ft y.a5 q) (l.i.ft y.a5 s) a.prog a.w _ _ ⟨.av _,b,y,rfl,b_.i p rfl⟩
  ·cases d
 ·rename_i h c;split at d
  ·rename_i e;cases d;rw[cT]at e;let⟨W,m,@w,rfl,t,A,W⟩:=k;let⟨W,am,@VJ,rfl,P,Q,W⟩:=l;cases q;cases s;let⟨@R,x,T,o⟩:=pT y t A;let⟨@WJ,D,U,Wu⟩:=pT y P Q;by_cases n:h.length=c.length
   ·have:=MU (A:=a.A) (e:=λr=>cn (h.getD r .a3)<|c.getD r .a3) x D (by rw[cN,cN,o,Wu];exact n) ⋯ λr b1 F=>by
     let⟨@V2,I,k⟩:=T.get (r:=r) (u:=R.toArray[r]) (by simp at b1;simp[b1]);let⟨@V8,L,l⟩:=U.get (r:=r) (u:=WJ.toArray[r]) (by simp at F;simp[F]);rw[cK,I,cK,L];exact iU 8 (jF e.1 I) (jF e.2 L) (by show a.A.units+1+8+1<bW;lia) k l
    refine this a.prog a.w _ _ ⟨.av _,b,y,rfl,?_⟩;have M:=r4 (E:=h) (S:=c) (d:=λr=>cn (h.getD r .a3)<|c.getD r .a3) (λr f z h c=>by rw[cK,h,cK,c];rfl);rw[<-n,Cg,hW,CH]at M;rw[cN,o,M];exact b_.i p rfl
   ·refine OQ (A:=a.A) x D (by rw[cN,cN,o,Wu];simpa using n) ⋯ a.prog a.w _ _ ⟨.av _,b,y,rfl,?_⟩;rw[zH n]at p;exact b_.i p rfl
  ·cases d
 ·cases d
def en{VO:Type}[DecidableEq VO](Vx:List (VO×aa))(q:VO):Option aa:=((Vx.find? λm=>decide (m.1=q)).map (·.2))
theorem oX{VO:Type}[DecidableEq VO]{b:aD}{q:VO}:∀{Vx:List (VO×aa)}{M:List (VO×au)},ed b Vx M->(∀v,en Vx q=Z v->∃u,h3 M q=Z u/\cC b v u)/\(en Vx q=X->h3 M q=X)
 |_,_,.nil=>⟨(λv d=>by cases d),(λ_=>rfl)⟩
 |_,_,@dE.cons _ _ _ m p _ _ e D=>by
  let@⟨t,A⟩:=oX (q:=q) D;by_cases d:m.1=q
  ·have a:p.1=q:=e.1.symm.trans d;refine⟨λv hd=>?_,λc=>?_⟩
   ·have:∀s,en (m::s) q=Z m.2:=λs=>by simp[en,jl,d]
    rw[this]at hd;cases hd;exact⟨p.2,ve a,e.2⟩
   ·have:∀s,en (m::s) q=Z m.2:=λs=>by simp[en,jl,d]
    rw[this]at c;cases c
  ·have a:¬ p.1=q:=λi=>d (e.1.trans i);have:∀s,en (m::s) q=en s q:=λs=>by simp[en,jl,d]
   rw[this,uI a];exact⟨t,A⟩
@[simp] def a7:gS:=λh c=>match h,c with
 |.im (.tup E),.im (.int g)=>(fP E g).map .im
 |.lst E,.im (.int g)=>(fP E g).map .im
 |.dF E,.im (.int g)=>(fP E g).map .im
 |.aw Vx,.im (.tup q)=>if aa.keys 7 q=V then (en Vx q).map .im else X
 |.dJ Vx,.im (.int g)=>(en Vx<|.inl g).map .im
 |.dJ Vx,.im (.str g)=>(en Vx<|.inr g).map .im
 |.fu Vx,.im (.tup q)=>if aa.keys 7 q=V then (en Vx q).map .im else X
 |_,_=>X
def Kr(c:a.A.units+20<bW):hL a (λf z b C=>∃h u,f=.ref h/\gO b h z (Z u)/\C u b):=by
 intro WV m G j B b f z u J C y e g ⟨h,i,d,L,p⟩ Vy;subst d;cases e;exact yZ (Oy y L) G7.lookup (Pn c y L g λn o k l=>⟨i,b,k,l,p⟩) Vy
def wd{g:Int}{v:aa}(e:bM b E w)(d:fP E g=Z v):∃u,fP w g=Z u/\cC b v u:=by
 unfold fP at d ⊢;rw[<-e.length];let⟨@r,a,c⟩:=bB.mp d;let⟨@u,f,h⟩:=e.get c;exact⟨u,by rw[a];exact f,h⟩
def Eu(F:a.A.units+20<bW):hL a (λf z b C=>∃V2 V8 v,eY b V2 f/\eY b V8 z/\a7 V2 V8=Z v/\∀u T Vp,cY b T->cq T v u Vp->Vp.Nodup->(∀h∈Vp,b h=X)->C u T):=by
 refine (Jr.or<|FI.or<|Kr F).imp λf z b C G=>?_;let⟨V2,V8,@v,s,x,d,p⟩:=G;unfold a7 at d;split at d
 ·let⟨@r,e,j⟩:=b9.mp d;cases j;let⟨m,@w,rfl,t,A⟩:=s.i;let⟨@u,l,o⟩:=wd A e;exact .inr (.inl ⟨m,w,_,u,rfl,x.i,cZ.of t,l,b_.i p o⟩)
 ·let⟨@r,e,j⟩:=b9.mp d;cases j;let⟨W,m,@w,rfl,t,A,W⟩:=s;let⟨@u,l,o⟩:=wd A e;exact .inl ⟨m,w,_,u,rfl,x.i,dw.of t,l,b_.i p o⟩
 ·let⟨@r,e,j⟩:=b9.mp d;cases j;let⟨W,m,w,@n,rfl,t,A,W⟩:=s;let⟨@u,l,o⟩:=wd A e;exact .inl ⟨m,w,_,u,rfl,x.i,.inl<|.inr ⟨n,t⟩,l,b_.i p o⟩
 ·rename_i Vx q;split at d
  ·rename_i y;let⟨@r,e,j⟩:=b9.mp d;cases j;let⟨W,m,@M,rfl,t,A,W⟩:=s;let⟨@u,l,o⟩:=(oX A).1 r e;let⟨c,@w,rfl,B,E⟩:=x.i;exact .inr (.inr ⟨m,u,rfl,by rw[<-l];exact gO.t t ⟨y,c,w,rfl,B,E⟩,b_.i p o⟩)
  ·cases d
 ·rename_i Vx g;let⟨@r,e,j⟩:=b9.mp d;cases j;let⟨W,m,@M,rfl,t,A,W⟩:=s;let⟨@u,l,o⟩:=(oX A).1 r e;refine .inr (.inr ⟨m,u,rfl,?_,b_.i p o⟩);rw[show z=b6 (.inl g) from x.i,<-l];exact gO.k t
 ·rename_i Vx g;let⟨@r,e,j⟩:=b9.mp d;cases j;let⟨W,m,@M,rfl,t,A,W⟩:=s;let⟨@u,l,o⟩:=(oX A).1 r e;refine .inr (.inr ⟨m,u,rfl,?_,b_.i p o⟩);rw[show z=b6 (.inr g) from x.i,<-l];exact gO.k t
 ·rename_i Vx q;split at d
  ·rename_i y;let⟨@r,e,j⟩:=b9.mp d;cases j;let⟨W,m,M,@aQ,rfl,t,A,W⟩:=s;let⟨@u,l,o⟩:=(oX A).1 r e;let⟨c,@w,rfl,B,E⟩:=x.i;exact .inr (.inr ⟨m,u,rfl,.inr ⟨M,q,c,.inr ⟨aQ,t⟩,rfl,⟨y,c,w,rfl,B,E⟩,l.symm⟩,b_.i p o⟩)
  ·cases d
 ·cases d
end
end L2
namespace dP
open Spec PyProof.Rows
section
variable{Vs:bE}{H:bg}{O:bq}{Vo:ae->ao->Prop}{j:ao}
def IV{D bo:aj}{VA:Array ae}{cu i:ae}{M Vl:Option Int}{C:ae->ao->Prop}(m:oz j.heap D VA)(Vy:j.heap.IsSliceOf bo cu i .none)(aZ:kP cu M)(a:kP i Vl)(b:cx VA.size 0 M=0)(t:cx VA.size VA.size Vl=VA.size)(p:C (.ref D) j):wpAny (aO Vs H) O (mP (.ref D)<|.ref bo) C Vo j:=by
 let⟨@VI,c,d,hd⟩:=id Vy;have ty:j.TypeIs (.ref bo) "slice" := ⟨VI,c,d⟩;unfold mP;try with_reducible refine f9 ?_
 first|refine aB (aR ?_)|skip
 refine aB (Be m.typeIs ∅ ?_);refine aB (qA (name:=az.ofString "__getitem__") m.typeIs pO<|iR pO m.typeIs DN ?_<|Bi _ _);show wpAny _ _ (bH.Tuple.tupleItemsOf (.ref D) >>= _) _ _ j;refine aB (Gv m ?_);refine aB (mE ty ?_);rw[aF ∅];refine aB (DX Vy aZ a ?_);rw[b,t];show wpAny _ _ (if (((0:Nat):Int)==0&&(1:Int)==1&&(VA.size-0)==VA.size)=V then _ else _) _ _ j;rw[aF ↥0];refine aB (m:=bH.Tuple.tupleIsExact _) (aB<|mE m.typeIs<|aR ?_);show wpAny _ _ (if (ae.type "tuple" == ae.type "tuple")=V then _ else _) _ _ j;rw[aF ∅];exact aB (j9<|aR ⟨_,rfl,aR p⟩)
end
end dP
namespace L2
open Spec PyProof.Rows
section
variable{a:aL}
def Lj(L:ay (Option Int)):mF:=(λB b C=>∃k N I VL,bC b k B N/\N.Nodup/\L k=Z (I,VL)/\∀T V0,bC T VL B V0->bb b N T V0->C I T)
def oS(a:aL)(d:Option bl)(L:ay (Option Int)):Prop:=(∀ ⦃m⦄,G2 a d (Lj L) m)
def C1{d:Option bl}{D V1:mF}(e:pA a d D)(g:∀B b C,V1 B b C->D B b C):pA a d V1:=λG j B b C y c=>e G j B b C y (g B b C c)
def mZ:ay (Option Int):=(λk=>Z (X,k))
@[simp] def nA(L:ay ai):ay (Option Int):=λk=>(L k).bind λm=>match m.1 with
 |.im (.int g)=>Z (Z g,m.2)
 |_=>X
def N8:oS a X mZ:=by
 refine C1 JN λB b C c=>?_;let⟨k,N,s,@VL,Y,aq,d,p⟩:=c;cases d;exact p b N Y (bb.perm aq<|List.Perm.refl _)
variable{d:bl}
def Qo{L:ay ai}(e:bh a d L):oS a (Z d) (nA L):=by
 refine C1 (NV e) λB b C c=>?_;let⟨k,N,s,@VL,Y,aq,h,p⟩:=c;let⟨@⟨f,Vu⟩,t,A⟩:=bB.mp h;refine⟨k,N,f,Vu,Y,aq,t,λu Vt U Vp i VX j=>?_⟩;dsimp only at A;split at A
 ·rename_i g;cases A;exact⟨g,VX.1,p Vt U i j.both⟩
 ·cases A
def jr{VM:Type}(w:List VM)(M Vl:Option Int):List VM:=((w.drop<|dP.cx w.length 0 M).take (dP.cx w.length w.length Vl-dP.cx w.length 0 M))
variable{b:aD}
theorem bM.drop:∀{E:List aa}{w:List au} (x:Nat),bM b E w->bM b (E.drop x) (w.drop x)
 |E,w,0,e=>e
 |[],w,x+1,e=>by cases (show w=[] from e);exact rfl
 |v::E,w,x+1,e=>by
  let⟨u,@s,rfl,t,A⟩:=e;exact A.drop x
theorem bM.take:∀{E:List aa}{w:List au} (x:Nat),bM b E w->bM b (E.take x) (w.take x)
 |E,w,0,e=>rfl
 |[],w,x+1,e=>by cases (show w=[] from e);exact rfl
 |v::E,w,x+1,e=>by
  let⟨u,@s,rfl,t,A⟩:=e;exact⟨u,_,rfl,t,A.take x⟩
def bM.cut{E:List aa}{w:List au}(M Vl:Option Int)(e:bM b E w):bM b (jr E M Vl) (mv w M Vl):=by
 unfold jr mv;rw[e.length];exact (e.drop _).take _
@[simp] def rI(v:ai)(M Vl:Option Int):Option ai:=match v with
 |.im (.tup E)=>Z (.im<|.tup<|jr E M Vl)
 |.lst E=>Z (.lst<|jr E M Vl)
 |.dF E=>Z (.lst<|jr E M Vl)
 |_=>X
def M_(R:Φ):au->Option Int->Option Int->aD->cW->Prop:=(λf M Vl b C=>∃h w,f=.ref h/\cZ R b h w/\dP.cx w.length 0 M=0/\dP.cx w.length w.length Vl=w.length/\C (.ref h) b)
def OV:ri a (λf M Vl b C=>∃v s,eY b v f/\rI v M Vl=Z s/\b_ b s C):=by
 have all:ri a (M_ a.K):=by
  intro G j B b f u cu i M Vl bo C y c Vy aZ k e;let⟨h,@w,rfl,F,H,t,p⟩:=e;cases c;let⟨@VA,s,bI,L⟩:=y.tuple F;have z:VA.toArray.size=w.length:=by rw[cN];exact s.length.symm
  exact⟨"tuple",_,pO.lookup,bI.typeIs,dP.IV bI Vy aZ k (by rw[z];exact H) (by rw[z];exact t) ⟨.ref h,b,y,rfl,p⟩⟩
 intro G j B b f u cu i M Vl bo C y c Vy aZ k J;let⟨v,@s,r,d,p⟩:=J;unfold rI at d;split at d
 ·rename_i E;cases d;let⟨m,@w,rfl,t,A⟩:=r.i;by_cases o:dP.cx w.length 0 M=0/\dP.cx w.length w.length Vl=w.length
  ·refine all G j B b _ u cu i M Vl bo C y c Vy aZ k ⟨m,w,rfl,cZ.of t,o.1,o.2,b_.i p ⟨m,w,rfl,t,?_⟩⟩;have:jr E M Vl=E:=by
    unfold jr;rw[A.length,o.1,o.2,nx,Nat.sub_zero,<-A.length,sE]
   rw[this];exact A
  ·exact Rm G j B b _ u cu i M Vl bo C y c Vy aZ k ⟨m,w,rfl,cZ.of t,o,λx q=>b_.t p q<|A.cut M Vl⟩
 ·cases d;let⟨W,m,@w,rfl,t,A,W⟩:=r;exact Ec G j B b _ u cu i M Vl bo C y c Vy aZ k ⟨m,w,rfl,dw.of t,λx q=>b_.l p q<|A.cut M Vl⟩
 ·cases d;let⟨W,m,w,@n,rfl,t,A,W⟩:=r;exact Ec G j B b _ u cu i M Vl bo C y c Vy aZ k ⟨m,w,rfl,.inl<|.inr ⟨n,t⟩,λx q=>b_.l p q<|A.cut M Vl⟩
 ·cases d
@[simp] def ma(L:ay bN)(I e:ay (Option Int)):ay ai:=λk=>(L k).bind λm=>(I m.2).bind λp=>(e p.2).bind λs=>(dG s.2 m.1).bind λv=>(rI v p.1 s.1).map λa=>(a,s.2)
def N9{M Vl:Option bl}{L:ay bN}{l m:ay (Option Int)}{Wj VC:Pos}(q:eL a d L)(r:oS a M l)(w:oS a Vl m):bh a (.Subscript d (.Slice M Vl X Wj) VC) (ma L l m):=by
 refine d6 (SD OV q r w) λB b C x=>?_;let⟨k,N,s,@VL,Y,aq,z,p⟩:=x;let⟨@⟨f,Vu⟩,t,A⟩:=bB.mp z;let⟨@⟨I,VY⟩,D,E⟩:=bB.mp A;let⟨@⟨J,y⟩,F,G⟩:=bB.mp E;let⟨@v,O,P⟩:=bB.mp G;let⟨@bi,Q,R⟩:=b9.mp P;cases R;refine⟨k,N,f,Vu,Y,aq,t,λu Vt U Vp S VG c=>⟨Vu,U,I,VY,S,(cO.mp c.aq).1,D,λVF VQ T o=>⟨VY,VQ,J,y,T,o.aq,F,λal am g an=>?_⟩⟩⟩;have i:=o.seq an;have VZ:hN al B f u Vp:=VG.mono i.tup λh ap n d=>i.keep h n d λe=>(cO.mp c.aq).2.2 h e h ap rfl;have as:=c.trans i VG.chg;exact⟨v,_,VZ.read g O,Q,λH a1 a2 j VX bd be=>p H a1 am a2 (g.mono j.tupS λh W n d=>j h n d) VX<|as.new j bd be g.chg⟩
abbrev ic:=List ai->Option ai
@[simp] def dC:ic:=λE=>match E with
 |[.im (.tup f)]=>Z (.im<|.int f.length)
 |[.lst f]=>Z (.im<|.int f.length)
 |[.dF f]=>Z (.im<|.int f.length)
 |[.hJ f]=>Z (.im<|.int f.length)
 |[.dJ f]=>Z (.im<|.int f.length)
 |[.im (.str f)]=>if f.length<=100000 then Z (.im<|.int f.length) else X
 |_=>X
variable{Vj:List au}
def gb{v:ai}(e:m_ b [v] Vj):∃u,Vj=[u]/\eY b v u:=by
 let⟨u,@s,rfl,t,A⟩:=e;cases (show s=[] from A);exact⟨u,rfl,t⟩
def Hh{v d:ai}(e:m_ b [v,d] Vj):∃u J,Vj=[u,J]/\eY b v u/\eY b d J:=by
 let⟨u,@s,rfl,t,A⟩:=e;let⟨@J,rfl,a⟩:=gb A;exact⟨u,J,rfl,t,a⟩
def ed.length{VO:Type}{I:List (VO×aa)}{l:List (VO×au)}(e:ed b I l):I.length=l.length:=dE.length e
def TL:gV a (.builtin "len") dC:=by
 refine (MS.or<|IS.or R4).imp λw b C f=>?_;let⟨E,@v,c,d,p⟩:=f;unfold dC at d;split at d
 ·cases d;let⟨@u,rfl,e⟩:=gb c;let⟨m,@w,rfl,t,A⟩:=e.i;exact .inl ⟨m,w,rfl,.inr<|cZ.of t,by rw[<-A.length];exact b_.i p rfl⟩
 ·cases d;let⟨@u,rfl,⟨W,m,@w,rfl,t,A,W⟩⟩:=gb c;exact .inl ⟨m,w,rfl,.inl<|dw.of t,by rw[<-A.length];exact b_.i p rfl⟩
 ·cases d;let⟨@u,rfl,⟨W,m,w,@n,rfl,t,A,W⟩⟩:=gb c;exact .inl ⟨m,w,rfl,.inl<|.inl<|.inr ⟨n,t⟩,by rw[<-A.length];exact b_.i p rfl⟩
 ·cases d;let⟨@u,rfl,⟨W,m,w,@Q,rfl,t,A,W⟩⟩:=gb c;exact .inl ⟨m,w,rfl,.inl<|dw.of t,by rw[<-A.length];exact b_.i p rfl⟩
 ·cases d;let⟨@u,rfl,⟨W,m,@M,rfl,t,A,W⟩⟩:=gb c;exact .inr (.inr ⟨m,M,rfl,t,by rw[<-A.length];exact b_.i p rfl⟩)
 ·split at d
  ·rename_i h;cases d;let⟨@u,rfl,e⟩:=gb c;cases (show u=_ from e.i);exact .inr (.inl ⟨_,rfl,mO h,b_.i p rfl⟩)
  ·cases d
 ·cases d
@[simp] def iF:ic:=λE=>match E with
 |[v]=>(jP v).map λf=>.im (.tup f)
 |_=>X
@[simp] def qM:ic:=λE=>match E with
 |[v]=>(jP v).map .lst
 |_=>X
def RO:gV a (.type "tuple") iF:=by
 refine QR.imp λw b C j=>?_;let⟨E,@v,k,d,p⟩:=j;unfold iF at d;split at d
 ·let⟨@f,c,l⟩:=b9.mp d;cases l;let⟨@u,rfl,e⟩:=gb k;unfold jP at c;split at c
  ·cases c;let⟨m,@w,rfl,t,A⟩:=e.i;exact⟨m,w,rfl,.inr ⟨cZ.of t,b_.i p ⟨m,w,rfl,t,A⟩⟩⟩
  ·cases c;let⟨W,m,@w,rfl,t,A,W⟩:=e;exact⟨m,w,rfl,.inl ⟨dw.of t,λI h=>b_.t p h A⟩⟩
  ·cases c;let⟨W,m,w,@n,rfl,t,A,W⟩:=e;exact⟨m,w,rfl,.inl ⟨.inl<|.inr ⟨n,t⟩,λI h=>b_.t p h A⟩⟩
  ·cases c
 ·cases d
def Ld:gV a (.type "list") qM:=by
 refine UG.imp λw b C j=>?_;let⟨E,@v,k,d,p⟩:=j;unfold qM at d;split at d
 ·let⟨@f,c,o⟩:=b9.mp d;cases o;let⟨@u,rfl,e⟩:=gb k;unfold jP at c;split at c
  ·cases c;let⟨m,@w,rfl,t,A⟩:=e.i;exact⟨m,w,rfl,.inr<|cZ.of t,λI h=>b_.l p h A⟩
  ·cases c;let⟨W,m,@w,rfl,t,A,W⟩:=e;exact⟨m,w,rfl,.inl<|dw.of t,λI h=>b_.l p h A⟩
  ·cases c;let⟨W,m,w,@n,rfl,t,A,W⟩:=e;exact⟨m,w,rfl,.inl<|.inl<|.inr ⟨n,t⟩,λI h=>b_.l p h A⟩
  ·cases c
 ·cases d
@[simp] def vInt:ic:=λE=>match E with
 |[.im (.int g)]=>Z (.im<|.int g)
 |[.im (.av c)]=>Z (.im<|.int<|if c then 1 else 0)
 |_=>X
def PI:gV a (.type "int") vInt:=by
 refine O2.imp λw b C f=>?_;let⟨E,@v,c,d,p⟩:=f;unfold vInt at d;split at d
 ·cases d;let⟨@u,rfl,e⟩:=gb c;cases (show u=_ from e.i);exact .inl ⟨_,rfl,b_.i p rfl⟩
 ·cases d;let⟨@u,rfl,e⟩:=gb c;cases (show u=_ from e.i);exact .inr ⟨_,rfl,b_.i p rfl⟩
 ·cases d
@[simp] def y_:ic:=λE=>match E with
 |[.im (.int g),.im<|.int r]=>Z (.im<|.int<|if r>g then r else g)
 |_=>X
@[simp] def yq:ic:=λE=>match E with
 |[.im (.int g),.im<|.int r]=>Z (.im<|.int<|if r<g then r else g)
 |_=>X
def O8(c:a.calm=V):gV a (.builtin "max") y_:=by
 refine (Rw c).imp λw b C f=>?_;let⟨E,@v,h,d,p⟩:=f;unfold y_ at d;split at d
 ·cases d;let⟨u,@J,rfl,e,q⟩:=Hh h;cases (show u=_ from e.i);cases (show J=_ from q.i);exact⟨_,_,rfl,b_.i p rfl⟩
 ·cases d
def Kx(c:a.calm=V):gV a (.builtin "min") yq:=by
 refine (RU c).imp λw b C f=>?_;let⟨E,@v,h,d,p⟩:=f;unfold yq at d;split at d
 ·cases d;let⟨u,@J,rfl,e,q⟩:=Hh h;cases (show u=_ from e.i);cases (show J=_ from q.i);exact⟨_,_,rfl,b_.i p rfl⟩
 ·cases d
@[simp] def lA:List aa->Option (List Bool)
 |[]=>Z []
 |.av c::E=>(lA E).map λs=>c::s
 |_::_=>X
theorem zK{b:aD}:∀{E:List aa}{w:List au}{M:List Bool},bM b E w->lA E=Z M->w=M.map au.av
 |[],w,M,e,d=>by cases d;exact e
 |.av c::E,w,M,e,d=>by
  let⟨u,@s,rfl,t,A⟩:=e;rw[lA]at d;let⟨@m,a,f⟩:=b9.mp d;cases f;cases (show u=.av c from t);rw[zK A a];rfl
 |.a3::_,_,_,_,d=>by cases d
 |.int _::_,_,_,_,d=>by cases d
 |.str _::_,_,_,_,d=>by cases d
 |.tup _::_,_,_,_,d=>by cases d
 |.fn _::_,_,_,_,d=>by cases d
 |.aW _::_,_,_,_,d=>by cases d
 |.fd _::_,_,_,_,d=>by cases d
@[simp] def qG:ic:=λE=>match E with
 |[.lst f]=>(lA f).map λM=>.im (.av<|M.all id)
 |_=>X
@[simp] def q_:ic:=λE=>match E with
 |[.lst f]=>(lA f).map λM=>.im (.av<|M.any id)
 |_=>X
def Up(c:a.calm=V):gV a (.builtin "all") qG:=by
 refine (L6 c).imp λw b C e=>?_;let⟨E,@v,h,d,p⟩:=e;unfold qG at d;split at d
 ·let⟨@f,j,k⟩:=b9.mp d;cases k;let⟨@u,rfl,⟨W,m,@w,rfl,t,A,W⟩⟩:=gb h;rw[zK A j]at t;exact⟨m,f,rfl,t,b_.i p rfl⟩
 ·cases d
end
section
variable{a:aL}
def Rv(l:a.calm=V):eD a (.builtin "any") (λw b C=>∃I M,w=[.ref I]/\b I=Z (.lst<|List.map au.av M)/\C (.av<|M.any id) b):=by
 intro G j B b w VH C y s e;let⟨I,@M,rfl,m,p⟩:=e;let⟨@J,rfl,n⟩:=h2 s;cases n;let@⟨i,⟨VA,@x,f,d⟩⟩:=y.a5 I _ m;have h:j.heap.IsList I VA.toArray:=⟨_,d,rfl,x,rfl⟩;refine call_any_walk (vv h ⟨j.heap.objs.size,[j.heap.objs.size,I],[j.heap.objs.size],VA.toArray.size,_,_,λg=>(M[g]?).getD aA,rfl,iK.list (A:=a.A.in1) (y.ok.hd l) _ I (c0<|cA d) VA.toArray,
  ⟨⟨_,dM _ rfl,rfl,rfl⟩,h.push _⟩,λg u Vm v z o k=>?_,λVk Vq q=>?_⟩)
 ·let⟨@c,r,rfl⟩:=HL f g u ⇑o;simp only[r,qI]at k;exact lB k
 ·have t:VA.toArray.size=M.length:=by
   have:=f.length;rw[a8]at this;rw[cN,this]
  rw[t,LSm.range_any];exact⟨.av _,b,y.kept<|FN q,rfl,p⟩
def OS(c:a.calm=V):gV a (.builtin "any") q_:=by
 refine (Rv c).imp λw b C e=>?_;let⟨E,@v,h,d,p⟩:=e;unfold q_ at d;split at d
 ·let⟨@f,j,k⟩:=b9.mp d;cases k;let⟨@u,rfl,⟨W,m,@w,rfl,t,A,W⟩⟩:=gb h;rw[zK A j]at t;exact⟨m,f,rfl,t,b_.i p rfl⟩
 ·cases d
def yF:ai->Option Nat
 |.im (.int _)=>Z 0
 |.im (.av _)=>Z 1
 |.im (.str _)=>Z 2
 |.im (.tup _)=>Z 3
 |.im .a3=>Z 4
 |.lst _=>Z 4
 |.im (.aW _)=>Z 4
 |.im (.fd _)=>Z 4
 |.aw _=>Z 4
 |.dJ _=>Z 4
 |_=>X
@[simp] def y9(Vv:String)(v:ai):Option Bool:=
 (yF v).bind λq=>if Vv = "int" then Z (q==0 || q==1) else if Vv = "bool" then Z (q==1) else if Vv = "str" then Z (q==2) else if Vv = "tuple" then Z (q==3) else X
variable{Vv:String}{c:Bool}
def TS{v:ai}(e:y9 Vv v=Z c):∃q,yF v=Z q/\((Vv = "int" /\ c=(q==0 || q==1))\/(Vv = "bool" /\ c=(q==1))\/(Vv = "str" /\ c=(q==2))\/(Vv = "tuple" /\ c=(q==3))):=by
 let⟨@q,d,e⟩:=bB.mp e;refine⟨q,d,?_⟩;by_cases t:Vv = "int"
 ·rw[aF t]at e;cases e;exact .inl ⟨t,rfl⟩
 rw[aJ t]at e;by_cases A:Vv = "bool"
 ·rw[aF A]at e;cases e;exact .inr (.inl ⟨A,rfl⟩)
 rw[aJ A]at e;by_cases a:Vv = "str"
 ·rw[aF a]at e;cases e;exact .inr (.inr<|.inl ⟨a,rfl⟩)
 rw[aJ a]at e;by_cases b:Vv = "tuple"
 ·rw[aF b]at e;cases e;exact .inr (.inr<|.inr ⟨b,rfl⟩)
 rw[aJ b]at e;cases e
def nJ{O VE ab k Vz:Prop}(e:O\/VE\/ab\/k)(h:O->Vz)(c:VE->Vz)(o:ab->Vz)(v:k->Vz):Vz:=e.elim h λe=>e.elim c λe=>e.elim o v
variable{G:List (aj×ba)}{b:aD}{j:ao}
def G5{B:a6}(y:aI a G B b j){h:aj}(e:(∃q,b h=Z (.aw q))\/∃q,b h=Z (.dJ q)):∃n,j.heap.get? h=Z n/\n.cls=.type "dict" := by
 rcases e with ⟨q,e⟩|⟨q,e⟩
 ·let@⟨_,_,⟨@w,_,⟨n,S,@VU,t,A,_⟩⟩⟩:=(show eb a.prog a.w b j.heap h (.aw q) from y.a5 h _ e);exact⟨n,t,A.1⟩
 ·let@⟨_,_,⟨@Vj,_,⟨n,S,@VU,t,A,_⟩⟩⟩:=(show eb a.prog a.w b j.heap h (.dJ q) from y.a5 h _ e);exact⟨n,t,A.1⟩
def Uq{B:a6}(y:aI a G B b j){h:aj}{m:ba}{Vx:List (List aa×au)}(e:b h=Z (.cV m<|.aw Vx)):∃n,j.heap.get? h=Z n/\n.cls=.type "dict" := by
 let@⟨_,_,_,⟨@w,_,⟨n,S,@VU,t,A,_⟩⟩⟩:=(show eb a.prog a.w b j.heap h (.cV m<|.aw Vx) from y.a5 h _ e);exact⟨n,t,A.1⟩
def SM:eD a (.builtin "isinstance") (λw b C=>∃f Vv v c,w=[f,.ty Vv]/\eY b v f/\y9 Vv v=Z c/\C (.av c) b):=by
 intro G j B b w VH C y s e;let⟨f,Vv,v,@c,rfl,l,Vl,p⟩:=e;have J:=s;cases s with
 |cons s z=>
  cases z with
  |cons Wh z=>
   cases z;cases Wh;have m:∀{c:Bool},C (.av c) b->eM a G B C (.bool c) {j with toks:=j.toks+1}:=λ{c} p=>⟨.av c,b,y.tok _,rfl,p⟩;let⟨@q,k,r⟩:=TS Vl;have o:c=aA->C (.av aA) b:=λd=>d ▸ p;have D:∀{h:aj},q=4->(∃n,j.heap.get? h=Z n/\n.cls=.type "dict")->wpAny (aO a.prog a.w) a.A (call (.builtin "isinstance") [.ref h,.type Vv]) (eM a G B C) a.cR j:=by
    rintro h rfl ⟨n,u,x⟩;refine nJ r (λ⟨d,F⟩=>d ▸ IsiPair.dict_int u x (m<|o F)) (λ⟨d,F⟩=>d ▸ IsiPair.dict_bool u x (m<|o F)) (λ⟨d,F⟩=>d ▸ IsiPair.dict_str u x (m<|o F)) λE=>?_;let@⟨d,F⟩:=E;exact d ▸ IsiPair.dict_tuple u x (m<|o F)
   have pK:F0 a.K b f Vv c->wpAny (aO a.prog a.w) a.A (call (.builtin "isinstance") [_,.type Vv]) (eM a G B C) a.cR j:=λL=>Ou G j B b _ _ C y J ⟨f,Vv,c,rfl,L,p⟩;have I:∀{h:aj}{w:List au},q=4->f=.ref h->dw a.K b h w->wpAny (aO a.prog a.w) a.A (call (.builtin "isinstance") [_,.type Vv]) (eM a G B C) a.cR j:=λ{h w} k d i=>by
    subst k;exact pK (.inr<|.inr<|.inr<|.inr ⟨h,w,d,i,nJ r (λe=>.inr<|.inl e) (λe=>.inr<|.inr<|.inr<|.inl e) (λe=>.inr<|.inr<|.inl e) λe=>.inr<|.inr<|.inr<|.inr e⟩)
   unfold yF at k;split at k
   ·cases k;exact pK (.inl ⟨_,l.i,nJ r .inl (λe=>.inr<|.inr<|.inr<|.inl e) (λe=>.inr<|.inr<|.inl e) λe=>.inr<|.inl e⟩)
   ·cases k;exact pK (.inr<|.inl ⟨_,l.i,nJ r (λe=>.inr<|.inl e) .inl (λe=>.inr<|.inr<|.inr<|.inl e) λe=>.inr<|.inr<|.inl e⟩)
   ·cases k;exact pK (.inr<|.inr<|.inl ⟨_,l.i,nJ r (λe=>.inr<|.inl e) (λe=>.inr<|.inr<|.inr<|.inl e) .inl λe=>.inr<|.inr<|.inl e⟩)
   ·cases k;let⟨h,@w,d,t,A⟩:=l.i;exact pK (.inr<|.inr<|.inr<|.inl ⟨h,w,d,cZ.of t,nJ r (λe=>.inr<|.inl e) (λe=>.inr<|.inr<|.inr<|.inl e) (λe=>.inr<|.inr<|.inl e) .inl⟩)
   ·cases k;cases (show f=.a3 from l.i);cases s;refine nJ r (λ⟨d,F⟩=>d ▸ IsiPair.NoneType_int (m<|o F)) (λ⟨d,F⟩=>d ▸ IsiPair.NoneType_bool (m<|o F)) (λ⟨d,F⟩=>d ▸ IsiPair.NoneType_str (m<|o F)) λE=>?_;let@⟨d,F⟩:=E;exact d ▸ IsiPair.NoneType_tuple (m<|o F)
   ·cases k;let⟨W,h,@w,d,t,A,W⟩:=l;exact I rfl d (dw.of t)
   ·cases k;let⟨h,w,@n,d,t,A⟩:=l.i;exact I rfl d (.inl<|.inr ⟨n,t⟩)
   ·cases k;let⟨h,n,@M,rfl,t,W⟩:=l.i;cases s;exact D rfl (Uq y t)
   ·cases k;let⟨W,h,@w,rfl,t,A,W⟩:=l;cases s;exact D rfl (G5 y<|.inl ⟨_,t⟩)
   ·cases k;let⟨W,h,@w,rfl,t,A,W⟩:=l;cases s;exact D rfl (G5 y<|.inr ⟨_,t⟩)
   ·cases k
@[simp] def qt(Vv:String)(L:ay bN):ay ai:=λk=>(L k).bind λm=>(dG m.2 m.1).bind λv=>(y9 Vv v).map λc=>(.im<|.av c,m.2)
variable{f:az}{d:bl}{L:ay bN}{VC:Pos}
def Kf{m Wj:Pos}(i:eu a "isinstance")(j:a.aU "isinstance" = X)(l:iA "isinstance" = Z (.builtin "isinstance"))(o:eu a f)(q:a.aU f=X)(r:iA f=Z (.type Vv))(e:eL a d L)(w:f ≠ "__name__" := by decide)(hd:(f==("__debug__" : az))=aA:=by decide)(g:bP [d,.Name f Wj] a.env=(aA,bJ d a.env)::bP [.Name f Wj] a.env:=by rfl)(x:bP [.Name f Wj] a.env=(aA,bJ (.Name f Wj) a.env)::bP [] a.env:=by rfl)(y:(d9 VC<|bP [.Name f Wj] a.env).any (·.1)=aA:=by rfl):bh a (.Call (.Name "isinstance" m) [d,.Name f Wj] [] VC) (qt Vv L):=by
 refine d6 (wZ SM i j l (lQ e (lQ (IX (u:=.ty Vv) o q r rfl w hd) o8 x) g) ∅ ∅ g y) λB b C z=>?_;let⟨k,N,s,@VL,Y,aq,D,p⟩:=z;let⟨@⟨n,Vu⟩,t,A⟩:=bB.mp D;let⟨@v,E,F⟩:=bB.mp A;let⟨@c,G,H⟩:=b9.mp F;cases H;exact⟨k,N,n,Vu,Y,aq,t,λu Vt U Vp h VG I=>⟨u,Vv,v,c,rfl,VG.read h E,G,p _ Vt U [] h ⟨rfl,rfl⟩ (by rw[bQ];exact I.both)⟩⟩
@[simp] def qT:ai->Option Bool
 |.im .a3=>Z aA
 |.im (.av c)=>Z c
 |.im (.int g)=>Z (g != 0)
 |.im (.str f)=>if f.length<=100000 then Z ((f.length:Int) != 0) else X
 |.im (.tup E)=>Z (!E.isEmpty)
 |.lst E=>Z (!E.isEmpty)
 |.dF E=>Z (!E.isEmpty)
 |.dJ Vx=>Z (!Vx.isEmpty)
 |_=>X
def bM.emp{E:List aa}{w:List au}(e:bM b E w):(!w.isEmpty)=!E.isEmpty:=by
 cases E with
 |nil=>cases (show w=[] from e);rfl
 |cons v E=>let⟨u,@s,rfl,W⟩:=e;rfl
def Om{v:ai}{u:au}(e:eY b v u)(d:qT v=Z c):yr a.K u b c:=by
 unfold qT at d;split at d
 ·cases d;cases (show u=_ from e.i);rfl
 ·cases d;cases (show u=_ from e.i);rfl
 ·cases d;cases (show u=_ from e.i);rfl
 ·split at d
  ·rename_i f;cases d;cases (show u=_ from e.i);exact⟨mO f,rfl⟩
  ·cases d
 ·cases d;let⟨m,@w,rfl,t,A⟩:=e.i;exact .inr (.inl ⟨w,cZ.of t,A.emp.symm⟩)
 ·cases d;let⟨W,m,@w,rfl,t,A,W⟩:=e;exact .inl ⟨w,dw.of t,A.emp.symm⟩
 ·cases d;let⟨W,m,w,@n,rfl,t,A,W⟩:=e;exact .inl ⟨w,.inl<|.inr ⟨n,t⟩,A.emp.symm⟩
 ·cases d;let⟨W,m,@M,rfl,t,A,W⟩:=e;refine .inr (.inr ⟨M,t,?_⟩);cases A<;>rfl
 ·cases d
@[simp] def jg(L:ay bN):ay Bool:=λk=>(L k).bind λm=>(dG m.2 m.1).bind λv=>(qT v).map λc=>(c,m.2)
def I_(e:eL a d L)(h:∀f,o9 d a.env f=(do let u <-f;standAt d.pos;holding [u] (truthy u)):=by intro W;rfl):fC a d (jg L):=by
 refine sy (RZ e h) λB b C i=>?_;let⟨k,N,c,@VL,Y,aq,j,p⟩:=i;let⟨@⟨n,Vu⟩,t,A⟩:=bB.mp j;let⟨@v,l,m⟩:=bB.mp A;let⟨@s,o,q⟩:=b9.mp m;cases q;exact⟨k,N,n,Vu,Y,aq,t,λu Vt U Vp g VG r=>⟨_,Om (VG.read g l) o,p Vt U g r.both⟩⟩
def N6{g:Int}{D:hX}(b:eu a f)(c:a.aU f=Z (.int g D))(hd:(f==("__debug__" : az))=aA:=by decide):bh a (.Name f VC) (aG<|.int g):=vL (Bv (u:=.int g) b c ⟨D,rfl⟩ hd) λ_=>rfl
def Iz{F:aj}(b:eu a f)(c:a.aU f=Z (.ref F))(hd:(f==("__debug__" : az))=aA:=by decide):bh a (.Name f VC) (aG<|.fn F):=vL (Bv (u:=.ref F) b c rfl hd) λ_=>rfl
end
variable{l WH:Pos}{n:bl}{id Vv:String}{name:az}{L:ay (List bN)}{g:Nat}{ty:ai->Bool}{R:Φ}{V4:eV}{h:aj}{b:aD}
def bb.chg{N U:List aj}(c:h∈N)(o:fx b h)(aq:U.Nodup)(cP:∀f∈U,f∈N):bb b N (upd b h V4) U:=by
 let⟨@n,d,bI,e⟩:=o;refine⟨λf J Wg a=>?_,λf a=>.inl<|cP f a,aq,eA.of (λf w Wg=>?_)<|λf m J Wg=>?_,λf J Wg=>?_⟩
 ·rw[cz (λi=>a (by rw[i];exact c))];exact Wg
 ·rw[cz]
  ·exact Wg
  ·rintro rfl;rw[d]at Wg;exact bI w (Option.some.inj Wg)
 ·rw[cz]
  ·exact Wg
  ·rintro rfl;rw[d]at Wg;exact e m J (Option.some.inj Wg)
 ·by_cases a:f=h
  ·subst a;exact⟨V4,d_⟩
  ·exact⟨J,(cz a).trans Wg⟩
theorem cC.lj(o:fx b h):pj b (upd b h V4):=(bb.chg (N:=[h]) (U:=[]) (.head _) o hn<|λf a=>nomatch a).tup.tup
def mM(a:aL)(id:String)(bc:ai->List ai->Option (ai×ai)):Prop:=(
 vf a id λf Vj b C=>∃o E s V9 Vp VD,cq b o f Vp/\c2 b E Vj VD/\(Vp++VD).Nodup/\bc o E=Z (s,V9)/\∀u T c bR,cq T s u c->cq T V9 f bR->bb b (Vp++VD) T (c++bR)->C u T)
@[simp] def g4:ai->Bool
 |.lst _=>V
 |.hJ _=>V
 |_=>aA
@[simp] def vo:ai->Bool
 |.dJ _=>V
 |.aw _=>V
 |_=>aA
@[simp] def eI(ty:ai->Bool)(g:Nat)(bc:ai->List ai->Option (ai×ai))(L:ay (List bN)):ay ai:=λk=>match k[g]? with
 |some (Z WC)=>if ty WC=V then (L k).bind λm=>(ei m.1 m.2).bind λp=>match p.2[g]? with
   |some (Z o)=>(bc o p.1).map λs=>(s.1,p.2.set g<|Z s.2)
   |_=>X
  else X
 |_=>X
def BQ{bc:ai->List ai->Option (ai×ai)}{B:a6}{C:cW}(z:∀b o f Vp,cq b o f Vp->ty o=V->kd R Vv f b)(e:mL (eI ty g bc L) B b C):∃f,B[g]?=Z (Z f)/\kd R Vv f b/\ha L B b λVj VF=>∃o E s V9 Vp VD,cq VF o f Vp/\c2 VF E Vj VD/\(Vp++VD).Nodup/\bc o E=Z (s,V9)/\∀u T i bR,cq T s u i->cq T V9 f bR->bb VF (Vp++VD) T (i++bR)->C u T:=by
 let⟨k,N,s,@VL,Y,aq,a,p⟩:=e;unfold eI at a;split at a
 ·rename_i WC D;split at a
  ·rename_i bI;let⟨f,ap,@as,j,gi,W,W⟩:=Y.out D;refine⟨f,j,z b WC f _ gi bI,?_⟩;let⟨@⟨VI,Vu⟩,t,A⟩:=bB.mp a;let⟨@⟨E,VY⟩,F,c⟩:=bB.mp A;refine⟨k,N,VI,Vu,Y,aq,t,λVj Vt U i G VG H=>?_⟩;let⟨VQ,@VD,I,VX,VN⟩:=lV G VG F;dsimp only at c;split at c
   ·rename_i o J;let⟨@⟨Wh,V9⟩,M,P⟩:=b9.mp c;cases P;let⟨a1,Vp,@m,q,cp,r,S⟩:=I.out J;rw[j]at q;cases q;have v:bb b N Vt ((Vp++VD)++m):=H.hK (VN.symm.trans ((e1 VD S.symm).trans (by
     rw[bk];exact c6)))
    have w:=cO.mp v.aq;refine⟨o,E,_,V9,Vp,VD,cp,VX,w.1,M,λu T O VE lP hh l=>?_⟩;have al:bC T (VY.set g<|Z .dK) B m:=r.mono l.tup λh am n d=>l.keep h n d λe=>w.2.2 h e h am rfl;let⟨x,@Q,y,an⟩:=al.back hh j;rw[n8]at y;refine p u T x O y lP ((v.trans l r.chg).less (ab:=Q) ?_);rw[bk];refine (dZ x c6).trans ?_;rw[<-bk];refine (e1 O an).trans ?_;rw[bk];refine c6.trans ?_;rw[bk];refine c6.trans ?_;rw[bk,bk];refine (dZ O ?_);exact c6
   ·cases c
  ·cases a
 ·cases a
section
variable{a:aL}
def uh:∀(b:aD) (o:ai) (f:au) (Vp:List aj),cq b o f Vp->g4 o=V->kd R "list" f b:=by
 intro b o f Vp e d;cases o with
 |lst E=>let⟨h,@w,rfl,t,W⟩:=e;exact .inl ⟨rfl,w,dw.of t⟩
 |hJ E=>let⟨h,w,@Q,rfl,t,W⟩:=e;exact .inl ⟨rfl,w,dw.of t⟩
 |_=>cases d
def B0:∀(b:aD) (o:ai) (f:au) (Vp:List aj),cq b o f Vp->vo o=V->kd R "dict" f b:=by
 intro b o f Vp e d;cases o with
 |dJ E=>let⟨h,@w,rfl,t,W⟩:=e;exact .inr (.inr<|.inl ⟨rfl,.inl ⟨w,t⟩⟩)
 |aw E=>let⟨h,@w,rfl,t,W⟩:=e;exact .inr (.inr<|.inl ⟨rfl,.inr ⟨w,t⟩⟩)
 |_=>cases d
def wa{bc:ai->List ai->Option (ai×ai)}{d:bl}{S:List bl}(c:∀b o f Vp,cq b o f Vp->ty o=V->kd a.K Vv f b)(bT:q7 Vv)(WB:nZ Vv name id)(bI:pe (.builtin id)=pure (.type "method_descriptor"))(h:mM a id bc)(i:bG a n (fA g))(j:fV a (d::S) L)(k:hG n name a.env (bJ n a.env)=bJ n a.env:=by rfl)(m:((d9 l<|bP (d::S) a.env).all (λf=>!f.1)&&(m4 l<|nk [] a.env).all (λf=>f.1.isSome)
   && decide ((d::S).length+([]:List nT).length+(if ([]:List nT).isEmpty then 0 else 1)<30))=V:=by rfl)(p:(WH.endLine==l.line)=V:=by rfl)(Vy:bP (d::S) a.env=(aA,bJ d a.env)::bP S a.env:=by rfl)(q:(d9 l<|bP S a.env).any (·.1)=aA:=by rfl):
  bh a (.Call (.Attribute n name WH) (d::S) [] l) (eI ty g bc L):=
 d6 (H3 bT WB bI h i j k m p Vy q) λB b C e=>by
  let⟨@f,r,t,A⟩:=BQ c e;exact⟨f,r,t,A⟩
def R7{bc:ai->List ai->Option (ai×ai)}(c:∀b o f Vp,cq b o f Vp->ty o=V->kd a.K Vv f b)(bT:q7 Vv)(WB:nZ Vv name id)(bI:pe (.builtin id)=pure (.type "method_descriptor"))(d:mM a id bc)(h:bG a n (fA g))(i:hG n name a.env (bJ n a.env)=bJ n a.env:=by rfl)(j:(WH.endLine==l.line)=V:=by rfl):
  bh a (.Call (.Attribute n name WH) [] [] l) (eI ty g bc aH):=
 d6 (Sz bT WB bI d h i j) λB b C e=>by
  let⟨@f,m,t,A⟩:=BQ c e;refine⟨f,m,t,?_⟩;let⟨k,N,s,@VL,Y,aq,q,p⟩:=A;cases q;exact p [] b N [] Y ⟨rfl,rfl⟩ (by rw[bQ];exact bb.perm aq (List.Perm.refl _))
@[simp] def gW:ai->List ai->Option (ai×ai):=λo E=>match o,E with
 |.lst w,[.im v]=>if w.length<100000 then Z (.im .a3,.lst<|w++[v]) else X
 |_,_=>X
def wy{x:Nat}(e:x<100000):x<sizeLine:=eJ e ∅
def NA:mM a "list.append" gW:=by
 intro G j B b f Vj u VH C y c e g;let⟨o,E,s,V9,Vp,@VD,i,k,aq,d,p⟩:=g;unfold gW at d;split at d
 ·split at d
  ·rename_i l;cases d;let⟨h,@VJ,rfl,t,A,rfl⟩:=i;let⟨z,D,q,@r,rfl,@⟨m,rfl⟩,@⟨rfl,rfl⟩,rfl⟩:=k;have o:fx b h:=⟨_,t,(λ_ d=>by cases d),(λ_ W d=>by cases d)⟩;refine K0 G j B b _ _ u VH C y c e ⟨h,VJ,z,rfl,rfl,t,wy (by rw[<-A.length];exact l),p .a3 _ [] [h] ⟨rfl,rfl⟩ ?_ (bb.chg (.head _) o (eB _ _) λf n=>by simpa using n)⟩;exact⟨h,_,rfl,d_,(A.snoc m).mono<|cC.lj o,rfl⟩
  ·cases d
 ·cases d
@[simp] def v3:ai->List ai->Option (ai×ai):=λo E=>match o,E with
 |.lst w,[]=>(w.getLast?).map λv=>(.im v,.lst w.dropLast)
 |_,_=>X
def bM.last{E:List aa}{w:List au}{v:aa}(e:bM b E w)(d:E.getLast?=Z v):∃u,w[w.length-1]?=Z u/\cC b v u/\bM b E.dropLast w.dropLast:=by
 rw[List.getLast?_eq_getElem?]at d;let⟨@u,a,c⟩:=e.get d;refine⟨u,by rw[<-e.length];exact a,c,?_⟩;rw[D1,D1,<-e.length];exact e.take _
def QL:mM a "list.pop" v3:=by
 intro G j B b f Vj u VH C y c e g;let⟨o,E,s,V9,Vp,@VD,i,k,aq,d,p⟩:=g;unfold v3 at d;split at d
 ·let⟨@v,l,m⟩:=b9.mp d;cases m;let⟨h,@VJ,rfl,t,A,rfl⟩:=i;let@⟨rfl,rfl⟩:=k;let⟨@z,n,q,r⟩:=A.last l;have o:fx b h:=⟨_,t,(λ_ d=>by cases d),(λ_ W d=>by cases d)⟩;refine Pb G j B b _ _ u VH C y c e ⟨h,VJ,z,rfl,rfl,t,n,p z _ [] [h] ⟨q.mono<|cC.lj o,rfl⟩ ?_ (bb.chg (.head _) o (eB _ _) λf w=>by simpa using w)⟩;exact⟨h,_,rfl,d_,r.mono<|cC.lj o,rfl⟩
 ·cases d
@[simp] def k7:ai->List ai->Option (ai×ai):=λo E=>match o,E with
 |.lst w,[.im (.int g)]=>if 0<=g/\g<w.length then (w[g.toNat]?).map λv=>(.im v,.lst<|w.eraseIdx g.toNat) else X
 |_,_=>X
theorem bM.erase:∀{E:List aa}{w:List au} (x:Nat),bM b E w->bM b (E.eraseIdx x) (w.eraseIdx x)
 |[],w,x,e=>by cases (show w=[] from e);exact rfl
 |v::E,w,0,e=>by let⟨u,@s,rfl,t,A⟩:=e;exact A
 |v::E,w,x+1,e=>by let⟨u,@s,rfl,t,A⟩:=e;exact⟨u,_,rfl,t,A.erase x⟩
def QN:mM a "list.pop" k7:=by
 intro G j B b f Vj u VH C y c e i;let⟨o,E,s,V9,Vp,@VD,k,l,aq,d,p⟩:=i;unfold k7 at d;split at d
 ·rename_i g;split at d
  ·rename_i Vl;let⟨@v,m,n⟩:=b9.mp d;cases n;let⟨h,@VJ,rfl,t,A,rfl⟩:=k;let⟨z,D,F,@H,rfl,@⟨q,rfl⟩,@⟨rfl,rfl⟩,rfl⟩:=l;cases (show z=.int g from q);let⟨@z,r,w⟩:=A.get m;have o:fx b h:=⟨_,t,(λ_ d=>by cases d),(λ_ W d=>by cases d)⟩;have I:VJ.length<=sizeLine:=(y.a5 h _ t).1;have J:=nR;refine Mh G j B b _ _ u VH C y c e ⟨h,VJ,g,g.toNat,z,rfl,rfl,t,⋯,by have:=A.length;lia,uD Vl.1 (by rw[<-A.length];exact Vl.2),r,p z _ [] [h] ⟨w.mono<|cC.lj o,rfl⟩ ?_ (bb.chg (.head _) o (eB _ _) λf x=>by simpa using x)⟩;exact⟨h,_,rfl,d_,(A.erase _).mono<|cC.lj o,rfl⟩
  ·cases d
 ·cases d
@[simp] def kI:ai->List ai->Option (ai×ai):=λo E=>match o,E with
 |.lst w,[.lst VJ]=>if w.length+VJ.length<=100000 then Z (.im .a3,.lst<|w++VJ) else X
 |_,_=>X
def TB:mM a "list.extend" kI:=by
 intro G j B b f Vj u VH C y i k l;let⟨o,E,s,V9,Vp,@VD,m,n,aq,d,p⟩:=l;unfold kI at d;split at d
 ·split at d
  ·rename_i q;cases d;let⟨h,@VJ,rfl,t,A,rfl⟩:=m;let⟨z,D,v,@w,rfl,⟨c,@Q,rfl,r,e,rfl⟩,@⟨rfl,rfl⟩,rfl⟩:=n;have o:fx b h:=⟨_,t,(λ_ d=>by cases d),(λ_ W d=>by cases d)⟩;refine Mx G j B b _ _ u VH C y i k ⟨h,c,VJ,Q,rfl,rfl,t,r,mO (by rw[<-A.length,<-e.length];exact q),p .a3 _ [] [h] ⟨rfl,rfl⟩ ?_ (bb.chg (.head _) o (eB _ _) λf g=>by
    rw[gp]at g;exact dW _ g)⟩
   exact⟨h,_,rfl,d_,(A.app e).mono<|cC.lj o,rfl⟩
  ·cases d
 ·cases d
def pg(a:aL)(Wb:ai->ai->ai->Option ai):Prop:=(
 zW a λn g u b C=>∃o q v V9 Vp VD,cq b o n Vp/\cq b q g []/\cq b v u VD/\(Vp++VD).Nodup/\Wb o q v=Z V9/\∀T y,cq T V9 n y->bb b (Vp++VD) T y->C T)
@[simp] def n_(o q v:ai):Option ai:=match o,q,v with
 |.lst w,.im<|.int g,.im v=>(mK w.length g).map λr=>.lst (w.set r v)
 |_,_,_=>X
theorem bM.set{b:aD}{v:aa}{u:au}(H:cC b v u):∀{E:List aa}{w:List au} (x:Nat),bM b E w->bM b (E.set x v) (w.set x u)
 |[],w,x,e=>by cases (show w=[] from e);exact rfl
 |d::E,w,0,e=>by let⟨J,@s,rfl,t,A⟩:=e;exact⟨u,s,rfl,H,A⟩
 |d::E,w,x+1,e=>by let⟨J,@s,rfl,t,A⟩:=e;exact⟨J,_,rfl,t,bM.set H x A⟩
def H5:pg a n_:=by
 intro G j B b n g u c e J C y k i l m;let⟨o,q,v,V9,Vp,@VD,s,i_,w,aq,d,p⟩:=m;unfold n_ at d;split at d
 ·let⟨@r,x,z⟩:=b9.mp d;cases z;let⟨h,@VJ,rfl,t,A,rfl⟩:=s;let@⟨hd,rfl⟩:=w;have o:fx b h:=⟨_,t,(λ_ d=>by cases d),(λ_ W d=>by cases d)⟩;refine JR G j B b _ _ _ c e J C y k i l ⟨h,VJ,_,r,rfl,i_.1,t,by rw[<-A.length];exact x,p _ [h] ?_ (bb.chg (.head _) o (eB _ _) λf D=>by simpa using D)⟩;exact⟨h,_,rfl,d_,(bM.set hd r A).mono<|cC.lj o,rfl⟩
 ·cases d
@[simp] def iY(g:Nat)(a:ay ai)(Wb:ai->ai->ai->Option ai):eW:=λv k=>match k[g]? with
 |some (Z _)=>(a k).bind λm=>if m.1.el=V then match m.2[g]? with
   |some (Z o)=>(Wb o m.1 v).map λV9=>m.2.set g (Z V9)
   |_=>X
  else X
 |_=>X
def Bb{VV:List Nat}{q:bl}{w:ay ai}{Wb:ai->ai->ai->Option ai}{VC:Pos}(I:bG a n (fA g))(J:bh a q w)(L:pg a Wb)(c:∀u,i2 (.Subscript n q VC) a.env u=(do
   let i <-holding [u] (bJ n a.env)
   let m <-holding [u,i] (bJ q a.env)
   standAt VC
   holding [u,i,m] (p9 i m u)
   release [u,i,m] []):=by intro W;rfl):fO a VV (.Subscript n q VC) (iY g w Wb):=by
 refine r3 (yG I J L c) λu B b C M=>?_;let⟨k,N,v,Vp,@VL,Y,VX,aq,j,p⟩:=M;unfold iY at j;split at j
 ·rename_i WC O;let⟨f,bm,@bn,r,gi,W,W⟩:=Y.out O;let⟨@⟨cM,Vu⟩,t,A⟩:=bB.mp j;split at A
  ·rename_i P;refine⟨f,r,k,N,cM,Vu,Y,(cO.mp aq).1,t,λbs Vt U bv R i_ l=>?_⟩;obtain rfl:=i_.el P;rw[bQ]at l;have S:=cO.mp aq;dsimp only at A;split at A
   ·rename_i o al;let⟨@V9,am,an⟩:=b9.mp A;cases an;let⟨ca,x,@z,D,cp,E,ap⟩:=R.out al;rw[r]at D;cases D;have as:cq Vt v u Vp:=VX.mono l.tup λh c n d=>l.keep h n d λe=>S.2.2 h e h c rfl;have F:bb b (N++Vp) Vt ((x++Vp)++z):=by
     have a1:bb b (N++Vp) b (N++Vp):=bb.perm aq (List.Perm.refl _);have:=bb.trans (U:=N) (Vp:=Vp) a1 l VX.chg;refine this.hK ((e1 Vp ap.symm).trans ?_);rw[bk];exact c6
    have G:=cO.mp F.aq;refine⟨o,cM,v,V9,x,Vp,cp,i_,as,G.1,am,λT y a2 s=>?_⟩;have bd:bC T (Vu.set g<|Z .dK) B z:=E.mono s.tup λh c n d=>s.keep h n d λe=>G.2.2 h e h c rfl;let⟨be,@Q,H,bi⟩:=bd.back a2 r;rw[n8]at H;exact p B T be c4.refl H ((F.trans s E.chg).less<|bi.trans c6)
   ·cases A
  ·cases A
 ·cases j
end
end L2
namespace L2
open Spec PyProof.Rows PySem.W
variable{VT:List Int}{m:Array Nat}{VM:Type}
def Qr(I:List VM)(v:VM):(range I.length).map (λg=>I.getD g v)=I:=by
 apply wM
 ·simp
 ·intro g t A;simp[List.getD,A]
def uF{I:List VM}{v:VM}(e:c5 I.length m):(m.toList.map λg=>I.getD g v).Perm I:=by
 have:=tB (λg=>I.getD g v) e;rw[Qr]at this;exact this
theorem vq{VM Wm:Type}{N:VM->Wm->Prop}:∀{a:List VM}{b:List Wm},a.length=b.length->(∀(g:Nat) h c,a[g]?=Z h->b[g]?=Z c->N h c)->dE N a b
 |[],[],_,_=>.nil
 |h::I,c::l,e,F=>.cons (F 0 h c rfl rfl) (vq ⇑e λg f z t A=>F (g+1) f z ⇑t ⇑A)
 |[],_::_,e,_=>by simp at e
 |_::_,[],e,_=>by simp at e
section
variable{Vs:bE}{H:bg}{O:bq}{Vo:ae->ao->Prop}{j:ao}{Vj:List ae}
def Am{VE:aj}{W0:Nat}{Vz:PySem.Fin->ao->Prop}(Q:Nat->Int)(VO:gR)(b:j.heap.get? VE=Z (fI "list" Vj.toArray W0))(y:2<=Vj.length->∀a:a4,(∀c n,c≠VE->j.heap.get? c=Z n->a.get? c=Z n)->∀C:gR->ao->Prop,C VO {j with heap:=a}->wpAny (aO Vs H) O (Ay Vj.toArray) C Vo {j with heap:=a})(z:∀a:a4,(∀c n,c≠VE->j.heap.get? c=Z n->a.get? c=Z n)->fY Vj.length Q (fo Vs H O VO<|Vj.toArray.zip Vj.toArray) {j with heap:=a})(B:Vj.length<1001\/∀r,1<=r->r<Vj.length->Q (r-1)<=Q r)(D:Vj.length<=1000)(e:∀(m:Array Nat) (Vk:a4),c5 Vj.length m->ia Q m Vj.length->(∀c n,c≠VE->j.heap.get? c=Z n->Vk.get? c=Z n)->(∃d,Vk.get? VE=Z (fI "list" (m.toList.map λg=>Vj.getD g ae.none).toArray d))->
   Vz (.done<|.ret .none) {j with heap:=Vk}):wpAny (aO Vs H) O (bH.«list.sort» ⟨[.ref VE],[]⟩) Vz Vo j:=by
 have w:Vj.length<=sizeLine:=dc D ∅;rw[list_sort_plain];have N:VE<j.heap.objs.size:=cA b;refine aB (listItems_at b rfl (aB (Cn b rfl ?_ (hsz:=by rw[cN];exact w) (hsz2:=by show 0<=_;exact hl _))));have l:=B4 b (λ_=>#[]);generalize R:(if (#[]:Array ae).size==Vj.toArray.size then W0 else W0+1)=x at l;refine aB (seqEpoch_at l rfl (aB (wpAny_newTuple (aB<|vk<|f9 ?_) ⇑w)));have f:∀c n,c≠VE->j.heap.get? c=Z n->(((j.heap.update VE<|ba.mapSeq λ_=>#[]).push<|fI "tuple" Vj.toArray.toList.toArray 0).push<|fI "list" ([]:List ae).toArray 0).get? c=Z n:=λc n i d=>
  cG _ (cG _<|(ip _ _<|eZ i).trans d);have Wl:(((j.heap.update VE<|ba.mapSeq λ_=>#[]).push<|fI "tuple" Vj.toArray.toList.toArray 0).push<|fI "list" ([]:List ae).toArray 0).get? VE=Z (fI "list" #[] x):=
  cG _ (cG _ l);show wpAny (aO Vs H) O _ Vz Vo {j with heap:=((j.heap.update VE<|ba.mapSeq λ_=>#[]).push<|fI "tuple" Vj.toArray.toList.toArray 0).push (fI "list" ([]:List ae).toArray 0)};generalize ((j.heap.update VE<|ba.mapSeq λ_=>#[]).push<|fI "tuple" Vj.toArray.toList.toArray 0).push (fI "list" ([]:List ae).toArray 0)=a at f Wl ⊢;have fin:∀(Y:bL) (m:Array Nat),c5 Vj.length m->ia Q m Vj.length->arrOf Y=m.map (br<|Vj.toArray.zip Vj.toArray)->hQ Y=X->
   wpAny (aO Vs H) O (do
    let G:=(<-seqEpoch VE) != x
    bH.List.listUpdate (.ref VE) λ_=>(arrOf Y).map (·.2)
    if let Z d:=hQ Y then rule "list.sort.comparison-raised";throw d
    if G then rule "list.sort.modified";raiseError "ValueError" "list modified during sort"
    ret .none) Vz Vo {j with heap:=a}:=λY m k p q t=>by
  have out:=kat_snds (ks:=Vj) (vs:=Vj) rfl q;rw[out,t];refine aB (seqEpoch_at (s:={j with heap:=a}) Wl rfl (aB (Cn (s:={j with heap:=a}) Wl rfl ?_ (hsz:=hl _) (hsz2:=by
   show (List.toArray<|m.toList.map λg=>Vj.getD g ae.none).size<=_;rw[cN,a8,df,k.size];lia))))
  simp only[bne_self_eq_false,hi,fN];refine aR (e m _ k p (λc n i d=>(ip _ _<|eZ i).trans<|f c n i d) ⟨_,B4 Wl λ_=>_⟩)
 dsimp only;by_cases A:Vj.toArray.size<2
 ·rw[aF A,aF A];refine aB (aR ?_);rw[StateT.run_pure];apply aB;apply aR;have u:Vj.length<2:=by simpa using A
  refine fin (bL.mk' general' (Vj.toArray.zip Vj.toArray) #[] 7 X) (range Vj.length).toArray (List.Perm.refl _) (λg r S T=>?_) ?_ rfl
  ·have:g=r:=⋯
   subst this;exact mU _
  ·have:=kas_range (Vj.toArray.zip Vj.toArray);rw[show (Vj.toArray.zip Vj.toArray).size=Vj.length by simp]at this;exact this.symm
 ·rw[aJ A,aJ A];have u:2<=Vj.length:=by simpa using A
  refine aB (y u a f _ ?_)
  ·have I:=z a f;have lK:=kas_range (Vj.toArray.zip Vj.toArray);rw[show (Vj.toArray.zip Vj.toArray).size=Vj.length by simp]at lK;have run:=Li (Vo:=Vo) (C:=λ_ Y Vm=>Vm={j with heap:=a}/\∃m,c5 Vj.length m/\ia Q m Vj.length/\arrOf Y=m.map (br<|Vj.toArray.zip Vj.toArray)/\hQ Y=X) I
    u B λL U h c o v=>⟨rfl,L,h,c,o,v⟩;unfold v5 at run;rw[lK]at run;refine aB (hk run (λs Vm M=>?_) λ_ W d=>d);let⟨J,Y⟩:=s;let@⟨rfl,⟨@m,k,p,q,t⟩⟩:=M;exact fin Y m k p q t
end
section
variable{a:aL}{G:List (aj×ba)}{B:L2.a6}{b:aD}{j:ao}
def Gr(bm:a.calm=V){h:aj}{VJ:List au}{VA:List ae}{x:Nat}{Vv:String}{n:ba}{C:cW}(Q:Nat->Int)(VO:gR)(y:aI a G B b j)(F:bY VJ VA)(S:Vv = "list" \/ Vv = "tuple")(d:j.heap.get? h=Z n)(aG:n.cls=.type Vv)(T:n.data=.seq VA.toArray x)(bn:VJ.length<=1000)(U:2<=VA.length->∀(e:a4) (Vq:Nat),(∀c n,j.heap.get? c=Z n->e.get? c=Z n)->∀(O:bq) (Vo:ae->ao->Prop) (C:gR->ao->Prop),C VO {j with heap:=e,toks:=Vq}->wpAny (aO a.prog a.w) O (Ay VA.toArray) C Vo {j with heap:=e,toks:=Vq})(al:∀(e:a4) (Vq:Nat),(∀c n,j.heap.get? c=Z n->e.get? c=Z n)->fY VA.length Q (fo a.prog a.w a.A.in1.in1 VO<|VA.toArray.zip VA.toArray) {j with heap:=e,toks:=Vq})(am:VA.length<1001\/∀r,1<=r->r<VA.length->Q (r-1)<=Q r)(p:∀(m:Array Nat) I,c5 VA.length m->ia Q m VA.length->b I=X->C (.ref I) (upd b I<|.lst<|m.toList.map λg=>VJ.getD g .a3)):
  wpAny (aO a.prog a.w) a.A (call (.builtin "sorted") [.ref h]) (eM a G B C) a.cR j:=by
 have bs:VJ.length=VA.length:=F.length;have L:VA.length<=sizeLine:=dc ⋯ (show 1000<=sizeLine by decide);refine ui xT xE yQ (xw _) ?i
 case i=>
  unfold bH.«sorted»;refine aB (m:=Ab "sorted" 1 1 _) (aR (aB (wpAny_collect_seq h S d aG T (λVk s=>?_) (by rw[cN];exact L))));show wpAny _ _ (qa VA >>= _) _ _ _;refine aB (vk ?_ L);have M:(Vk.push<|fI "list" VA.toArray 0).get? Vk.objs.size=Z (fI "list" VA.toArray 0):=dM _ rfl;have bK:∀c n,j.heap.get? c=Z n->(Vk.push<|fI "list" VA.toArray 0).get? c=Z n:=λc n d=>cG _ (s c n d);have N:aI a G B b {j with heap:=Vk}:=y.kept (V1:=j.toks) s;have P:∀c n,j.heap.get? c=Z n->c≠Vk.objs.size:=λc n d=>c0 (cA<|s c n d);refine aB (f9<|iR yc ⟨_,M,rfl⟩ z6 ?z<|wJ _)
  case z=>
   refine Am (j:={j with heap:=Vk.push (fI "list" VA.toArray 0)}) Q VO M (λA e v C an=>U A e j.toks (λc n k=>v c n (P c n k)<|bK c n k) _ _ C an) (λe v=>al e j.toks λc n k=>v c n (P c n k)<|bK c n k) am ⋯ λm A D ap as ⟨a1,a2⟩=>⟨_,rfl,aR ⟨_,rfl,?_⟩⟩;have bd:b Vk.objs.size=X:=N.a5.fresh (bD _);have be:∀c n,Vk.get? c=Z n->c≠Vk.objs.size:=λc n d=>c0 (cA d);refine⟨.ref Vk.objs.size,upd b Vk.objs.size<|.lst<|m.toList.map λg=>VJ.getD g .a3,?_,rfl,p m _ D ap bd⟩;refine N.laid (V1:=j.toks) (λc J d=>as c J (be c J d)<|cG _ d) (bD _) ⟨?_,_,a1,?_,a2⟩
   ·rw[a8,df,D.size];lia
   ·refine vq ↥0 λg u J t A=>?_;rw[d3]at t A;cases E:m.toList[g]? with
    |none=>rw[E]at t;cases t
    |some q=>
     rw[E]at t A;cases t;cases A;have R:q<VA.length:=gI.mp (D.mem_iff.mp<|eC E);let⟨@J,o,bi⟩:=F.get (g:=q) (f:=VJ[q]'⋯) (by simp[show q<VJ.length by lia]);rw[dN R]at o;have o:=Option.some.inj o;simp only[List.getD,dN R,dN (show q<VJ.length by lia),qI];rw[o];exact bi
end
def o7(VT:List Int)(g:Nat):Int:=(VT.getD g 0)
def JZ(aq:VT.Nodup):∀g r,g<VT.length->r<VT.length->o7 VT g=o7 VT r->g=r:=λg r Vl a d=>by
 unfold o7 at d;rw[cK,cK,dN Vl,dN a]at d;have b:VT[g]=VT[r]:=d;rcases tX g r with e|e|e
 ·exact absurd b ((n1.mp aq) g r Vl a e)
 ·exact e
 ·exact absurd b.symm ((n1.mp aq) r g a Vl e)
def LO(a:c5 VT.length m)(e:ia (o7 VT) m VT.length)(aq:VT.Nodup):(m.toList.map λg=>VT.getD g 0).Pairwise (· < ·):=by
 rw[n1];intro g r Vl b f;have Vy:=a.size;have i:g<VT.length:=by simpa [Vy] using Vl
 have c:r<VT.length:=by simpa [Vy] using b
 have ne:=a.ne (JZ aq) f c;have le:=e g r ⋯ c;have L:∀q (d:q<(m.toList.map λg=>VT.getD g 0).length),(m.toList.map λg=>VT.getD g 0)[q]=bp (o7 VT) m q:=λq d=>by
  have h:q<m.size:=by simpa using d
  rw[Ew,Hn];show _=VT.getD (m.getD q 0) 0;simp[Array.getD,h]
 rw[L g Vl,L r b];lia
section
variable{a:aL}
theorem u6{b:aD}:∀{VT:List Int}{VA:List ae},bY (VT.map au.int) VA->∀(g:Nat),g<VT.length->∃D,VA[g]?=Z (.int (VT.getD g 0) D)
 |x::s,_,.cons h c,0,e=>by let⟨@D,rfl⟩:=h;exact⟨D,rfl⟩
 |x::s,_,.cons h c,g+1,e=>by
  let⟨@D,d⟩:=u6 (b:=b) c g ⇑e;exact⟨D,by simpa using d⟩
def Oj(o:a.calm=V):eD a (.builtin "sorted") (λw b C=>∃(h:aj) (VT:List Int),w=[.ref h]/\b h=Z (.lst<|VT.map au.int)/\VT.Nodup/\VT.length<=1000/\
  ∀I (k:List Int),b I=X->k.Perm VT->k.Pairwise (· < ·)->C (.ref I) (upd b I<|.lst<|k.map au.int)):=by
 intro G j B b w VH C y s e;let⟨h,@VT,rfl,v,aq,z,p⟩:=e;let⟨@J,rfl,E⟩:=h2 s;cases E;let@⟨i,⟨VA,@x,c,d⟩⟩:=y.a5 h _ v;have l:VA.length=VT.length:=by rw[<-c.length,a8]
 refine Gr o (o7 VT) oneType' y c (.inl rfl) d rfl rfl (by rw[a8];exact z) (λA F Vq q O Vo C H=>?_) (λF Vq q=>?_) (.inl ⋯) λm I f n aW=>?_
 ·refine kas_kind (T:=ae.type "int") A (λu L=>?_) ∅ ∅ H;let⟨@g,Vl⟩:=vC L;let⟨@D,bI⟩:=u6 (b:=b) c g (by rw[<-l];exact (eX.mp Vl).1);rw[Vl]at bI;cases bI;exact xh rfl
 ·intro g r ab Vl Q p;let⟨@D,t⟩:=u6 (b:=b) c g ⋯;let⟨@J,A⟩:=u6 (b:=b) c r ⋯;unfold fo;rw[vi rfl,vi rfl,cK,cK,t,A];show wpAny _ _ (keyLt' oneType' (.int _ D)<|.int _ J) _ _ _;rw[keyLt'_oneType];exact oneLt_int p
 ·rw[l]at f n;have M:(m.toList.map λg=>(VT.map au.int).getD g .a3)=(m.toList.map λg=>VT.getD g 0).map au.int:=by
   rw[fl];refine lD λq N=>?_;have P:q<VT.length:=gI.mp (f.mem_iff.mp N);show (VT.map au.int).getD q .a3=au.int (VT.getD q 0);simp[List.getD,P]
  rw[M];exact p I _ aW (uF f) (LO f n aq)
end
end L2
namespace L2
open Spec PyProof.Rows
section
variable{a:aL}
def kN(lt:aa->aa->Bool)(f:aa):List aa->List aa
 |[]=>[f]
 |z::s=>if lt f z=V then f::z::s else z::kN lt f s
def gE(lt:aa->aa->Bool):List aa->List aa
 |[]=>[]
 |f::s=>kN lt f (gE lt s)
def t7:aa->aa->Bool
 |.int g,.int r=>decide (g<r)
 |_,_=>aA
def s6:List aa->Option (List Int)
 |[]=>Z []
 |.int g::s=>(s6 s).map λj=>g::j
 |_::_=>X
@[simp] def z2:ic:=λE=>match E with
 |[.lst f]=>(s6 f).bind λVT=>if VT.Nodup/\VT.length<=1000 then Z (.lst<|gE t7 f) else X
 |_=>X
def mB(f:Int):List Int->List Int
 |[]=>[f]
 |z::s=>if f<z then f::z::s else z::mB f s
def pQ:List Int->List Int
 |[]=>[]
 |f::s=>mB f (pQ s)
theorem D4(f:Int):∀I:List Int,kN t7 (.int f) (I.map .int)=(mB f I).map .int
 |[]=>rfl
 |z::s=>by
  rw[b4,kN,mB,t7];by_cases e:f<z
  ·rw[aF ⇑e,aF e];rfl
  ·rw[aJ ⇑e,aJ e,D4 f s];rfl
theorem Hz:∀I:List Int,gE t7 (I.map .int)=(pQ I).map .int
 |[]=>rfl
 |f::s=>by rw[b4,gE,Hz s,D4];rfl
theorem AO(f:Int):∀I:List Int,(mB f I).Perm (f::I)
 |[]=>List.Perm.refl _
 |z::s=>by
  rw[mB];split
  ·exact List.Perm.refl _
  ·exact ((AO f s).cons z).trans (List.Perm.swap f z s)
theorem zX:∀I:List Int,(pQ I).Perm I
 |[]=>List.Perm.refl _
 |f::s=>(AO f _).trans ((zX s).cons f)
theorem DA(f:Int):∀I:List Int,I.Pairwise (·<=·)->(mB f I).Pairwise (·<=·)
 |[],_=>eB _ _
 |z::s,e=>by
  let⟨t,A⟩:=hq.mp e;rw[mB];split
  ·rename_i b;refine hq.mpr ⟨λi a=>?_,e⟩;rcases cm.mp a with rfl|a
   ·lia
   ·have:=t i a;lia
  ·rename_i b;refine hq.mpr ⟨λi a=>?_,DA f s A⟩;rcases cm.mp ((AO f s).mem_iff.mp a) with rfl|a
   ·lia
   ·exact t i a
theorem Fy:∀I:List Int,(pQ I).Pairwise (·<=·)
 |[]=>List.Pairwise.nil
 |f::s=>DA f _ (Fy s)
def MW{I:List Int}(e:I.Nodup):(pQ I).Pairwise (· < ·):=by
 have t:=Fy I;have A:(pQ I).Nodup:=(zX I).nodup_iff.mpr e;exact SP (λh c f z=>⋯) t A
theorem Fw:∀{I l:List Int},I.Perm l->I.Pairwise (· < ·)->l.Pairwise (· < ·)->I=l
 |[],l,e,_,_=>e.nil_eq
 |h::I,[],e,_,_=>absurd e.length_eq ↥0
 |h::I,c::l,e,f,g=>by
  have a:=hq.mp f;have b:=hq.mp g;have d:h=c:=by
   rcases cm.mp (e.mem_iff.mp<|.head _) with i|i
   ·exact i
   ·rcases cm.mp (e.mem_iff.mpr<|.head _) with z|z
    ·exact z.symm
    ·have t:=a.1 c z;have A:=b.1 h i;omega
  subst d;rw[Fw e.cons_inv a.2 b.2]
theorem Ce:∀{f:List aa}{VT:List Int},s6 f=Z VT->f=VT.map .int
 |[],VT,e=>by cases e;rfl
 |.int g::s,VT,e=>by
  rw[s6]at e;let⟨j,t,rfl⟩:=b9.mp e;rw[Ce t];rfl
 |.a3::_,_,e=>by cases e
 |.av _::_,_,e=>by cases e
 |.str _::_,_,e=>by cases e
 |.tup _::_,_,e=>by cases e
 |.fn _::_,_,e=>by cases e
 |.aW _::_,_,e=>by cases e
 |.fd _::_,_,e=>by cases e
theorem FU{b:aD}:∀{VT:List Int}{Vj:List au},bM b (VT.map .int) Vj->Vj=VT.map au.int
 |[],Vj,e=>e
 |x::s,Vj,e=>by
  let⟨u,D,rfl,t,A⟩:=e;cases (show u=.int x from t);rw[FU A];rfl
theorem Fj{b:aD}:∀VT:List Int,bM b (VT.map .int) (VT.map au.int)
 |[]=>rfl
 |x::s=>⟨.int x,_,rfl,rfl,Fj s⟩
def T1(g:a.calm=V)(k:a.A.units+20<bW):gV a (.builtin "sorted") z2:=by
 refine (Oj g).imp λw b C ⟨E,v,h,d,p⟩=>?_;unfold z2 at d;split at d
 ·rename_i f;let⟨VT,i,c⟩:=bB.mp d;split at c
  ·rename_i e;cases c;let⟨u,rfl,W,m,w,rfl,t,A,W⟩:=gb h;cases Ce i;cases FU A;refine⟨m,VT,rfl,t,e.1,e.2,λI n aW VN j=>?_⟩;rw[Hz]at p;rw[Fw (VN.trans (zX VT).symm) j (MW e.1)];exact b_.l p aW (Fj _)
  ·cases c
 ·cases d
def Lk(b:a.A.units+20<bW):pg a n_:=H5
end
end L2
namespace L2
open Spec PyProof.Rows PySem.W
section
variable{a:aL}{G:List (aj×ba)}{B:a6}{b:aD}{j:ao}
def aI.Sm(y:aI a G B b j)(v:Drawn):aI a G B b {j with drawn:=v}:=⟨y.ok,y.os,y.bare,y.base,y.loc,y.cell,y.free,y.iH,y.pin,y.a5,y.len⟩
end
end L2
namespace L2
open Spec PyProof.Rows
section
variable{a:aL}
def vl:aa->Option et
 |.int g=>Z (.inl g)
 |.str f=>Z (.inr f)
 |_=>X
@[simp] theorem U5(g:Int):vl (.int g)=Z (.inl g):=rfl
@[simp] theorem Vh(f:az):vl (.str f)=Z (.inr f):=rfl
def AZ:et->aa
 |.inl g=>.int g
 |.inr f=>.str f
@[simp] theorem Vf(g:Int):AZ (.inl g)=.int g:=rfl
@[simp] theorem U2(f:az):AZ (.inr f)=.str f:=rfl
def P9{b:aD}{v:aa}{u:au}{q:et}(e:cC b v u)(d:vl v=Z q):u=b6 q:=by
 cases v with
 |int g=>cases d;exact e
 |str f=>cases d;exact e
 |_=>cases d
def fL{VO:Type}[DecidableEq VO](Vx:List (VO×aa))(q:VO)(v:aa):List (VO×aa):=(
 if (Vx.any λa=>decide (a.1=q))=V then Vx.map (λa=>if a.1=q then (a.1,v) else a) else Vx++[(q,v)])
variable{VO:Type}
def ed.any[DecidableEq VO]{b:aD}{q:VO}{I:List (VO×aa)}{l:List (VO×au)}(e:ed b I l):(I.any λa=>decide (a.1=q))=(l.any λa=>decide (a.1=q)):=by
 unfold ed at e;induction e with
 |nil=>rfl
 |cons s _ c=>rw[n4,n4,c,s.1]
def ed.upd[DecidableEq VO]{b:aD}{q:VO}{v:aa}{u:au}(H:cC b v u){I:List (VO×aa)}{l:List (VO×au)}(e:ed b I l):ed b (I.map λa=>if a.1=q then (a.1,v) else a) (l.map λa=>if a.1=q then (a.1,u) else a):=by
 unfold ed at e;induction e with
 |nil=>exact .nil
 |@cons m p _ _ s _ f=>
  rw[b4,b4];refine .cons ?_ f;by_cases d:m.1=q
  ·have c:p.1=q:=s.1.symm.trans d;rw[aF d,aF c];exact⟨s.1,H⟩
  ·have c:¬ p.1=q:=λi=>d (s.1.trans i);rw[aJ d,aJ c];exact s
def Lx{VM Wm:Type}{N:VM->Wm->Prop}{I:List VM}{l:List Wm}{h:VM}{c:Wm}(e:dE N I l)(f:N h c):dE N (I++[h]) (l++[c]):=by
 induction e with
 |nil=>exact .cons f .nil
 |cons s _ a=>exact .cons s a
def ed.put[DecidableEq VO]{b:aD}{q:VO}{v:aa}{u:au}(H:cC b v u){I:List (VO×aa)}{l:List (VO×au)}(e:ed b I l):ed b (fL I q v) (hD l q u):=by
 unfold fL hD;rw[e.any];split
 ·exact e.upd H
 ·exact Lx e ⟨rfl,H⟩
@[simp] def lR:ay ai:=λk=>Z (.aw [],k)
def Ls{VC:Pos}:bh a (.Dict [] [] VC) lR:=by
 refine d6 Mf λB b C ⟨k,N,s,VL,Y,aq,e,p⟩ m c=>?_;cases e;have j:cY b (L2.upd b m<|.aw []):=(cY.refl b).upd c;have f:bb b N b (N++[]):=by rw[bQ];exact bb.perm aq (List.Perm.refl _)
 exact p _ _ N [m] (Y.mono j.tupS λh W n d=>j h n d) ⟨m,[],rfl,d_,.nil,rfl⟩ (f.new j (eB _ _) (λh g=>by rw[cb.mp g];exact c) Y.chg)
@[simp] def eP(o q v:ai):Option ai:=match o,q,v with
 |.lst w,.im<|.int g,.im v=>(mK w.length g).map λr=>.lst (w.set r v)
 |.dJ Vx,.im q,.im v=>(vl q).bind λa=>if Vx.length<100000 then Z (.dJ<|fL Vx a v) else X
 |.aw Vx,.im<|.tup q,.im v=>if aa.keys 7 q=V/\Vx.length<100000 then Z (.aw<|fL Vx q v) else X
 |_,_,_=>X
def zE(E:a.A.units+20<bW):pg a eP:=by
 intro G j B b n g u F H J C y k i l I;let⟨o,q,v,V9,Vp,@VD,m,i_,r,aq,d,p⟩:=I;unfold eP at d;split at d
 ·exact H5 G j B b n g u F H J C y k i l ⟨_,_,_,V9,Vp,VD,m,i_,r,aq,d,p⟩
 ·let⟨@Q,L,s⟩:=bB.mp d;split at s
  ·rename_i e;cases s;let⟨h,@VJ,rfl,t,A,rfl⟩:=m;let@⟨hd,rfl⟩:=r;have o:fx b h:=⟨_,t,(λ_ d=>by cases d),(λ_ W d=>by cases d)⟩;cases k;have M:=P9 i_.1 L;subst M;refine GQ E y (oc.k t (by rw[<-A.length];exact wy e)) i l λVm x=>⟨_,x,p _ [h] ?_ (bb.chg (.head _) o (eB _ _) λf z=>by simpa using z)⟩;exact⟨h,_,rfl,d_,(ed.put hd A).mono<|cC.lj o,rfl⟩
  ·cases s
 ·split at d
  ·rename_i e;cases d;let⟨h,@VJ,rfl,t,A,rfl⟩:=m;let@⟨hd,rfl⟩:=r;have o:fx b h:=⟨_,t,(λ_ d=>by cases d),(λ_ W d=>by cases d)⟩;cases k;let⟨c,@w,rfl,N,P⟩:=i_.1;refine GQ E y (oc.t t ⟨e.1,c,w,rfl,N,P⟩ (by rw[<-A.length];exact wy e.2)) i l λVm x=>⟨_,x,p _ [h] ?_ (bb.chg (.head _) o (eB _ _) λf z=>by simpa using z)⟩;exact⟨h,_,rfl,d_,(ed.put hd A).mono<|cC.lj o,rfl⟩
  ·cases d
 ·cases d
theorem w5{VM Wm:Type}{N:VM->Wm->Prop}:∀{a:List VM}{b:List Wm},dE N a b->∀(g:Nat),g<a.length->∃h c,a[g]?=Z h/\b[g]?=Z c/\N h c
 |_,_,.nil,g,e=>by simp at e
 |_,_,.cons s D,0,e=>⟨_,_,rfl,rfl,s⟩
 |_,_,.cons s D,g+1,e=>by
  let⟨h,@c,f,z,i⟩:=w5 D g ⇑e;exact⟨h,c,by simpa using f,by simpa using z,i⟩
end
section
variable{a:aL}
def Ia:bN->ai->Option (Nat×ai)
 |.bo g,v=>Z (g,v)
 |.cu _,_=>X
@[simp] theorem U_(g:Nat)(v:ai):Ia (.bo g) v=Z (g,v):=rfl
@[simp] theorem Vd(o v:ai):Ia (.cu o) v=X:=rfl
def RJ{r:Nat}{g:az}{WM s:Pos}{VR Wo WL:bl}{WD:List bl}{VK:gY}{VC:Pos}{own:List az}{V3:List Nat}{WS:jo}{L:j8->gQ}{W2:j8->eo}{WA:j8->b5}(w:a.N.Nodup)(x:a.N[r]?=Z g)(z:j6 a.env.scope g)(C:a.calm=V)(VD:iy a VK own V3)(Vl:kF a VR Wo WS)(D:∀o,j2 (a.d4 (ff a own V3) VK o) VR<|L o)(bI:∀o,sh (a.d4 (ff a own V3) VK o) WD<|W2 o)(E:∀o,bG (a.d4 (ff a own V3) VK o) WL<|WA o)(Vy:∀f,k4 Wo a.env f=pure f:=by intro W;rfl)(H:kC (.ListComp WL [⟨VR,Wo,WD,0⟩] VK VC) (Z<|.Name g WM) s.line a.env=pure V:=by rfl)(I:a.fn g=V\/a.env.scope.names.lookup g=Z .local:=by first|exact .inl rfl|exact .inr rfl|assumption):
  hs a (.Assign [.Name g WM] (.ListComp WL [⟨VR,Wo,WD,0⟩] VK VC) s) (zc (uV own V3 WS L W2 WA)<|zw r):=by
 intro G j B b J y e;rw[exec_Assign_Name_used _ _ _ _ H];refine aB (tq<|aB ?_);show wpAny _ a.A (do let _ <-zu (.ListComp WL [⟨VR,Wo,WD,0⟩] VK VC) VK a.env _ (qa []) aA (bJ Wo a.env) (Z<|i2 (.Name g WM) a.env)) _ _ j;refine aB (hk (Hu (use:=Z (i2 (.Name g WM) a.env)) (f1:=λ_ Vm=>p0 a G J .next Vm) C VD Vl D bI E Vy y e λk ab as M l P Q F t v i m p=>?_) (λ_ Vm R=>aR<|aR R) λ_ W d=>d);show wpAny _ a.A (i2 (.Name g WM) a.env<|.ref k) _ _ M;refine D9 (HA P w x z (u:=.ref k) rfl (λS T U=>?_) I);let⟨@h,al,q⟩:=U;have am:ab≠h:=by
  rcases q with rfl|q
  ·exact eZ t
  ·exact eZ (v _ _ q)
 exact⟨l,Q.sameBut al am,λVk cP=>⟨_,_,T.turned (Vr:=ab) (V1:=S.toks) (λc n an d=>(cP.2 c an).trans d) F (eZ t) (.inr i) v m,p⟩⟩
def O1{VV:List Nat}{g:Nat}{c:az}{WM e:Pos}{VR Wo WL:bl}{WD:List bl}{VK:gY}{VC:Pos}{own:List az}{V3:List Nat}{D:hI}{WE:eW}{WG:ay Bool}{WZ:ay ai}(h:a.N.Nodup)(i:a.N[g]?=Z c)(j:j6 a.env.scope c)(l:a.calm=V)(VD:iy a VK own V3)(aq:V3.Nodup)(Vl:hb a VR Wo D)(m:∀d,fO (a.d4 (ff a own V3) VK d) (nH own.length V3.length) VR WE)(bI:∀d,lx (a.d4 (ff a own V3) VK d) WD WG)(n:∀d,bh (a.d4 (ff a own V3) VK d) WL WZ)(o:g∉VV)(Vy:∀f,k4 Wo a.env f=pure f:=by intro W;rfl)(q:kC (.ListComp WL [⟨VR,Wo,WD,0⟩] VK VC) (Z<|.Name c WM) e.line a.env=pure V:=by rfl)(r:a.fn c=V\/a.env.scope.names.lookup c=Z .local:=by first|exact .inl rfl|exact .inr rfl|assumption):
  ec a VV (.Assign [.Name c WM] (.ListComp WL [⟨VR,Wo,WD,0⟩] VK VC) e) (bZ g<|dv own.length V3 D WE WG WZ):=by
 refine jb (RJ h i j l VD Vl m bI n Vy q r) λVo B b v=>?_;let⟨k,N,aW,@VL,Y,w,x,p⟩:=v;let⟨@⟨s,Vu⟩,t,A⟩:=bB.mp x;split at A
 ·rename_i y;cases A;refine HV aq ⟨k,N,s,_,Y,w,t,λu Vt U Vp z VX C=>?_⟩;let⟨VQ,@bR,E,VN⟩:=z.put (g:=g) VX y;exact p _ Vt VQ (c4.set o) E (C.less VN)
 ·cases A
def B1:ai->ai
 |.lst f=>.im (.aW f)
 |.aw []=>.im (.fd [])
 |v=>v
@[simp] theorem Vi(f:List aa):B1 (.lst f)=.im (.aW f):=rfl
@[simp] theorem U7(v:aa):B1 (.im v)=.im v:=rfl
end
end L2
namespace dP
open Spec PyProof.Rows
end dP
namespace L2
open Spec PyProof.Rows
variable{O:bq}{WG V_ Wv:ay bN}{P F:gS}{C:ae->ao->Prop}{c:Bool}{V8:ai}{J u:ae}{z:au}{j:ao}{b:aD}{B:a6}{G:List (aj×ba)}{f v:aa}
theorem Bj{e:a4}:∀(x:Nat) {f z:aa}{u:ae},aa.aZ x f=V->aa.aZ x z=V->dh e f u->dh e z u->f=z
 |x,.a3,z,u,_,a_,b,a=>by
  cases (show u=.none from b);cases z with
  |a3=>rfl
  |av c=>cases a
  |int r=>let⟨@J,d⟩:=a;cases d
  |str i=>let⟨@J,d⟩:=a;cases d
  |tup E=>let⟨W,W,W,@W,d,W⟩:=a;cases d
  |fn h=>cases x<;>cases a_
  |aW h=>cases x<;>cases a_
  |fd=>cases x<;>cases a_
 |x,.av c,z,u,_,a_,b,a=>by
  cases (show u=.bool c from b);cases z with
  |a3=>cases a
  |av o=>cases a;rfl
  |int r=>let⟨@J,d⟩:=a;cases d
  |str i=>let⟨@J,d⟩:=a;cases d
  |tup E=>let⟨W,W,W,@W,d,W⟩:=a;cases d
  |fn h=>cases x<;>cases a_
  |aW h=>cases x<;>cases a_
  |fd=>cases x<;>cases a_
 |x,.int g,z,u,_,a_,b,a=>by
  let⟨@D,rfl⟩:=b;cases z with
  |a3=>cases a
  |av o=>cases a
  |int r=>let⟨@J,d⟩:=a;injection d with d;rw[d]
  |str i=>let⟨@J,d⟩:=a;cases d
  |tup E=>let⟨W,W,W,@W,d,W⟩:=a;cases d
  |fn h=>cases x<;>cases a_
  |aW h=>cases x<;>cases a_
  |fd=>cases x<;>cases a_
 |x,.str g,z,u,_,a_,b,a=>by
  let⟨@D,rfl⟩:=b;cases z with
  |a3=>cases a
  |av o=>cases a
  |int r=>let⟨@J,d⟩:=a;cases d
  |str i=>let⟨@J,d⟩:=a;injection d with d;rw[d]
  |tup E=>let⟨W,W,W,@W,d,W⟩:=a;cases d
  |fn h=>cases x<;>cases a_
  |aW h=>cases x<;>cases a_
  |fd=>cases x<;>cases a_
 |x+1,.tup E,z,u,y,a_,b,a=>by
  let⟨h,n,VP,@l,rfl,t,A,B,C⟩:=b;cases z with
  |a3=>cases a
  |av o=>cases a
  |int r=>let⟨@J,d⟩:=a;cases d
  |str i=>let⟨@J,d⟩:=a;cases d
  |fn h=>cases a_
  |aW h=>cases a_
  |fd=>cases a_
  |tup S=>
   let⟨I,V4,L,@M,d,w,N,j,F⟩:=a;cases d;rw[t]at w;cases w;rw[B]at j;injection j with j _;subst j;have all:∀(E S:List aa) (Vj:List ae),aa.dj x E=V->aa.dj x S=V->dR e E Vj->dR e S Vj->E=S:=by
    intro E;induction E with
    |nil=>
     intro S Vj W W h c;cases S with
     |nil=>rfl
     |cons d S=>let⟨W,@W,p,W⟩:=c;rw[show Vj=[] from h]at p;cases p
    |cons v E G=>
     intro S Vj k m h c;let⟨u,@s,rfl,H,Wt⟩:=h;cases S with
     |nil=>cases (show u::s=[] from c)
     |cons d S=>
      let⟨O,@Wh,p,cE,cQ⟩:=c;cases p;rw[aa.dj,cT]at k m;rw[Bj x k.1 m.1 H cE,G S s k.2 m.2 Wt cQ]
   rw[all E S _ y a_ C F]
 |0,.tup _,_,_,q,_,_,_=>by cases q
 |x,.fn _,_,_,q,_,_,_=>by cases x<;>cases q
 |x,.aW _,_,_,q,_,_,_=>by cases x<;>cases q
 |x,.fd _,_,_,q,_,_,_=>by cases x<;>cases q
open Classical in
def oq(e:a4)(v:aa)(u:ae):Bool:=(if i:∃f,aa.aZ 8 f=V/\dh e f u then cn i.choose v else aA)
def sz{e:a4}(q:aa.aZ 8 f=V)(g:dh e f u):oq e v u=cn f v:=by
 unfold oq;have i:∃f,aa.aZ 8 f=V/\dh e f u:=⟨f,q,g⟩;rw[dif_pos i,Bj 8 i.choose_spec.1 q i.choose_spec.2 g]
theorem rK{e:a4}{v:aa}:∀{E:List aa}{Vj:List ae},aa.dj 8 E=V->dR e E Vj->Vj.any (oq e v)=E.any λf=>cn f v
 |[],Vj,_,d=>by rw[show Vj=[] from d];rfl
 |f::E,Vj,q,d=>by
  let⟨u,@s,rfl,t,A⟩:=d;rw[aa.dj,cT]at q;rw[n4,n4,sz q.1 t,rK q.2 A]
theorem rj{e:a4}:∀{E:List aa}{Vj:List ae}{u:ae},aa.dj 8 E=V->dR e E Vj->u∈Vj->∃f,aa.aZ 8 f=V/\dh e f u
 |[],Vj,u,_,d,l=>by rw[show Vj=[] from d]at l;cases l
 |f::E,Vj,u,q,d,l=>by
  let⟨J,@s,rfl,t,A⟩:=d;rw[aa.dj,cT]at q;rcases cm.mp l with rfl|l
  ·exact⟨f,q.1,t⟩
  ·exact rj q.2 A l
section
variable{a:aL}
def fj(v:aa):ai->Option Bool
 |.im (.tup E)=>if (aa.aZ 8 v&&aa.dj 8 E)=V then Z (E.any λf=>cn f v) else X
 |.lst E=>if (aa.aZ 8 v&&aa.dj 8 E)=V then Z (E.any λf=>cn f v) else X
 |.aw Vx=>match v with
  |.tup q=>if aa.keys 7 q=V then Z (en Vx q).isSome else X
  |_=>X
 |.dJ Vx=>match v with
  |.int g=>Z (en Vx<|.inl g).isSome
  |.str f=>Z (en Vx<|.inr f).isSome
  |_=>X
 |_=>X
@[simp] theorem Eb(v:aa)(E:List aa):fj v (.im<|.tup E)=if (aa.aZ 8 v&&aa.dj 8 E)=V then Z (E.any λf=>cn f v) else X:=rfl
@[simp] theorem UD(v:aa)(E:List aa):fj v (.lst E)=if (aa.aZ 8 v&&aa.dj 8 E)=V then Z (E.any λf=>cn f v) else X:=rfl
@[simp] theorem U1(q:List aa)(Vx:List (List aa×aa)):fj (.tup q) (.aw Vx)=if aa.keys 7 q=V then Z (en Vx q).isSome else X:=rfl
@[simp] def e5:gS:=λh c=>match h with
 |.im v=>(fj v c).map λs=>.im (.av s)
 |_=>X
@[simp] def ig:gS:=λh c=>match h with
 |.im v=>(fj v c).map λs=>.im (.av<|!s)
 |_=>X
def p2{VO:Type}[DecidableEq VO]{b:aD}{q:VO}{Vx:List (VO×aa)}{M:List (VO×au)}(e:ed b Vx M):(h3 M q).isSome=(en Vx q).isSome:=by
 cases d:en Vx q with
 |none=>rw[(oX e).2 d];rfl
 |some v=>let⟨@u,t,W⟩:=(oX e).1 v d;rw[t];rfl
def Qx{f:au}(I:a.A.units+20<bW)(y:aI a G B b j)(l:ck f u)(n:ck z J)(o:cC b v f)(r:eY b V8 z)(d:fj v V8=Z c)(p:∀Vm,aI a G B b Vm->C (.bool c) Vm):wpAny (aO a.prog a.w) a.A (e2 .In u J) C a.cR j:=by
 unfold fj at d;split at d
 ·rename_i E;split at d
  ·rename_i e;cases d;rw[cT]at e;let⟨h,@w,rfl,t,A⟩:=r.i;cases n;let⟨@VA,N,m,W⟩:=y.tuple (cZ.of t);have s:=A.ft y.a5 N;refine SeqAt.in_tupleAt (oq j.heap v) (show j.heap.IsTuple h VA.toArray from m) (λH L=>?_) ?_
   ·let⟨@i,x,F⟩:=rj e.2 s ⇑L;rw[sz x F];exact iU 8 x e.1 (by show a.A.units+1+8+1<bW;lia) F (o.ft y.a5 l)
   ·rw[tx,rK e.2 s];exact p j y
  ·cases d
 ·rename_i E;split at d
  ·rename_i e;cases d;rw[cT]at e;let⟨W,h,@w,rfl,t,A,W⟩:=r;cases n;let⟨@VA,m,s,W⟩:=pT y t A;refine SeqAt.in_listAt (oq j.heap v) m (λH L=>?_) ?_
   ·let⟨@i,x,F⟩:=rj e.2 s ⇑L;rw[sz x F];exact iU 8 x e.1 (by show a.A.units+1+8+1<bW;lia) F (o.ft y.a5 l)
   ·rw[tx,rK e.2 s];exact p j y
  ·cases d
 ·rename_i Vx;split at d
  ·rename_i q;split at d
   ·rename_i P;cases d;let⟨W,h,@M,rfl,t,A,W⟩:=r;cases n;let⟨c,@VJ,rfl,Q,R⟩:=o;rw[<-p2 A]at p;exact wR I y (gO.t t ⟨P,c,VJ,rfl,Q,R⟩) l p
   ·cases d
  ·cases d
 ·rename_i Vx;split at d
  ·rename_i g;cases d;let⟨W,h,@M,rfl,t,A,W⟩:=r;cases n;rw[<-p2 A]at p;cases (show f=b6 (.inl g) from o);exact wR I y (gO.k t) l p
  ·rename_i g;cases d;let⟨W,h,@M,rfl,t,A,W⟩:=r;cases n;rw[<-p2 A]at p;cases (show f=b6 (.inr g) from o);exact wR I y (gO.k t) l p
  ·cases d
 ·cases d
def Ow(e:a.A.units+20<bW):d2 a (e2 .In) e5:=by
 intro G j B b f z u J C y h k l;let⟨V2,V8,@v,m,n,d,p⟩:=l;unfold e5 at d;split at d
 ·let⟨@c,o,q⟩:=b9.mp d;cases q;exact Qx e y h k m.i n o λVm r=>⟨.av c,b,r,rfl,b_.i p rfl⟩
 ·cases d
def Si{f:au}(I:a.A.units+20<bW)(y:aI a G B b j)(l:ck f u)(n:ck z J)(o:cC b v f)(r:eY b V8 z)(d:fj v V8=Z c)(p:∀Vm,aI a G B b Vm->C (.bool<|!c) Vm):wpAny (aO a.prog a.w) a.A (e2 .NotIn u J) C a.cR j:=by
 unfold fj at d;split at d
 ·rename_i E;split at d
  ·rename_i e;cases d;rw[cT]at e;let⟨h,@w,rfl,t,A⟩:=r.i;cases n;let⟨@VA,N,m,W⟩:=y.tuple (cZ.of t);have s:=A.ft y.a5 N;refine SeqAt.notIn_tupleAt (oq j.heap v) (show j.heap.IsTuple h VA.toArray from m) (λH L=>?_) ?_
   ·let⟨@i,x,F⟩:=rj e.2 s ⇑L;rw[sz x F];exact iU 8 x e.1 (by show a.A.units+1+8+1<bW;lia) F (o.ft y.a5 l)
   ·rw[tx,rK e.2 s];exact p j y
  ·cases d
 ·rename_i E;split at d
  ·rename_i e;cases d;rw[cT]at e;let⟨W,h,@w,rfl,t,A,W⟩:=r;cases n;let⟨@VA,m,s,W⟩:=pT y t A;refine SeqAt.notIn_listAt (oq j.heap v) m (λH L=>?_) ?_
   ·let⟨@i,x,F⟩:=rj e.2 s ⇑L;rw[sz x F];exact iU 8 x e.1 (by show a.A.units+1+8+1<bW;lia) F (o.ft y.a5 l)
   ·rw[tx,rK e.2 s];exact p j y
  ·cases d
 ·rename_i Vx;split at d
  ·rename_i q;split at d
   ·rename_i P;cases d;let⟨W,h,@M,rfl,t,A,W⟩:=r;cases n;let⟨c,@VJ,rfl,Q,R⟩:=o;rw[<-p2 A]at p;exact AG I y (gO.t t ⟨P,c,VJ,rfl,Q,R⟩) l p
   ·cases d
  ·cases d
 ·rename_i Vx;split at d
  ·rename_i g;cases d;let⟨W,h,@M,rfl,t,A,W⟩:=r;cases n;rw[<-p2 A]at p;cases (show f=b6 (.inl g) from o);exact AG I y (gO.k t) l p
  ·rename_i g;cases d;let⟨W,h,@M,rfl,t,A,W⟩:=r;cases n;rw[<-p2 A]at p;cases (show f=b6 (.inr g) from o);exact AG I y (gO.k t) l p
  ·cases d
 ·cases d
def J0(e:a.A.units+20<bW):d2 a (e2 .NotIn) ig:=by
 intro G j B b f z u J C y h k l;let⟨V2,V8,@v,m,n,d,p⟩:=l;unfold ig at d;split at d
 ·let⟨@c,o,q⟩:=b9.mp d;cases q;exact Si e y h k m.i n o λVm r=>⟨.av<|!c,b,r,rfl,b_.i p rfl⟩
 ·cases d
@[simp] def iZ(F P:gS)(Wv V_ WG:ay bN):ay ai:=λk=>(Wv k).bind λm=>(V_ m.2).bind λp=>(dG p.2 m.1).bind λV2=>(dG p.2 p.1).bind λV8=>(F V2 V8).bind λv=>(kW v).bind λq=>
 if q=V then (WG p.2).bind λs=>(dG s.2 p.1).bind λa=>(dG s.2 s.1).bind λb=>(P a b).bind λi=>(kW i).map λc=>(.im<|.av c,s.2) else Z (.im<|.av aA,p.2)
def QW{C:cW}(e:mL (iZ F P Wv V_ WG) B b C):
  G0 (λf z b C=>∃V2 V8 v,eY b V2 f/\eY b V8 z/\F V2 V8=Z v/\b_ b v C) (λf z b C=>∃V2 V8 v,eY b V2 f/\eY b V8 z/\P V2 V8=Z v/\b_ b v C) (mS Wv) (mS V_) (mS WG) B b C:=by
 let⟨k,N,s,@VL,Y,aq,a,p⟩:=e;let⟨@⟨VG,Vu⟩,t,a⟩:=bB.mp a;let⟨@⟨VW,VY⟩,A,a⟩:=bB.mp a;let⟨@V2,L,a⟩:=bB.mp a;let⟨@V8,M,a⟩:=bB.mp a;let⟨@v,O,a⟩:=bB.mp a;let⟨@q,Q,l⟩:=bB.mp a;have hd:=o5 Q;subst hd;refine⟨k,N,VG,Vu,Y,aq,t,λf Vt U R S cp x=>⟨Vu,U,VW,VY,S,(cO.mp x.aq).1,A,λz VF VQ bR m cv o=>?_⟩⟩;have T:hN VF B VG f R:=cp.mono o.tup λh g n d=>o.keep h n d λe=>(cO.mp x.aq).2.2 h e h g rfl;refine⟨V2,V8,_,T.read m L,cv.read m M,O,λu G al j VX cr cs=>?_⟩;let@⟨rfl,rfl⟩:=(show u=.av q/\al=[] from VX);refine⟨q,rfl,?_⟩;have I:=x.trans o cp.chg;rw[bk]at I;have r:=I.new j hn (λh g=>nomatch g) m.chg;have J:bC G VY B VQ:=m.mono j.tupS λh W n d=>j h n d;cases q with
 |false=>
  rw[aJ da]at l ⊢;cases l;exact p _ G VQ [] J ⟨rfl,rfl⟩ r
 |true=>
  rw[aF rfl]at l ⊢;let⟨@⟨VZ,y⟩,am,an⟩:=bB.mp l;let⟨@ap,as,a1⟩:=bB.mp an;let⟨@a2,bd,be⟩:=bB.mp a1;let⟨@i,bi,bm⟩:=bB.mp be;let⟨@c,bn,bs⟩:=b9.mp bm;cases bs;have bv:=o5 bn;subst bv;rw[bQ]at r;refine⟨VY,VQ,VZ,y,J,r.aq,am,λH ca cd db w de D=>?_⟩;have ce:=cO.mp o.aq;have ch:hN ca B VW z bR:=(cv.mono j.tupS λh W n d=>j h n d).mono D.tup λh g n d=>D.keep h n d λe=>ce.2.2 h e h g rfl;refine⟨ap,a2,_,ch.read w as,de.read w bd,bi,λu ci cl E co ds dL=>?_⟩;let@⟨rfl,rfl⟩:=(show u=.av c/\cl=[] from co);exact p _ ci cd [] (w.mono E.tupS λh W n d=>E h n d) ⟨rfl,rfl⟩ ((r.seq D).new E hn (λh g=>nomatch g) w.chg)
def K3{Wa d:jI}{h c o:bl}{VC:Pos}(e:d2 a (e2 Wa) F)(f:d2 a (e2 d) P)(g:eL a h Wv)(i:eL a c V_)(l:eL a o WG)(n:lastMarks [Wa,d] [c,o]=aA:=by with_unfolding_all rfl):fC a (.Compare h [Wa,d] [c,o] VC) (bK<|iZ F P Wv V_ WG):=by
 refine sy (Kq e f g i l n) λB b C r=>?_;let⟨k,N,q,@VL,Y,aq,s,p⟩:=r;refine QW ⟨k,N,.im<|.av q,VL,Y,aq,?_,λu T V0 Vp v VX j=>⟨q,VX.1,p T V0 v (by rw[VX.2,bQ]at j;exact j)⟩⟩;let⟨@m,t,A⟩:=bB.mp s;let⟨@V9,w,x⟩:=b9.mp A;cases x;rw[t,<-o5 w]
end
mutual
def bz:aa->aa->Bool
 |.int g,.int r=>decide (g<r)
 |.str f,.str z=>decide (f.cps.toList<z.cps.toList)
 |.tup h,.tup c=>gn h c
 |_,_=>aA
def gn:List aa->List aa->Bool
 |[],[]=>aA
 |[],_::_=>V
 |_::_,[]=>aA
 |h::s,c::D=>if aa.beq h c=V then gn s D else bz h c
end
mutual
def ew:Nat->aa->aa->Bool
 |_,.int _,.int _=>V
 |_,.str _,.str _=>V
 |x+1,.tup h,.tup c=>fU x h c
 |_,_,_=>aA
def fU:Nat->List aa->List aa->Bool
 |_,[],[]=>V
 |x,h::s,c::D=>ew x h c&&fU x s D
 |x,[],c::D=>aa.dj x (c::D)
 |x,h::s,[]=>aa.dj x (h::s)
end
mutual
theorem pP:∀{x:Nat}{h c:aa},ew x h c=V->aa.aZ x h=V/\aa.aZ x c=V/\cn h c=aa.beq h c
 |x,.int g,.int r,_=>by
  refine⟨by cases x<;>rfl,by cases x<;>rfl,?_⟩;rw[cn,aa.beq];by_cases e:g=r<;>simp[e]
 |x,.str f,.str z,_=>by
  refine⟨by cases x<;>rfl,by cases x<;>rfl,?_⟩;rw[cn,aa.beq];by_cases e:f=z<;>simp[e]
 |x+1,.tup h,.tup c,e=>by
  rw[ew]at e;let@⟨t,A,a⟩:=DV e;exact⟨t,A,by rw[cn,aa.beq];exact a⟩
theorem DV:∀{x:Nat}{h c:List aa},fU x h c=V->aa.dj x h=V/\aa.dj x c=V/\fg h c=aa.lq h c
 |x,[],[],_=>⟨by cases x<;>rfl,by cases x<;>rfl,rfl⟩
 |x,[],c::D,e=>⟨by cases x<;>rfl,e,rfl⟩
 |x,h::s,[],e=>⟨e,by cases x<;>rfl,rfl⟩
 |x,h::s,c::D,e=>by
  rw[fU,cT]at e;let@⟨t,A,a⟩:=pP e.1;let@⟨b,d,f⟩:=DV e.2;exact⟨by rw[aa.dj,t,b];rfl,by rw[aa.dj,A,d];rfl,by rw[fg,aa.lq,a,f]⟩
end
def nF{h c:aa}(e:¬ h=c):aa.beq h c=aA:=by
 cases d:aa.beq h c with
 |false=>rfl
 |true=>exact absurd ((aa.beq_iff h c).mp d) e
mutual
theorem rF:∀h:aa,bz h h=aA
 |.int g=>by simp[bz]
 |.tup h=>by rw[bz];exact FC h
 |.a3=>rfl
 |.av _=>rfl
 |.str f=>by rw[bz];exact dU (List.lt_irrefl _)
 |.fn _=>rfl
 |.aW _=>rfl
 |.fd _=>rfl
theorem FC:∀h:List aa,gn h h=aA
 |[]=>rfl
 |h::s=>by rw[gn,aF<|(aa.beq_iff h h).mpr rfl];exact FC s
end
mutual
theorem pH:∀{x:Nat}{h c:aa},ew x h c=V->h≠c->bz h c=!(bz c h)
 |x,.int g,.int r,_,e=>by
  have:g≠r:=λd=>e (by rw[d]);rw[bz,bz];rcases Int.lt_or_gt_of_ne this with L|L
  ·simp[L];lia
  ·simp[L];lia
 |x,.str f,.str z,_,e=>by
  have ne:f.cps.toList≠z.cps.toList:=λd=>e (by
   let⟨f⟩:=f;let⟨z⟩:=z;exact congrArg (λi=>aa.str ⟨i⟩) (FV.mp d))
  rw[bz,bz];by_cases L:f.cps.toList<z.cps.toList
  ·rw[di L,dU<|List.lt_asymm L];rfl
  ·rw[dU L];by_cases a:z.cps.toList<f.cps.toList
   ·rw[di a];rfl
   ·exact absurd (List.le_antisymm (Er.mp a)<|Er.mp L) ne
 |x+1,.tup h,.tup c,e,d=>by
  rw[ew]at e;rw[bz,bz];exact C4 e λi=>d (by rw[i])
theorem C4:∀{x:Nat}{h c:List aa},fU x h c=V->h≠c->gn h c=!(gn c h)
 |x,[],[],_,e=>absurd rfl e
 |x,[],c::D,_,_=>rfl
 |x,h::s,[],_,_=>rfl
 |x,h::s,c::D,e,d=>by
  rw[fU,cT]at e;rw[gn,gn];by_cases i:h=c
  ·subst i;rw[aF ((aa.beq_iff h h).mpr rfl),aF<|(aa.beq_iff h h).mpr rfl];exact C4 e.2 λH=>d (by rw[H])
  ·rw[nF i,nF<|λH=>i H.symm,aJ da,aJ da];exact pH e.1 i
end
mutual
theorem tG:∀{x:Nat}{h c o:aa},ew x h c=V->ew x c o=V->bz h c=V->bz c o=V->bz h o=V
 |x,.int g,.int r,.int q,_,_,t,A=>by
  rw[bz]at t A ⊢;have:=fE t;have:=fE A;exact di (by omega)
 |x,.str f,.str z,.str i,_,_,t,A=>by
  rw[bz]at t A ⊢;exact di (List.lt_trans (fE t)<|fE A)
 |x+1,.tup h,.tup c,.tup o,a,b,t,A=>by
  rw[ew]at a b;rw[bz]at t A ⊢;exact F4 a b t A
theorem F4:∀{x:Nat}{h c o:List aa},fU x h c=V->fU x c o=V->gn h c=V->gn c o=V->gn h o=V
 |x,[],_,_::_,_,_,_,_=>rfl
 |x,[],[],[],_,_,e,_=>e
 |x,_::_,[],_,_,_,e,_=>by cases e
 |x,_,_::_,[],_,_,_,e=>by cases e
 |x,h::s,c::D,o::J,d,b,t,A=>by
  rw[fU,cT]at d b;rw[gn]at t A ⊢;by_cases f:h=c
  ·subst f;rw[aF ((aa.beq_iff h h).mpr rfl)]at t;by_cases a:h=o
   ·subst a;rw[aF ((aa.beq_iff h h).mpr rfl)]at A ⊢;exact F4 d.2 b.2 t A
   ·rw[nF a,aJ da]at A ⊢;exact A
  ·rw[nF f,aJ da]at t;by_cases a:c=o
   ·subst a;rw[nF f,aJ da];exact t
   ·rw[nF a,aJ da]at A;have g:=tG d.1 b.1 t A;have i:¬ h=o:=λH=>by
     subst H;have:=pH b.1 a;rw[t,A]at this;cases this
    rw[nF i,aJ da];exact g
end
def r2(O:bq)(j:ao)(z f:ae)(q:Bool):Prop:=(∀(Vs:bE) (H:bg) (Vo:ae->ao->Prop) (C:ae->ao->Prop),C (.bool q) j->wpAny (aO Vs H) O (om .Lt z f) C Vo j)
def hP(F:Bool):List (Bool×Bool)->Bool
 |[]=>F
 | (d,q)::s=>if d=V then hP F s else q
section
open PySem.SeqAt
open PySem.AutoSeq1 (wpAny_loadPart')
open PySem.MeetsSeq PySem.MeetsSeq2 PySem.MeetsSeq3
def T5(I c:aj)(VP a:Array ae)(x Wu:Nat)(w y:Option aj)(bo B:Array (Option ae))(Vw:List (Bool×Bool))(P:Vw.length=min VP.size a.size):
  Meets (bH.«tuple.__lt__» ⟨[.ref I,.ref c],[]⟩)
   (λO Vp j=>j.heap.get? I=Z {cls:=.type "tuple",dict:=w,data:=.seq VP x,slots:=bo}/\j.heap.get? c=Z {cls:=.type "tuple",dict:=y,data:=.seq a Wu,slots:=B}/\
    (∀r (t:r<VP.size) (A:r<a.size) (l:r<Vw.length),EqAt O.in1 j VP[r] a[r] (Vw[r]).1/\((Vw[r]).1=aA->r2 O.in1 j VP[r] a[r] (Vw[r]).2))/\
    Vp (.ok<|.ret<|.bool<|hP (decide (VP.size<a.size)) Vw) j):=
 .of_wp λVs H O Vp j e=>by
  let⟨i,L,v,Vq,VI⟩:=j;let@⟨C,D,E,e⟩:=e;have Q:=GB;have n:(VP.toList.zip a.toList).length=min VP.size a.size:=by simp
  wp_walk using wpAny_loadPart' C,wpAny_loadPart' D,mH _ (λc1 c Vm=>c.1=X/\Vm=⟨i,L,v,Vq,VI⟩/\∃g,c1=(VP.toList.zip a.toList).drop g/\
   Vp (.ok<|.ret<|.bool<|hP (decide (VP.size<a.size))<|Vw.drop g) ⟨i,L,v,Vq,VI⟩) _
  case turn=>
   rintro⟨z,f⟩ c1 c Vm ⟨m,rfl,g,b,h⟩;have o:g<(VP.toList.zip a.toList).length:=by
    rcases g_ g (VP.toList.zip a.toList).length with Vk|Vk
    ·exact Vk
    ·rw[nP Vk]at b;cases b
   have R:g<min VP.size a.size:=n ▸ o;have t:g<VP.size:=⋯
   have A:g<a.size:=⋯
   have l:g<Vw.length:=⋯
   rw[i6 o]at b;injection b with p F;have G:z=VP[g]:=by have:=congrArg Prod.fst p;simpa using this
   have J:f=a[g]:=by have:=congrArg Prod.snd p;simpa using this
   subst G J;rw[i6 l]at h;let@⟨s,u⟩:=E g t A l;generalize Vw[g]=M at h s u;let⟨d,q⟩:=M;refine aB (s Vs H _ _ ?_);cases d with
   |true=>
    have k:Vp (.ok<|.ret<|.bool<|hP (decide (VP.size<a.size))<|Vw.drop<|g+1) ⟨i,L,v,Vq,VI⟩:=h
    wp_walk
    exact⟨rfl,rfl,g+1,F,k⟩
   |false=>
    have k:Vp (.ok<|.ret<|.bool q) ⟨i,L,v,Vq,VI⟩:=h;have N:=u rfl Vs H
    wp_walk using N
    exact⟨_,rfl,by simpa using k⟩
  case fin=>
   rintro⟨cE,cQ⟩ Vm ⟨m,rfl,g,b,h⟩;simp only at m;subst m;have S:min VP.size a.size<=g:=by
    rcases g_ g (VP.toList.zip a.toList).length with Vk|Vk
    ·rw[i6 Vk]at b;cases b
    ·exact n ▸ Vk
   rw[nP ⋯]at h;have k:Vp (.ok<|.ret<|.bool<|decide (VP.size<a.size)) ⟨i,L,v,Vq,VI⟩:=h
   wp_walk
   exact⟨_,rfl,by simpa [bH.Tuple.tupleCompareSizes] using k⟩
  case h=>
   exact⟨rfl,rfl,0,rfl,by simpa using e⟩
end
def kY(E S:List aa):List (Bool×Bool):=((E.zip S).map λm=>(cn m.1 m.2,bz m.1 m.2))
theorem Ho:∀{x:Nat}{E S:List aa},fU x E S=V->hP (decide (E.length<S.length)) (kY E S)=gn E S
 |_,[],[],_=>rfl
 |x,h::s,c::D,e=>by
  rw[fU,cT]at e;show (if cn h c=V then hP (decide (s.length+1<D.length+1)) (kY s D) else bz h c)=gn (h::s) (c::D);rw[gn,(pP e.1).2.2,<-Ho e.2,s9.mpr y1]
 |_,[],_::_,_=>rfl
 |_,_::_,[],_=>rfl
theorem zq{x:Nat}:∀{E S:List aa}{r:Nat}{h c:aa},fU x E S=V->E[r]?=Z h->S[r]?=Z c->ew x h c=V
 |[],S,r,h,c,_,e,_=>by simp at e
 |v::E,[],r,h,c,_,_,e=>by simp at e
 |v::E,d::S,0,h,c,e,t,A=>by
  rw[fU,cT]at e;cases t;cases A;exact e.1
 |v::E,d::S,r+1,h,c,e,t,A=>by
  rw[fU,cT]at e;exact zq (r:=r) e.2 ⇑t ⇑A
def Ip{g r:Int}(a:dh j.heap (.int g) J)(b:dh j.heap (.int r) u):r2 O j J u (bz (.int g)<|.int r):=by
 let⟨@D,rfl⟩:=a;let⟨@V1,rfl⟩:=b;intro Vs H Vo C p;rw[bz]at p;exact dP.Rp O j g D r V1 Vs H Vo C p
def PF{f z:az}(a:dh j.heap (.str f) J)(b:dh j.heap (.str z) u):r2 O j J u (bz (.str f)<|.str z):=by
 let⟨D,rfl⟩:=a;let⟨V1,rfl⟩:=b;intro Vs H Vo C p;rw[bz]at p;exact (PySem.P.lt_str p:wpAny (aO Vs H) O (e2 .Lt (.str f D)<|.str z V1) C Vo j)
def zf(f z:aa):Prop:=((∃g r,f=.int g/\z=.int r)\/∃h c,f=.str h/\z=.str c)
def Dq{z:aa}(I:zf f z)(a:dh j.heap f J)(b:dh j.heap z u):r2 O j J u (bz f z):=by
 rcases I with ⟨g,r,rfl,rfl⟩|⟨h,c,rfl,rfl⟩
 ·exact Ip a b
 ·exact PF a b
def oA:∀{x:Nat}{f z:aa},ew x f z=V->zf f z\/∃l h c,x=l+1/\f=.tup h/\z=.tup c/\fU l h c=V:=by
 intro x f z e;unfold ew at e;split at e
 ·exact .inl (.inl ⟨_,_,rfl,rfl⟩)
 ·exact .inl (.inr ⟨_,_,rfl,rfl⟩)
 ·exact .inr ⟨_,_,_,rfl,rfl,rfl,e⟩
 ·cases e
def DU(x:Nat):∀{O:bq}{f z:aa}{J u:ae},ew x f z=V->O.units+x+2<bW->dh j.heap f J->dh j.heap z u->r2 O j J u (bz f z):=by
 induction x with
 |zero=>
  intro O f z J u e M a b;rcases oA e with I|⟨l,_,_,d,_⟩
  ·exact Dq I a b
  ·cases d
 |succ x P=>
  intro O f z J u e M a b;rcases oA e with I|⟨l,E,S,d,rfl,rfl,e⟩
  ·exact Dq I a b
  cases d;let⟨h,n,VA,@l,rfl,t,A,g,k⟩:=a;let⟨c,V4,U,@Q,rfl,m,o,q,s⟩:=b;let⟨cls,R,data,bo⟩:=n;let⟨a1,T,a2,al⟩:=V4;simp only at A g o q;subst A g o q;have v:E.length=VA.size:=by rw[k.length,df]
  have w:S.length=U.size:=by rw[s.length,df]
  intro Vs H Vo C p;rw[bz,<-Ho e,v,w]at p;have am:(kY E S).length=min VA.size U.size:=by rw[kY,a8,GY,v,w]
  refine Co (op:=.Lt) ⟨_,t,rfl⟩ ⟨_,m,rfl⟩ PySem.F.slot_tuple_lt PySem.F.entry_tuple_lt (PySem.F.args_tuple_lt_2 _ _) (T5 h c VA U l Q R T bo al (kY E S) am)
   ⟨t,m,λr b1 an ap=>?_,show ae.bool (hP (decide (VA.size<U.size))<|kY E S)≠ae.notImplemented/\C (.bool<|hP (decide (VA.size<U.size))<|kY E S) j from ⟨(λf=>nomatch f),p⟩⟩ ⋯;let⟨@V2,y,B⟩:=k.get (r:=r) (u:=VA[r]) (by rw[eE];simp[b1]);let⟨@V8,D,G⟩:=s.get (r:=r) (u:=U[r]) (by rw[eE];simp[an]);have lk:=zq e y D;have L:=pP lk;have as:(kY E S)[r]=(cn V2 V8,bz V2 V8):=by
   have:(kY E S)[r]?=Z (cn V2 V8,bz V2 V8):=by
    rw[kY,d3,(ug (z:=(V2,V8))).mpr ⟨y,D⟩];rfl
   rw[dN ap]at this;exact Option.some.inj this
  rw[as];exact⟨iU x L.1 L.2.1 (by show O.units+1+x+1<bW;lia) B G,λ_=>P lk (by show O.units+1+x+2<bW;lia) B G⟩
end L2
namespace L2
open Spec PyProof.Rows PySem.W
variable{WN VC Wj m:Pos}{h:bl}{P:List (List aa)}{v:aa}{VA:List ae}{I E:List aa}{g:Nat}
theorem EE{VM:Type}{m p:VM->Bool}:∀{I:List VM},(∀f∈I,m f=V->p f=V)->(∃f∈I,p f=V/\m f=aA)->I.countP m<I.countP p
 |[],_,e=>by let⟨@f,a,W⟩:=e;cases a
 |h::I,e,⟨f,a,t,A⟩=>by
  rw[uf,uf];have le:I.countP m<=I.countP p:=List.countP_mono_left λz b=>e z (.tail _ b);rcases cm.mp a with rfl|a
  ·rw[t,A];simp;omega
  ·have:=EE (λz b=>e z<|.tail _ b) ⟨f,a,t,A⟩;have c:=e h (.head _);cases d:m h<;>cases g:p h<;>rw[d,g]at c<;>simp at c ⊢<;>omega
structure ob(E:List aa):Prop where
 l8:E.length<=1000
 iO:∀h∈E,∀c∈E,ew 6 h c=V
structure uH(E:List aa):Prop where
 l8:E.length<=1000
 iO:∀h∈E,∀c∈E,ew 6 h c=V
 aq:E.Nodup
def uH.w{E:List aa}(n:uH E):ob E:=⟨n.l8,n.iO⟩
def q4(E:List aa)(f:aa):Nat:=(E.countP λv=>bz v f)
def EA(n:ob E){f z:aa}(a:f∈E)(b:z∈E)(e:bz f z=V):q4 E f<q4 E z:=
 EE (λi c d=>tG (n.iO i c f a) (n.iO f a z b) d e) ⟨f,a,e,rF f⟩
def GI(n:ob E){f z:aa}(a:f∈E)(b:z∈E):decide ((q4 E f:Int)<(q4 E z:Int))=bz f z:=by
 cases d:bz f z with
 |true=>exact di (by have:=EA n a b d;lia)
 |false=>
  refine dU λi=>?_;by_cases e:f=z
  ·subst e;lia
  ·have D:=pH (n.iO f a z b) e;rw[d]at D;have V1:bz z f=V:=by cases p:bz z f<;>rw[p]at D<;>simp at D ⊢
   have:=EA n b a V1;lia
def n5(E:List aa)(g:Nat):Int:=(q4 E (E.getD g .a3))
def vV(e:g<E.length):E.getD g .a3∈E:=by
 rw[cK,dN e];exact u0 e
def xx(n:ob E){m:Array Nat}(a:c5 E.length m)(i:ia (n5 E) m E.length):(m.toList.map λg=>E.getD g .a3).Pairwise (λh c=>bz c h=aA):=by
 rw[n1];intro g r Vl b l;have Vy:=a.size;have j:g<E.length:=by simpa [Vy] using Vl
 have e:r<E.length:=by simpa [Vy] using b
 have le:=i g r ⋯ e;have L:∀q (f:q<(m.toList.map λg=>E.getD g .a3).length),(m.toList.map λg=>E.getD g .a3)[q]=E.getD (m.getD q 0) .a3:=λq f=>by
  have k:q<m.size:=by simpa using f
  rw[Ew,Hn];simp[Array.getD,k]
 rw[L g Vl,L r b];rw[<-GI n (vV<|a.lt e) (vV<|a.lt j)];refine dU ?_;have d:∀q,(q4 E (E.getD (m.getD q 0) .a3):Int)=bp (n5 E) m q:=λ_=>rfl;rw[d g,d r];lia
theorem BZ:∀{I l:List aa},I.Perm l->I.Pairwise (λh c=>bz h c=V)->l.Pairwise (λh c=>bz h c=V)->(∀h∈I,∀c∈I,bz h c=V->bz c h=aA)->I=l
 |[],l,m,_,_,_=>(List.nil_perm.mp m).symm
 |h::I,l,m,t,A,a=>by
  cases l with
  |nil=>exact absurd m.length_eq ↥0
  |cons c l=>
   have d:h=c:=by
    by_cases d:h=c
    ·exact d
    ·have g:h∈l:=by
      rcases cm.mp (m.mem_iff.mp<|.head _) with i|i
      ·exact absurd i d
      ·exact i
     have b:c∈I:=by
      rcases cm.mp (m.mem_iff.mpr<|.head _) with i|i
      ·exact absurd i.symm d
      ·exact i
     have j:=(hq.mp t).1 c b;have e:=(hq.mp A).1 h g;rw[a h (.head _) c (.tail _ b) j]at e;cases e
   subst d;rw[BZ (NC m) (hq.mp t).2 (hq.mp A).2 λf k z n=>a f (.tail _ k) z<|.tail _ n]
theorem th(f:aa):∀I:List aa,(kN bz f I).Perm (f::I)
 |[]=>List.Perm.refl _
 |z::s=>by
  rw[kN];split
  ·exact List.Perm.refl _
  ·exact (List.Perm.cons z<|th f s).trans (List.Perm.swap f z s)
theorem i5:∀I:List aa,(gE bz I).Perm I
 |[]=>List.Perm.refl _
 |f::s=>(th f _).trans (List.Perm.cons f<|i5 s)
theorem Hw{f:aa}:∀{I:List aa},I.Pairwise (λh c=>bz h c=V)->(∀z∈I,f≠z)->(∀h∈f::I,∀c∈f::I,ew 6 h c=V)->(kN bz f I).Pairwise (λh c=>bz h c=V)
 |[],_,_,_=>eB _ _
 |z::s,e,x,lk=>by
  have Vk:=hq.mp e;rw[kN];split
  ·rename_i d;refine hq.mpr ⟨λi a=>?_,e⟩;rcases cm.mp a with rfl|a
   ·exact d
   ·exact tG (lk f (.head _) z<|.tail _<|.head _) (lk z (.tail _<|.head _) i<|.tail _<|.tail _ a) d (Vk.1 i a)
  ·rename_i d;refine hq.mpr ⟨λi a=>?_,Hw Vk.2 (λi a=>x i<|.tail _ a) λh b c g=>lk h ?_ c ?_⟩
   ·rcases cm.mp ((th f s).mem_iff.mp a) with rfl|a
    ·have D:=pH (lk i (.head _) z<|.tail _<|.head _) (x z<|.head _);cases p:bz z i with
     |true=>rfl
     |false=>rw[p]at D;exact absurd D d
    ·exact Vk.1 i a
   ·rcases cm.mp b with rfl|b
    ·exact .head _
    ·exact .tail _ (.tail _ b)
   ·rcases cm.mp g with rfl|g
    ·exact .head _
    ·exact .tail _ (.tail _ g)
theorem qb:∀{I:List aa},I.Nodup->(∀h∈I,∀c∈I,ew 6 h c=V)->(gE bz I).Pairwise (λh c=>bz h c=V)
 |[],_,_=>.nil
 |f::s,aq,lk=>by
  have e:=gd.mp aq;refine Hw (qb e.2 λh a c b=>lk h (.tail _ a) c<|.tail _ b) (λz g d=>e.1 (by rw[d];exact (i5 s).mem_iff.mp g)) λh a c b=>lk h ?_ c ?_
  ·rcases cm.mp a with rfl|a
   ·exact .head _
   ·exact .tail _ ((i5 s).mem_iff.mp a)
  ·rcases cm.mp b with rfl|b
   ·exact .head _
   ·exact .tail _ ((i5 s).mem_iff.mp b)
def Cq(n:uH E)(m:I.Perm E)(e:I.Pairwise (λh c=>bz h c=V)):I=gE bz E:=by
 refine BZ (m.trans (i5 E).symm) e (qb n.aq n.iO) λh a c b d=>?_;have D:=pH (n.iO h (m.mem_iff.mp a) c<|m.mem_iff.mp b) (λi=>by subst i;rw[rF]at d;cases d);rw[d]at D;cases p:bz c h with
 |false=>rfl
 |true=>rw[p]at D;cases D
theorem Ba{f:aa}:∀{I:List aa},I.Pairwise (λh c=>bz c h=aA)->(∀h∈f::I,∀c∈f::I,ew 6 h c=V)->(kN bz f I).Pairwise (λh c=>bz c h=aA)
 |[],_,_=>eB _ _
 |z::s,e,lk=>by
  have Vk:=hq.mp e;unfold kN;split
  ·rename_i d;refine hq.mpr ⟨λi a=>?_,e⟩;cases p:bz i f with
   |false=>rfl
   |true=>
    have D:=tG (lk i (.tail _ a) f<|.head _) (lk f (.head _) z<|.tail _<|.head _) p d;rcases cm.mp a with rfl|a
    ·rw[rF]at D;cases D
    ·rw[Vk.1 i a]at D;cases D
  ·rename_i d;refine hq.mpr ⟨λi a=>?_,Ba Vk.2 λh b c g=>lk h ?_ c ?_⟩
   ·rcases cm.mp ((th f s).mem_iff.mp a) with rfl|a
    ·cases p:bz i z with
     |false=>rfl
     |true=>exact absurd p d
    ·exact Vk.1 i a
   ·rcases cm.mp b with rfl|b
    ·exact .head _
    ·exact .tail _ (.tail _ b)
   ·rcases cm.mp g with rfl|g
    ·exact .head _
    ·exact .tail _ (.tail _ g)
theorem HM:∀{I:List aa},(∀h∈I,∀c∈I,ew 6 h c=V)->(gE bz I).Pairwise (λh c=>bz c h=aA)
 |[],_=>.nil
 |f::s,lk=>by
  refine Ba (HM λh a c b=>lk h (.tail _ a) c<|.tail _ b) λh a c b=>lk h ?_ c ?_
  ·rcases cm.mp a with rfl|a
   ·exact .head _
   ·exact .tail _ ((i5 s).mem_iff.mp a)
  ·rcases cm.mp b with rfl|b
   ·exact .head _
   ·exact .tail _ ((i5 s).mem_iff.mp b)
def AK(n:ob E)(m:I.Perm E)(e:I.Pairwise (λh c=>bz c h=aA)):I=gE bz E:=by
 refine TR (λh c a b f z=>?_) e (HM n.iO) (m.trans (i5 E).symm);by_cases d:h=c
 ·exact d
 ·have D:=pH (n.iO h (m.mem_iff.mp a) c<|(i5 E).mem_iff.mp b) d;rw[f,z]at D;cases D
def iS:aa->Bool
 |.tup (.int _::_)=>V
 |.tup (.str _::_)=>V
 |_=>aA
def rV:aa->Bool
 |.tup (.int _::_)=>V
 |_=>aA
def sC:aa->Bool
 |.tup (.str _::_)=>V
 |_=>aA
def nC:aa->Bool
 |.tup (.tup _::_)=>V
 |_=>aA
section
variable{Vs:bE}{H:bg}{O:bq}{Vo:ae->ao->Prop}{j:ao}
theorem Ib{c F:Bool}(x:Nat)(n:O.units+x+2<bW){C:Bool->ao->Prop}:∀{E S:List aa}{Vj b:List ae}{g:Nat},fU x E S=V->F=decide (E.length<S.length)->dR j.heap E Vj->dR j.heap S b->(c=V->g=0->∃q s,E=q::s/\∀h,q≠.tup h)->C (gn E S) j->KatLex Vs H O c F C (Vj.zip b) g j
 |[],S,Vj,b,g,_,a,t,A,_,p=>by
  rw[show Vj=[] from t,a];exact kat_nil (by cases S<;>exact p)
 |v::E,[],Vj,b,g,_,a,t,A,_,p=>by
  rw[show b=[] from A,a,Ge];exact kat_nil p
 |v::E,d::S,Vj,b,g,e,w,t,A,y,p=>by
  rw[fU,cT]at e;let⟨u,@Vj,rfl,l,Wt⟩:=t;let⟨J,@b,rfl,cE,cQ⟩:=A;rw[xG];let@⟨B,Wj,G⟩:=pP e.1;refine kat_cons (iU x B Wj ⋯ l cE Vs H _ _ ?_);rw[G];rw[gn]at p;cases o:aa.beq v d with
  |true=>
   rw[o,aF rfl]at p;exact kat_yes (Ib x n e.2 (w.trans<|s9.mpr y1) Wt cQ (λ_ i=>⋯) p)
  |false=>
   rw[o,aJ da]at p;refine kat_no ?_;by_cases a:(c&&g==0)=V
   ·rw[a];rw[cT]at a;let⟨q,@s,i,L⟩:=y a.1 ⇑(a.2);cases i;rcases oA e.1 with I|⟨_,_,_,_,k,_⟩
    ·rcases I with ⟨M,r,k,m⟩|⟨f,z,k,m⟩
     ·cases k;cases m;let⟨@D,rfl⟩:=l;let⟨@V1,rfl⟩:=cE;rw[bz]at p;exact oneLt_int p
     ·cases k;cases m;let⟨@D,rfl⟩:=l;let⟨@V1,rfl⟩:=cE;rw[bz]at p;exact oneLt_str p
    ·exact absurd k (L _)
   ·rw[show (c&&g==0)=aA by simpa using a];exact kat_one _ _ (DU x e.1 n l cE Vs H _ _ p)
def x1{c:Bool}(n:ob E)(d:dR j.heap E VA)(bI:∀v∈E,∃s,v=.tup s)(x:c=V->∀v∈E,iS v=V)(R:O.units+9<bW):
  fY VA.length (n5 E) (fo Vs H O (q1 c)<|VA.toArray.zip VA.toArray) j:=by
 intro g r ab Vl y p;have S:=d.length;have a:=vV (E:=E) (g:=g) ⋯;have b:=vV (E:=E) (g:=r) ⋯;unfold n5 at p;rw[GI n a b]at p;let⟨@V2,l,A⟩:=d.get (r:=g) (u:=VA[g]) ↥0;let⟨@V8,m,B⟩:=d.get (r:=r) (u:=VA[r]) ↥0;rw[cK,l,cK,m]at p;rw[cK,l]at a;rw[cK,m]at b;let⟨@h,C⟩:=bI V2 a;let⟨@k,D⟩:=bI V8 b;subst C D;have lk:fU 5 h k=V:=n.iO _ a _ b;unfold fo;rw[vi rfl,vi rfl,cK,cK,dN Vl,dN y];show wpAny _ _ (keyLt' (q1 c) VA[g] VA[r]) _ _ _;let⟨f,T,w,@U,F,G,al,I,o⟩:=A;let⟨z,am,VJ,@Wu,J,L,an,M,q⟩:=B;rw[F,J];refine kat_lt (b:=c) G I L M ?_;have N:h.length=w.size:=by rw[o.length,df]
 have P:k.length=VJ.size:=by rw[q.length,df]
 refine Ib 5 ⋯ lk (by rw[N,P]) o q (λQ W=>?_) (by have t:ab (bz (.tup h)<|.tup k) j:=p;rw[bz]at t;exact t);have:=x Q _ a;unfold iS at this;split at this
 ·rename_i e;cases e;exact⟨_,_,rfl,λh i=>nomatch i⟩
 ·rename_i e;cases e;exact⟨_,_,rfl,λh i=>nomatch i⟩
 ·cases this
theorem H7:∀{E:List aa}{VA:List ae},dR j.heap E VA->(∀v∈E,∃F s,v=.tup (F::s))->∃ah,KatTups j.heap VA ah/\ah.length=VA.length/\
  ((∀v∈E,rV v=V)->∀u∈ah,∃g D,u=ae.int g D)/\((∀v∈E,sC v=V)->∀u∈ah,∃g D,u=ae.str g D)/\((∀v∈E,nC v=V)->∀u∈ah,∃h aQ,u=ae.ref h/\j.heap.get? h=Z aQ/\aQ.cls=.type "tuple")
 |[],VA,e,_=>by
  rw[show VA=[] from e];exact⟨[],trivial,rfl,(λ_ W e=>nomatch e),(λ_ W e=>nomatch e),(λ_ W e=>nomatch e)⟩
 |v::E,VA,e,k=>by
  let⟨u,@s,rfl,t,A⟩:=e;let⟨@ah,m,o,q,r,w⟩:=H7 A λf b=>k f (.tail _ b);let⟨F,@Wh,rfl⟩:=k v (.head _);let⟨h,n,VP,@x,rfl,y,z,B,C⟩:=t;let⟨l,@N,d,c,O⟩:=C;have G:VP[0]?=Z l:=by
   rw[<-eE,d];rfl
  refine⟨l::ah,KatTups.cons y z B G m,by simp[o],λi J a=>?_,λi J a=>?_,λi J a=>?_⟩
  ·rcases cm.mp a with rfl|a
   ·have:=i _ (.head _);unfold rV at this;split at this
    ·rename_i p;cases p;exact⟨_,c⟩
    ·cases this
   ·exact q (λf b=>i f<|.tail _ b) J a
  ·rcases cm.mp a with rfl|a
   ·have:=i _ (.head _);unfold sC at this;split at this
    ·rename_i p;cases p;exact⟨_,c⟩
    ·cases this
   ·exact r (λf b=>i f<|.tail _ b) J a
  ·rcases cm.mp a with rfl|a
   ·have:=i _ (.head _);unfold nC at this;split at this
    ·rename_i p;cases p;let⟨H,V4,W,@W,I,L,M,W⟩:=c;exact⟨H,V4,I,L,M⟩
    ·cases this
   ·exact w (λf b=>i f<|.tail _ b) J a
def pq(e:iS v=V):(rV v=V\/sC v=V)/\∃F s,v=.tup (F::s):=by
 unfold iS at e;split at e
 ·exact⟨.inl rfl,_,_,rfl⟩
 ·exact⟨.inr rfl,_,_,rfl⟩
 ·cases e
def H0(e:nC v=V):∃F s,v=.tup (F::s):=by
 unfold nC at e;split at e
 ·exact⟨_,_,rfl⟩
 ·cases e
def JH{x:Nat}(g:∀f∈E,∀z∈E,ew x f z=V)(e:∀v∈E,iS v=V):(∀v∈E,rV v=V)\/∀v∈E,sC v=V:=by
 cases E with
 |nil=>exact .inl λv hd=>nomatch hd
 |cons f E=>
  have Q:∀z∈f::E,∀{p:aa->Bool},(p=rV\/p=sC)->p f=V->p z=V:=λz c {p} j a=>by
   have I:=g f (.head _) z c;have k:=(pq<|e z c).1;have h:=pq (e f<|.head _);let⟨F,s,rfl⟩:=h.2;let⟨L,D,rfl⟩:=(pq<|e z c).2;cases x with
   |zero=>cases I
   |succ x=>
    rw[ew,fU,cT]at I;rcases j with rfl|rfl
    ·rcases oA I.1 with I|⟨_,_,_,_,b,_⟩
     ·rcases I with ⟨_,_,_,d⟩|⟨_,_,b,_⟩
      ·rw[d];rfl
      ·rw[b]at a;cases a
     ·rw[b]at a;cases a
    ·rcases oA I.1 with I|⟨_,_,_,_,b,_⟩
     ·rcases I with ⟨_,_,b,_⟩|⟨_,_,_,d⟩
      ·rw[b]at a;cases a
      ·rw[d];rfl
     ·rw[b]at a;cases a
  rcases (pq<|e f<|.head _).1 with i|i
  ·exact .inl λv hd=>Q v hd (.inl rfl) i
  ·exact .inr λv hd=>Q v hd (.inr rfl) i
end
section
variable{a:aL}
theorem bM.pick{b:aD}{VJ:List au}(e:bM b E VJ):∀{m:List Nat},(∀q∈m,q<E.length)->bM b (m.map λg=>E.getD g .a3) (m.map λg=>VJ.getD g .a3)
 |[],_=>rfl
 |q::m,a=>by
  let⟨@u,c,d⟩:=e.get (g:=q) (v:=E.getD q .a3) (by
   have:=a q (.head _);rw[cK,dN this];rfl)
  refine⟨u,_,?_,d,e.pick λr f=>a r<|.tail _ f⟩;rw[b4,cK,c];rfl
structure ja(E:List aa):Prop where
 ord:uH E
 fst:(∀v∈E,iS v=V)\/(∀v∈E,nC v=V)
structure sr(E:List aa):Prop where
 ord:ob E
 fst:(∀v∈E,iS v=V)\/(∀v∈E,nC v=V)
def ja.w{E:List aa}(n:ja E):sr E:=⟨n.ord.w,n.fst⟩
def sr.tup(n:sr E):∀v∈E,∃s,v=.tup s:=λv hd=>by
 rcases n.fst with i|i
 ·let⟨F,s,d⟩:=(pq<|i v hd).2;exact⟨_,d⟩
 ·let⟨F,s,d⟩:=H0 (i v hd);exact⟨_,d⟩
def dR.pJ{e Vk:a4}(q:∀c n,e.get? c=Z n->Vk.get? c=Z n){E:List aa}{Vj:List ae}(f:dR e E Vj):dR Vk E Vj:=f.keep λh n W W d W W=>q h n d
def y3{e:a4}{j:ao}(n:sr E)(A:2<=VA.length)(f:dR j.heap E VA)(O:bq)(Vo:ae->ao->Prop)(C:gR->ao->Prop)(b:C (q1<|decide (∀v∈E,iS v=V)) j):
  wpAny (aO a.prog a.w) O (Ay VA.toArray) C Vo j:=by
 let⟨@ah,d,r,k,l,m⟩:=H7 f (n.fst.elim (λi v hd=>(pq<|i v hd).2) λi v hd=>H0<|i v hd);have s:=f.length;by_cases hf:∀v∈E,iS v=V
 ·rw[di hf]at b;rcases JH n.ord.iO hf with hf|hf
  ·refine yy (T:=ae.type "int") d ⋯ (λu c=>?_) rfl ?_
   ·let⟨g,@D,rfl⟩:=k hf u c;exact xh rfl
   ·rw[show (ae.type "int" != ae.type "tuple")=V by decide];exact b
  ·refine yy (T:=ae.type "str") d ⋯ (λu c=>?_) rfl ?_
   ·let⟨g,@D,rfl⟩:=l hf u c;exact xh rfl
   ·rw[show (ae.type "str" != ae.type "tuple")=V by decide];exact b
 ·rw[dU hf]at b;have o:=n.fst.resolve_left hf;refine yy (T:=ae.type "tuple") d ⋯ (λu c=>?_) rfl ?_
  ·let⟨h,@aQ,rfl,p,q⟩:=m o u c;have:Looks (aO a.prog a.w) j.heap (pe<|.ref h) aQ.cls:=(Looks.ld p).andThen .now;rw[q]at this;exact this
  ·rw[show (ae.type "tuple" != ae.type "tuple")=aA by decide];exact b
def G1(r:a.calm=V)(P:a.A.units+20<bW):eD a (.builtin "sorted") (λw b C=>∃(h:aj) (E:List aa) (VJ:List au),w=[.ref h]/\(dw a.K b h VJ\/cZ a.K b h VJ)/\bM b E VJ/\sr E/\
  ∀I Q,b I=X->bM b (gE bz E) Q->C (.ref I) (upd b I<|.lst Q)):=by
 intro G j B b w VH C y s e;let⟨h,E,@VJ,rfl,Vy,Vl,n,p⟩:=e;let⟨@J,rfl,t⟩:=h2 s;cases t;have u:VJ.length<=1000:=by rw[<-Vl.length];exact n.ord.l8
 have go:∀{Vv:String}{VA:List ae}{x:Nat}{aQ:ba},(Vv = "list" \/ Vv = "tuple")->bY VJ VA->j.heap.get? h=Z aQ->aQ.cls=.type Vv->aQ.data=.seq VA.toArray x->wpAny (aO a.prog a.w) a.A (call (.builtin "sorted") [.ref h]) (eM a G B C) a.cR j:=by
  intro Vv VA x aQ z c d aG f;have k:=Vl.ft y.a5 c;have D:VA.length=E.length:=k.length.symm;refine Gr r (n5 E) (q1<|decide (∀v∈E,iS v=V)) y c z d aG f u (λA l Vq q O Vo C F=>y3 (e:=l) n A (k.pJ q) O Vo C F) (λl Vq q=>?_) (.inl (by have:=n.ord.l8;lia)) λm I i o aW=>?_
  ·refine x1 (j:={j with heap:=l,toks:=Vq}) n.ord (k.pJ q) n.tup (λL=>?_) (by show a.A.units+1+1+9<bW;lia);exact fE L
  ·rw[D]at i o;have M:(m.toList.map λg=>E.getD g .a3)=gE bz E:=AK n.ord (uF i) (xx n.ord i o);refine p I _ aW ?_;rw[<-M];exact Vl.pick λq N=>gI.mp (i.mem_iff.mp N)
 rcases Vy with Vy|Vy
 ·let⟨@VA,c,m,W⟩:=y.list Vy;let⟨@aQ,d,aG,⟨@x,f⟩⟩:=m.isList;exact go (.inl rfl) c d aG f
 ·let⟨@VA,c,m,W⟩:=y.tuple Vy;let⟨@aQ,d,aG,⟨@x,f⟩⟩:=m;exact go (.inr rfl) c d aG f
theorem HF{b:aD}:∀{Vx:List (List aa×au)}{S:List (List aa×aj×ae)},dE (λ(m:List aa×au) (p:List aa×aj×ae)=>m.1=p.1/\g6 b m.1 p.2.1/\ck m.2 p.2.2) Vx S->
  bM b (Vx.map λm=>.tup m.1) (S.map λf=>au.ref f.2.1)/\bY (S.map λf=>au.ref f.2.1) (S.map λf=>ae.ref f.2.1)
 |_,_,.nil=>⟨rfl,.nil⟩
 |_,_,.cons s D=>by
  let@⟨t,A⟩:=HF D;exact⟨⟨_,_,rfl,s.2.1.2,t⟩,.cons rfl A⟩
def BA(a2:a.calm=V)(cs:a.A.units+20<bW):eD a (.builtin "sorted") (λw b C=>∃(v:aj) (Vx:List (List aa×au)),w=[.ref v]/\jw b v (.aw Vx)/\ja (Vx.map λm=>.tup m.1)/\
  ∀I Q,b I=X->bM b (gE bz<|Vx.map λm=>.tup m.1) Q->C (.ref I) (upd b I<|.lst Q)):=by
 intro G j B b w VH C y s e;let⟨v,@Vx,rfl,hd,dA,p⟩:=e;let⟨@J,rfl,bd⟩:=h2 s;cases bd;let@⟨i,M,⟨@S,rel,⟨n,be,@VU,bi,bm,bn,bs,aq⟩⟩⟩:=(show eb a.prog a.w b j.heap v (.aw Vx) from hd.ok y.a5);let@⟨Vl,k⟩:=HF rel;have T:hH j.heap v (S.map λf=>ae.ref f.2.1) VU:=⟨n,be,bi,bm,bn,by rw[bs,fl];rfl⟩;generalize (S.map λf=>ae.ref f.2.1)=VA at k T;generalize (S.map λf=>au.ref f.2.1)=VJ at Vl k;generalize db:(Vx.map λm=>aa.tup m.1)=E at Vl dA p;have D:=Vl.ft y.a5 k;have U:VA.length=E.length:=D.length.symm;have l8:=dA.ord.l8;have ds:VJ.length=VA.length:=k.length;have al:VA.length<=sizeLine:=dc ⋯ (show 1000<=sizeLine by decide);refine ui xT xE yQ (xw _) ?i
 case i=>
  unfold bH.«sorted»;refine aB (m:=Ab "sorted" 1 1 _) (aR<|aB<|kdu_collect (A:=a.A.in1) (Mb M) (y.ok.hd a2) T al λVk Vq F L am=>?_);have bv:F.toList=VA:=by
   apply wM
   ·rw[df];exact am.1
   ·intro g t A;have:=am.2 g F.toList[g] (by rw[<-eE];exact dN t);have this:VA[g]?=Z F.toList[g]:=this;rw[dN A]at this;exact (Option.some.inj this).symm
  rw[bv];refine aB (vk ?_ al);have an:(Vk.push<|fI "list" VA.toArray 0).get? Vk.objs.size=Z (fI "list" VA.toArray 0):=dM _ rfl;have bK:∀c n,j.heap.get? c=Z n->(Vk.push<|fI "list" VA.toArray 0).get? c=Z n:=λc n d=>cG _ (L c n d);have ap:aI a G B b {j with heap:=Vk,toks:=Vq}:=y.kept L;have as:∀c n,j.heap.get? c=Z n->c≠Vk.objs.size:=λc n d=>c0 (cA<|L c n d);refine aB (f9<|iR yc ⟨_,an,rfl⟩ z6 ?z<|wJ _)
  case z=>
   refine Am (j:={j with heap:=Vk.push (fI "list" VA.toArray 0),toks:=Vq}) (n5 E) (q1<|decide (∀v∈E,iS v=V)) an
    (λA N P C ca=>y3 (a:=a) (e:=N) dA.w A (D.pJ λc n o=>P c n (as c n o)<|bK c n o) _ _ C ca)
    (λN P=>x1 (j:={j with heap:=N,toks:=Vq}) dA.w.ord (D.pJ λc n o=>P c n (as c n o)<|bK c n o) dA.w.tup (λcd=>fE cd) (by show a.A.units+1+1+9<bW;lia))
    (.inl ⋯) ⋯ λm A h a1 ce ⟨ch,ci⟩=>⟨_,rfl,aR ⟨_,rfl,?_⟩⟩;have cl:b Vk.objs.size=X:=ap.a5.fresh (bD _);have co:∀c n,Vk.get? c=Z n->c≠Vk.objs.size:=λc n d=>c0 (cA d);rw[U]at h a1;refine⟨.ref Vk.objs.size,upd b Vk.objs.size<|.lst<|m.toList.map λg=>VJ.getD g .a3,?_,rfl,p _ _ cl ?_⟩
   ·refine ap.laid (V1:=Vq) (λc J d=>ce c J (co c J d)<|cG _ d) (bD _) ⟨?_,_,ch,?_,ci⟩
    ·rw[a8,df,h.size];lia
    ·refine vq ↥0 λg u J t A=>?_;rw[d3]at t A;cases R:m.toList[g]? with
     |none=>rw[R]at t;cases t
     |some q=>
      rw[R]at t A;cases t;cases A;have r:q<VA.length:=by rw[U];exact gI.mp (h.mem_iff.mp<|eC R)
      let⟨@J,x,cr⟩:=k.get (g:=q) (f:=VJ[q]'⋯) (by simp[show q<VJ.length by lia]);rw[dN r]at x;have x:=Option.some.inj x;simp only[List.getD,dN r,dN (show q<VJ.length by lia),qI];rw[x];exact cr
   ·rw[<-AK dA.w.ord (uF h) (xx dA.w.ord h a1)];exact Vl.pick λq r=>gI.mp (h.mem_iff.mp r)
def rD(E:List aa):Bool:=(decide (E.length<=1000)&&E.all (λh=>E.all λc=>ew 6 h c)&&decide E.Nodup&&(E.all iS || E.all nC))
def m6:rD E=V↔ja E:=by
 unfold rD;rw[cT,cT,cT,vS,gD,gD,jC,jC,jC];constructor
 ·rintro⟨⟨⟨t,A⟩,a⟩,b⟩;exact⟨⟨t,λh d c e=>jC.mp (A h d) c e,a⟩,b⟩
 ·rintro⟨⟨t,A,a⟩,b⟩;exact⟨⟨⟨t,λh d=>jC.mpr λc e=>A h d c e⟩,a⟩,b⟩
def gB(E:List aa):Option ai:=(if rD E=V then Z (.lst<|gE bz E) else X)
def fa:ic:=(λE=>match E with
 |[.lst f]=>match s6 f with
  |some VT=>z2 [.lst f]
  |none=>gB f
 |[.im (.tup f)]=>gB f
 |[.aw Vx]=>gB (Vx.map λm=>.tup m.1)
 |[.fu Vx]=>gB (Vx.map λm=>.tup m.1)
 |_=>X)
def t4{v:ai}(e:gB E=Z v):ja E/\v=.lst (gE bz E):=by
 unfold gB at e;split at e
 ·rename_i d;cases e;exact⟨m6.mp d,rfl⟩
 ·cases e
theorem zd{b:aD}:∀{Vx:List (List aa×aa)}{M:List (List aa×au)},ed b Vx M->(Vx.map λm=>aa.tup m.1)=M.map λm=>aa.tup m.1
 |_,_,.nil=>rfl
 |_,_,.cons s D=>by rw[b4,b4,zd D,s.1]
def BK(e:a.calm=V)(h:a.A.units+20<bW):gV a (.builtin "sorted") fa:=by
 intro G j B b w VH C y s q;let⟨E,@v,k,d,p⟩:=q;unfold fa at d;split at d
 ·rename_i f;split at d
  ·exact T1 e h G j B b w VH C y s ⟨_,v,k,d,p⟩
  ·let@⟨dA,rfl⟩:=t4 d;let⟨@u,rfl,⟨W,m,@VJ,rfl,t,A,W⟩⟩:=gb k;exact G1 e h G j B b _ VH C y s ⟨m,f,VJ,rfl,.inl<|dw.of t,A,dA.w,λI Q aW c=>b_.l p aW c⟩
 ·rename_i f;let@⟨dA,rfl⟩:=t4 d;let⟨@u,rfl,o⟩:=gb k;let⟨m,@VJ,rfl,t,A⟩:=o.i;exact G1 e h G j B b _ VH C y s ⟨m,f,VJ,rfl,.inr<|cZ.of t,A,dA.w,λI Q aW c=>b_.l p aW c⟩
 ·rename_i Vx;let@⟨dA,rfl⟩:=t4 d;let⟨@u,rfl,⟨W,m,@M,rfl,t,A,W⟩⟩:=gb k;rw[zd A]at dA p;exact BA e h G j B b _ VH C y s ⟨m,M,rfl,.inl t,dA,λI Q aW c=>b_.l p aW c⟩
 ·rename_i Vx;let@⟨dA,rfl⟩:=t4 d;let⟨u,rfl,o⟩:=gb k;let⟨W,m,M,n,rfl,t,A,W⟩:=o;rw[zd A]at dA p;exact BA e h G j B b _ VH C y s ⟨m,M,rfl,.inr ⟨n,t⟩,dA,λI Q aW c=>b_.l p aW c⟩
 ·cases d
end
def ja.perm{S:List aa}(n:ja E)(m:S.Perm E):ja S:=
 ⟨⟨by rw[m.length_eq];exact n.ord.l8,λh a c b=>n.ord.iO h (m.mem_iff.mp a) c<|m.mem_iff.mp b,m.nodup_iff.mpr n.ord.aq⟩,n.fst.imp (λe v hd=>e v<|m.mem_iff.mp hd) λe v hd=>e v<|m.mem_iff.mp hd⟩
theorem CW{b:aD}:∀{a:List (List aa×aj)},(∀i∈a,cC b (.tup i.1)<|.ref i.2)->bM b ((a.map (·.1)).map .tup) (a.map λi=>au.ref i.2)
 |[],_=>rfl
 |i::a,e=>⟨_,_,rfl,e i<|.head _,CW λz c=>e z<|.tail _ c⟩
theorem xo:∀a:List (List aa×aj),bY (a.map λi=>au.ref i.2) (a.map λi=>ae.ref i.2)
 |[]=>.nil
 |i::a=>.cons rfl (xo a)
section
variable{a:aL}{G:List (aj×ba)}{B:a6}{b:aD}{j:ao}{Vz:List aa->aj->Prop}
def QZ(ap:a.calm=V)(cr:a.A.units+20<bW){VD:aj}{P:List (List aa)}{C:cW}(y:aI a G B b j)(as:fQ a.w Vz j.heap VD (h4 a.w) P)(a1:∀q c,Vz q c->cC b (.tup q) (.ref c))(n:ja (P.map .tup))(x:P.length<=300)(p:∀I Q,b I=X->bM b (gE bz<|P.map .tup) Q->C (.ref I) (upd b I<|.lst Q)):
  wpAny (aO a.prog a.w) a.A (call (.builtin "sorted") [.ref VD]) (eM a G B C) a.cR j:=by
 refine ui xT xE yQ (xw _) ?i
 case i=>
  unfold bH.«sorted»;refine aB (m:=Ab "sorted" 1 1 _) (aR<|aB<|Nv (O:=a.A.in1) (y.ok.hd ap) as x λVk Vq v h a2 VN bd=>?_);have D:aI a G B b {j with heap:=Vk,toks:=Vq,drawn:=v}:=(y.Sm v).kept (V1:=Vq) a2;have Vl:bM b ((h.map (·.1)).map .tup) (h.map λi=>au.ref i.2):=CW λi x=>a1 _ _ (bd i x);have r:dR Vk ((h.map (·.1)).map .tup) (h.map λi=>ae.ref i.2):=Vl.ft D.a5 (xo h);have L:((h.map (·.1)).map aa.tup).Perm (P.map .tup):=VN.map _;have VW:=n.perm L;have be:h.length<=300:=by rw[<-a8 (f:=(·.1)),VN.length_eq];exact x
  generalize cs:(h.map (·.1)).map aa.tup=E at Vl r L VW;generalize bi:h.map (λi=>au.ref i.2)=VJ at Vl;have M:bY VJ (h.map λi=>ae.ref i.2):=bi ▸ xo h;generalize bm:h.map (λi=>ae.ref i.2)=VA at r M ⊢;have T:VA.length=E.length:=r.length.symm;have bn:VA.length<=300:=by rw[<-bm,a8];exact be
  show wpAny _ _ (qa VA >>= _) _ _ _;refine aB (vk ?_ (dc bn ∅));have U:(Vk.push<|fI "list" VA.toArray 0).get? Vk.objs.size=Z (fI "list" VA.toArray 0):=dM _ rfl;refine aB (f9<|iR yc ⟨_,U,rfl⟩ z6 ?z<|wJ _)
  case z=>
   have N:∀k:a4,(∀c aQ,c≠Vk.objs.size->(Vk.push<|fI "list" VA.toArray 0).get? c=Z aQ->k.get? c=Z aQ)->∀c aQ,Vk.get? c=Z aQ->k.get? c=Z aQ:=λk s c aQ d=>s c aQ (c0<|cA d) (cG _ d);refine Am (j:={j with heap:=Vk.push (fI "list" VA.toArray 0),toks:=Vq,drawn:=v}) (n5 E) (q1<|decide (∀v∈E,iS v=V)) U (λA k s C bs=>y3 (e:=k) (j:={j with heap:=k,toks:=Vq,drawn:=v}) VW.w A (r.pJ<|N k s) _ _ C bs) (λk s=>?_) (.inl ⋯) ⋯ λm A o al bv ⟨ca,cd⟩=>⟨_,rfl,aR ⟨_,rfl,?_⟩⟩
   ·refine x1 (j:={j with heap:=k,toks:=Vq,drawn:=v}) VW.w.ord (r.pJ<|N k s) VW.w.tup (λce=>fE ce) (by show a.A.units+1+1+9<bW;lia)
   ·have ch:b Vk.objs.size=X:=D.a5.fresh (bD _);rw[T]at o al;have ci:(m.toList.map λg=>E.getD g .a3)=gE bz (P.map .tup):=AK n.w.ord ((uF o).trans L) (xx VW.w.ord o al);have am:=Vl.pick (m:=m.toList) λq R=>gI.mp (o.mem_iff.mp R);rw[ci]at am;refine⟨.ref Vk.objs.size,upd b Vk.objs.size<|.lst<|m.toList.map λg=>VJ.getD g .a3,?_,rfl,p _ _ ch am⟩;refine D.laid (V1:=Vq) (λc J d=>N A bv c J d) (bD _) ⟨?_,_,ca,?_,cd⟩
    ·rw[a8,df,o.size];exact dc (by lia:E.length<=300) ∅
    ·refine vq ↥0 λg u J t A=>?_;rw[d3]at t A;cases S:m.toList[g]? with
     |none=>rw[S]at t;cases t
     |some q=>
      rw[S]at t A;cases t;cases A;have R:q<E.length:=gI.mp (o.mem_iff.mp<|eC S);have an:q<VJ.length:=by rw[M.length,T];exact R
      let⟨@J,cl,co⟩:=M.get (g:=q) (f:=VJ[q]) (dN an);show ck (VJ.getD q .a3) (VA.getD q .none);rw[cK,dN an,cK,cl];exact co
def hr(P:List (List aa)):List (List aa):=(P.foldl ij [])
theorem AI(P:List (List aa)):∀g,g<=P.length->iN (λg=>P.getD g []) g=(P.take g).foldl ij []
 |0,_=>by rw[wC];rfl
 |g+1,e=>by
  rw[Br (show g<P.length from e),x9,<-AI P g (Nat.le_of_succ_le e)];show ij _ (P.getD g [])=ij _ P[g];rw[cK,dN<|show g<P.length from e];rfl
def Ni(I:List (List aa)):∀a:List (List aa),a.length<=(I.foldl ij a).length:=by
 induction I with
 |nil=>intro a;exact bD _
 |cons q s b=>
  intro a;refine dc ?_ (b _);unfold ij;split
  ·exact bD _
  ·rw[dd];exact tV _ _
def K8(e:g<=P.length):(iN (λg=>P.getD g []) g).length<=(hr P).length:=by
 rw[AI P g e];have d:hr P=(P.drop g).foldl ij ((P.take g).foldl ij []):=by
  rw[hr,<-x9,fz]
 rw[d];exact Ni _ _
def MG(P:List (List aa)):iN (λg=>P.getD g []) P.length=hr P:=by
 rw[AI P _ (bD _),sE];rfl
def Ng(We:fh):b5:=(λB b C=>We B b λVj Vt=>∃(h:aj) (P:List (List aa)) (VJ:List au),Vj=[.ref h]/\Vt h=Z (.tup VJ)/\bM Vt (P.map .tup) VJ/\(∀q∈P,aa.keys 7 q=V)/\ja ((hr P).map .tup)/\(hr P).length<300/\
 ∀I Q,Vt I=X->bM Vt (gE bz<|(hr P).map .tup) Q->C (.ref I) (upd Vt I<|.lst Q))
theorem bM.at{b:aD}:∀{E:List aa}{Vj:List au}{g:Nat}{u:au},bM b E Vj->Vj[g]?=Z u->∃v,E[g]?=Z v/\cC b v u
 |[],Vj,g,u,e,d=>by rw[show Vj=[] from e]at d;simp at d
 |v::E,Vj,0,u,e,d=>by
  let⟨J,@s,rfl,t,A⟩:=e;cases d;exact⟨v,rfl,t⟩
 |v::E,Vj,g+1,u,e,d=>by
  let⟨J,@s,rfl,t,A⟩:=e;let⟨@a,c,f⟩:=bM.at (g:=g) A ⇑d;exact⟨a,by simpa using c,f⟩
def Mm(D:a.calm=V)(E:a.A.units+30<bW){I:aj}{P:List (List aa)}{VJ:List au}{C:ae->ao->Prop}(y:aI a G B b j)(F:b I=Z (.tup VJ))(Vl:bM b (P.map .tup) VJ)(L:∀q∈P,aa.keys 7 q=V)(T:(hr P).length<300)(e:∀Vk Vq VD,aI a G B b {j with heap:=Vk,toks:=Vq}->fQ a.w (λq c=>aa.keys 7 q=V/\cC b (.tup q) (.ref c)) Vk VD (h4 a.w) (hr P)->C (.ref VD) {j with heap:=Vk,toks:=Vq}):
  wpAny (aO a.prog a.w) a.A (call (.type "set") [.ref I]) C a.cR j:=by
 let@⟨i,⟨@VA,d,⟨@n,M,N,⟨@x,Q⟩⟩⟩⟩:=y.a5 I _ F;have R:VA.length=P.length:=by rw[<-d.length,<-Vl.length,a8]
 have l:VA.toArray.size=P.length:=by rw[cN,R]
 refine MM (Vz:=λq c=>aa.keys 7 q=V/\cC b (.tup q) (.ref c)) (VP:=VA.toArray) (P:=P) (y.ok.hd D) M (Prod.mk.inj N).1 Q E (λg u h=>?_) (λp c i=>⟨i.1,i.2.ft y.a5 rfl⟩) (λg Vl=>?_) λVk Vq m cI=>?_
 ·rw[uv]at h;have o:g<VJ.length:=by rw[d.length];exact (eX.mp h).1
  let⟨@J,r,s⟩:=d.get (g:=g) (f:=VJ[g]) (dN o);rw[h]at r;cases r;let⟨@v,t,k⟩:=Vl.at (g:=g) (u:=VJ[g]) (dN o);rw[d3]at t;let⟨@q,z,rfl⟩:=b9.mp t;let⟨c,@w,S,U,al⟩:=id k;rw[S]at s k;refine⟨c,s,?_⟩;rw[cK,z];exact⟨L q<|eC z,k⟩
 ·rw[l]at Vl;have:=K8 (P:=P) (nc Vl);lia
 ·rw[l,MG]at m;exact e Vk Vq _ (y.kept (V1:=Vq) cI) m
def MO{We:fh}(d:a.calm=V)(f:a.A.units+30<bW)(g:eu a "sorted")(k:a.aU "sorted" = X)(l:eu a "set")(n:a.aU "set" = X)(o:hg a [h] We)(Vy:bP [h] a.env=[(aA,bJ h a.env)]:=by rfl):
  bG a (.Call (.Name "sorted" Wj) [.Call (.Name "set" m) [h] [] VC] [] WN) (Ng We):=by
 intro G j B b C y e;refine qo (pU y g k (show iA "sorted" = Z (.builtin "sorted") by decide +kernel) (Gk ?_ rfl rfl) ∅ ∅);refine Cc ?_;refine Call_ (pU y l n (show iA "set" = Z (.type "set") by decide +kernel)<|zJ (b0 (o VC G j B b _ y e) λVH F ⟨Vj,Vt,r,s,t⟩=>?_) Vy rfl);let⟨I,P,@VJ,rfl,u,Vl,v,w,x,p⟩:=t;let⟨@J,rfl,z⟩:=h2 s;cases z;exact Mm d f r u Vl v x λVk Vq VD D E=>Ca (QZ d ⋯ D E (λq c i=>i.2) w ⋯ p)
end
def pM:List aa->Option (List<|List aa)
 |[]=>Z []
 |.tup h::s=>(pM s).map (h::·)
 |_=>X
theorem He:∀{f:List aa}{P:List (List aa)},pM f=Z P->f=P.map .tup
 |[],P,e=>by cases e;rfl
 |.tup h::s,P,e=>by
  let⟨@q,t,rfl⟩:=b9.mp e;rw[He t];rfl
 |.a3::_,_,e=>by cases e
 |.av _::_,_,e=>by cases e
 |.int _::_,_,e=>by cases e
 |.str _::_,_,e=>by cases e
 |.fn _::_,_,e=>by cases e
 |.aW _::_,_,e=>by cases e
 |.fd _::_,_,e=>by cases e
def ud(P:List (List aa)):Bool:=(P.all (aa.keys 7)&&decide ((hr P).length<300))
def sS(L:ay (List bN)):ay ai:=(λk=>(L k).bind λm=>(h5 m.2 m.1).bind λE=>match E with
 |[.im (.tup f)]=>(pM f).bind λP=>if ud P=V/\rD ((hr P).map .tup)=V then Z (.lst<|gE bz<|(hr P).map .tup,m.2) else X
 |_=>X)
def Bx:ud P=V↔(∀q∈P,aa.keys 7 q=V)/\(hr P).length<300:=by
 unfold ud;rw[cT,jC,gD]
section
variable{a:aL}
def PT{L:ay (List bN)}(q:a.A.units+30<bW)(r:eu a "sorted")(v:a.aU "sorted" = X)(x:eu a "set")(y:a.aU "set" = X)(g:fV a [h] L)(Vy:bP [h] a.env=[(aA,bJ h a.env)]:=by rfl)(z:a.calm=V:=by rfl):
  bh a (.Call (.Name "sorted" Wj) [.Call (.Name "set" m) [h] [] VC] [] WN) (sS L):=by
 refine d6 (MO z q r v x y g Vy) λB b C D=>?_;let⟨k,N,s,@VL,Y,aq,F,p⟩:=D;let⟨@⟨VI,Vu⟩,t,A⟩:=bB.mp F;let⟨@E,G,i⟩:=bB.mp A;refine⟨k,N,VI,Vu,Y,aq,t,λVj Vt U am j VG H=>?_⟩;have J:=VG.read j G;split at i
 ·rename_i f;let⟨@P,M,l⟩:=bB.mp i;split at l
  ·rename_i o;cases l;let⟨@u,rfl,d⟩:=Ao J;let⟨c,@w,rfl,R,Vl⟩:=(show ∃h w,u=au.ref h/\Vt h=Z (.tup w)/\bM Vt f w from d);cases He M;let@⟨S,T⟩:=Bx.mp o.1;refine⟨c,P,w,rfl,R,Vl,S,m6.mp o.2,T,λI Q aW al=>?_⟩;have e:cY Vt (upd Vt I<|.lst Q):=(cY.refl Vt).upd aW;exact p _ _ U [I] (j.mono e.tupS λh W n d=>e h n d) ⟨I,_,rfl,d_,al.mono e.tupS.tup,rfl⟩ (H.new e (eB _ _) (λh g=>by rw[cb.mp g];exact aW) j.chg)
  ·cases l
 ·cases i
end
end L2
namespace L2
open Spec PyProof.Rows
end L2
namespace L2
end L2
namespace PySem
open PySem.Sem (wp)
def UR:yd (.type "list") "keys" = pure X:=by rw[yh,zO];kernel_rfl
def O_{Vs:bE}{H:bg}{O:bq}{Vo:ae->ao->Prop}{j:ao}{h:aj}{w:Array ae}{q:Nat}{C:Option ae->ao->Prop}(a:j.heap.get? h=Z {cls:=.type "list",data:=.seq w q})(i:O.handled=X)(e:∀Vk Vq,(∀c n,j.heap.get? c=Z n->Vk.get? c=Z n)->C X {j with heap:=Vk,toks:=Vq}):wpAny (aO Vs H) O (getAttr? (.ref h) "keys") C Vo j:=by
 let⟨k,L,v,Vq,VI⟩:=j;have b:∀f,(⟨k,L,v,f,VI⟩:ao).TypeIs (.ref h) "list" := λ_=>⟨_,a,rfl⟩;have p:=sub_AttributeError;have r:=x8.lookup;have s:=x8.bind (.ref h);have t:=am_list_getattr_none;unfold getAttr? getAttrBy? getAttrBy;repeat (any_goals (first|assumption|exact b _|((with_reducible show wpAny _ _ (call (ae.builtin "list.__getattribute__") _ _) _ _ _);refine qk x8 (b _) am_entry_list_getattribute (F.args_list_getattribute_2 _ _) (meets_getattribute_miss_list h w q _ "keys" _ UR (by decide +kernel) ∅) ⟨a,i,λVk f d g=>?_⟩)|wp_step))
 let⟨V1,@u,l⟩:=g.there;show wpAny _ _ (Ij _ _ _ _ _ _ _) _ _ _;unfold Ij;have m:∀o,(⟨Vk,L,v,o,VI⟩:ao).TypeIs (.ref d) "AttributeError" := λ_=>⟨_,l,rfl⟩;repeat (any_goals (first|assumption|exact m _|wp_step))
 exact e Vk _ g.keeps
end PySem
namespace PySem
namespace F
def Hb:qc pf "dict.update.loop" = Z bH.«dict.update.loop»:=G8 (by kernel_rfl)
def uW:plainId "dict.update.loop" = V:=by decide +kernel
end F
end PySem
namespace L2
open Spec PyProof.Rows PySem.W
variable{VC:Pos}{u q:bl}
theorem vM{VM Wm:Type}{N:VM->Wm->Prop}:∀{a:List VM}{b:List Wm},dE N a b->∀(g:Nat),g<a.length->∃h c,a[g]?=Z h/\b[g]?=Z c/\N h c
 |_,_,.nil,g,e=>by simp at e
 |_,_,.cons s D,0,e=>⟨_,_,rfl,rfl,s⟩
 |_,_,.cons s D,g+1,e=>by
  let⟨h,@c,f,z,i⟩:=vM D g ⇑e;exact⟨h,c,by simpa using f,by simpa using z,i⟩
def o2:List aa->Option (List<|List aa×aa)
 |[]=>Z []
 |.tup [.tup q,v]::s=>(o2 s).map λj=>(q,v)::j
 |_=>X
def Uz:∀{f:List aa}{Vw:List (List aa×aa)},o2 f=Z Vw->f=Vw.map λm=>.tup [.tup m.1,m.2]:=by
 intro f;induction f with
 |nil=>intro Vw e;cases e;rfl
 |cons h f a=>
  intro Vw e;unfold o2 at e;split at e
  ·cases e;rename_i d;cases d
  ·rename_i q v s d;cases d;let⟨@j,b,c⟩:=b9.mp e;cases c;rw[b4,<-a b]
  ·cases e
def nt(Vw:List (List aa×aa)):List (List aa×aa):=(Vw.foldl (λh m=>fL h m.1 m.2) [])
def ym(b:aD)(u:au)(m:List aa×aa):Prop:=(∃D h z,u=.ref D/\b D=Z (.tup [.ref h,z])/\g6 b m.1 h/\cC b m.2 z)
theorem BC{b:aD}:∀{Vw:List (List aa×aa)}{VJ:List au},(∀m∈Vw,aa.keys 7 m.1=V)->bM b (Vw.map λm=>.tup [.tup m.1,m.2]) VJ->dE (ym b) VJ Vw
 |[],VJ,_,e=>by rw[show VJ=[] from e];exact .nil
 |m::Vw,VJ,a,e=>by
  let⟨u,@s,rfl,⟨D,@Q,rfl,t,⟨v1,@o,rfl,A,⟨c,@d,rfl,f,g⟩⟩⟩,i⟩:=e;cases (show d=[] from g);let⟨h,@j,rfl,k,l⟩:=A;exact .cons ⟨D,h,c,rfl,t,⟨a m<|.head _,h,j,rfl,k,l⟩,f⟩ (BC (λp n=>a p<|.tail _ n) i)
section
variable{a:aL}{G:List (aj×ba)}{B:L2.a6}{b:aD}{U:ao}
def e9.is{Vx:List (List aa×au)}{w:List (List aa×aj×ae)}(s:e9 b Vx w):∀f∈w,g6 b f.1 f.2.1:=by
 intro f a;let⟨g,Vl,rfl⟩:=oT.mp a;let⟨m,@p,t,A,c,d,W⟩:=vM s g (by rw[dE.length s];exact Vl);rw[dN Vl]at A;have A:=Option.some.inj A;subst A;rw[<-c];exact d
def xN(d:aI a G B b U){k:aj}{e Vk:a4}{Vx:List (List aa×au)}{w:List (List aa×aj×ae)}(g:e.DictOfH (eh a.prog a.w) k w)(Wf:e9 b Vx w)(cI:∀c n,U.heap.get? c=Z n->Vk.get? c=Z n)(h:∀n,e.get? k=Z n->Vk.get? k=Z n):Vk.DictOfH (eh a.prog a.w) k w:=by
 let⟨n,S,@VU,t,A,i,j,W,l⟩:=g;have m:aI a G B b {U with heap:=Vk}:=d.kept (V1:=U.toks) cI;exact⟨n,S,VU,h n t,A,i,j,λf o=>kT (e:=Vk) m.a5<|Wf.is f o,l⟩
def L0(t:aI a G B b U){O:bq}(as:O.units+20<bW){k fs I:aj}{Vj:List ae}{VJ:List au}{Vw:List (List aa×aa)}{a6:Nat->a4->Prop}{Vp:qf->ao->Prop}(v:bY VJ Vj)(Q:dE (ym b) VJ Vw)(fd:Vw.length<=1000)(W:iK a.prog a.w O.in1 fs [fs,I] [fs] Vj.length (λg u=>Vj[g]?=Z u) a6)(a1:U.heap.get? k=X)(y:U.heap.get? fs=X)(A:k≠fs)(a2:k≠I)(fin:∀(j:ao) (w:List (List aa×aj×ae)) (Vx:List (List aa×au)),(∀c n,U.heap.get? c=Z n->j.heap.get? c=Z n)->j.heap.DictOfH (eh a.prog a.w) k w->e9 b Vx w->ed b (nt Vw) Vx->Vx.length<=1000->
   j.gens=U.gens->j.drawn=U.drawn->j.os=U.os->Vp (.ok<|.ret .none) j):
  ∀(l g:Nat) (D:hX) (j:ao) (w:List (List aa×aj×ae)) (Vx:List (List aa×au)),Vj.length-g=l->g<=Vj.length->a6 g j.heap->(∀c n,U.heap.get? c=Z n->j.heap.get? c=Z n)->
   j.heap.DictOfH (eh a.prog a.w) k w->e9 b Vx w->ed b (nt<|Vw.take g) Vx->Vx.length<=g->j.gens=U.gens->j.drawn=U.drawn->j.os=U.os->
   codeAny (aO a.prog a.w) O (.builtin "dict.update.loop" ⟨[.ref k,.ref fs,.int g D,.none],[]⟩) Vp j:=by
 have fn:Vj.length=Vw.length:=by rw[<-v.length,dE.length Q]
 intro l;induction l with
 |zero=>
  intro g D j w Vx bd Vl Y cI C Wf r be E L M;have bi:g=Vj.length:=⋯
  refine jN F.Hb ?_;rw[k6 F.uW _];refine aB (m:=gm (.ref fs)) (W.done j _ _ (bi ▸ Y) λVk Vq keep=>?_);refine aB (m:=bH.Dict.addKeywords k []) (aR<|aR ?_);have p:∀c n,c≠fs->j.heap.get? c=Z n->Vk.get? c=Z n:=λc n f d=>keep c n ⇑f d;refine fin _ w Vx (λc n d=>p c n (λi=>by rw[i,y]at d;cases d)<|cI c n d) ?_ Wf (by rw[zi ⋯]at r;exact r) ⋯ E L M;exact xN t C Wf (λc n d=>p c n (λi=>by rw[i,y]at d;cases d)<|cI c n d) λn d=>p k n A d
 |succ l bm=>
  intro g D j w Vx bd Vl Y cI C Wf r be E L M;have lt:g<Vj.length:=⋯
  refine jN F.Hb ?_;rw[k6 F.uW _];refine aB (m:=gm (.ref fs)) (W.item g j _ _ lt Y λu Vk Vq bn bs keep=>?_);have p:∀c n,c≠fs->j.heap.get? c=Z n->Vk.get? c=Z n:=λc n f d=>keep c n ⇑f d;let⟨z,@o,bv,ca,⟨m,h,@R,rfl,cd,S,ce⟩⟩:=vM Q g (by rw[v.length];exact lt);let⟨@J,T,ch⟩:=v.get bv;rw[bn]at T;cases T;cases ch;have P:∀c n,U.heap.get? c=Z n->Vk.get? c=Z n:=λc n d=>p c n (λi=>by rw[i,y]at d;cases d) (cI c n d);have al:aI a G B b {U with heap:=Vk}:=t.kept (V1:=U.toks) P;have ci:=xN t C Wf P λn d=>p k n A d;let@⟨_,⟨@VA,cl,⟨@n,am,co,⟨@x,cr⟩⟩⟩⟩:=al.a5 _ _ cd;let⟨cp,@cv,rfl,cs,db⟩:=sJ cl;cases cs;show wpAny (aO a.prog a.w) O.in1 (holding [.ref m] _ >>= λ_=>again _) _ _ _;refine aB (f9<|aB<|sQ ?_);unfold bH.Dict.pairItems;refine aB (mE (s:={j with heap:=Vk,toks:=Vq}) (⟨n,am,(Prod.mk.inj co).1⟩:ao.TypeIs {j with heap:=Vk,toks:=Vq} (.ref m) "tuple") ?_);rw[aF ∅];refine aB (lU (s:={j with heap:=Vk,toks:=Vq}) am cr<|aR ?_);show wpAny (aO a.prog a.w) O.in1 (holding [.ref h,cv]<|dictSet k (.ref h) cv) _ _ _;refine f9 (Fc (s:={j with heap:=Vk,toks:=Vq}) (k:=o.1) (knd:=eh a.prog a.w) (nU as) (kT (e:=Vk) al.a5 S) ci (λds dL cP=>?_) (by
   have:=dE.length Wf;exact dc (show w.length<=1000 by lia) ∅))
  have an:∀c n,c≠k->Vk.get? c=Z n->ds.get? c=Z n:=λc n f d=>(cP.2 c f).trans d;have eq:=Wf.put o.1 (c:=h) (z:=R) (J:=cv) S db;have ev:Vw.take (g+1)=Vw.take g++[o]:=by
   have ap:=(eX.mp ca);rw[Br ap.1,ap.2]
  have ex:ed b (nt<|Vw.take<|g+1) (hD Vx o.1 R):=by
   rw[ev];unfold nt;rw[x9];exact ed.put ce r
  refine aR ⟨jQ F.uW _,bm (g+1) 0 _ _ _ ⋯ lt (W.frame _ _ _ bs λc f n d=>an c n (λi=>by
    subst i;rcases cm.mp f with i|f
    ·exact A i
    ·exact a2 (cb.mp f)) d) (λc n d=>an c n (λi=>by rw[i,a1]at d;cases d)<|P c n d) dL eq ex ?_ E L M⟩
  unfold hD;split
  ·rw[a8];lia
  ·simp;lia
def Pu(D:a.calm=V)(cl:a.A.units+30<bW):eD a (.type "dict") (λw b C=>∃(I:aj) (VJ:List au) (Vw:List (List aa×aa)),w=[.ref I]/\b I=Z (.lst VJ)/\dE (ym b) VJ Vw/\Vw.length<=1000/\
  ∀(v:aj) (Vx:List (List aa×au)),b v=X->ed b (nt Vw) Vx->C (.ref v) (upd b v<|.aw Vx)):=by
 intro G j B b w VH C y s e;let⟨I,VJ,@Vw,rfl,R,T,U,p⟩:=e;let⟨@J,rfl,al⟩:=h2 s;cases al;let@⟨i,⟨VA,@x,am,d⟩⟩:=y.a5 I _ R;have E:I<j.heap.objs.size:=cA d;refine callType_codes (Q₁:=λL M=>L=.ref j.heap.objs.size/\M={j with heap:=j.heap.push {cls:=.type "dict",data:=.dict #[]} }) PySem.F.kt_called_dict (PySem.F.kt_typeCall_dict_1 _) PySem.F.entry_dict_init (kt_code_dict_new _ ⟨rfl,rfl⟩) ?_;rintro L M ⟨rfl,rfl⟩;have an:(j.heap.push {cls:=.type "dict",data:=.dict #[]}).DictOfH (eh a.prog a.w) j.heap.objs.size []:=a4.DictOfH.new j.heap;have P:ao.TypeIs {j with heap:=j.heap.push {cls:=.type "dict",data:=.dict #[]} } (.ref j.heap.objs.size) "dict" := ⟨_,dM _ rfl,rfl⟩;have h:(j.heap.push {cls:=.type "dict",data:=.dict #[]}).get? I=Z {cls:=.type "list",data:=.seq VA.toArray x}:=cG _ d;refine⟨P,PySem.F.args_dict_init_2 _ _,?_⟩;unfold bH.«dict.__init__»;refine aB ?_;unfold bH.Dict.selfAndRest;refine aB (wz P ?_);show wpAny _ _ (pure (j.heap.objs.size,[ae.ref I])) _ _ _;refine aR ?_;show wpAny _ _ (bH.Dict.updateFrom "dict.__init__" j.heap.objs.size (.ref I) [] .none) _ _ _;unfold bH.Dict.updateFrom;refine aB (mE (⟨_,h,rfl⟩:ao.TypeIs {j with heap:=j.heap.push {cls:=.type "dict",data:=.dict #[]} } (.ref I) "list") ?_);rw[aF ∅];refine aB (O_ (j:={j with heap:=j.heap.push {cls:=.type "dict",data:=.dict #[]} }) h (y.ok.hd D) λt Vq f=>?_);rw[aF (show (X:Option ae).isNone=V from rfl)];refine aB (m:=rule _) (j9 ?_);have Q:t.IsList I VA.toArray:=⟨_,f _ _ h,rfl,x,rfl⟩;refine aB (vv (s:={j with heap:=t,toks:=Vq}) Q ?_);have m:j.heap.objs.size<t.objs.size:=cA (f _ _<|dM _ rfl);have cI:∀c n,j.heap.get? c=Z n->(t.push {cls:=.type "list_iterator",data:=.fields #[.ref I,.int 0 0]}).get? c=Z n:=λc n o=>cG _ (f c n<|cG _ o);refine aR ⟨jQ PySem.F.uW _,?_⟩;have ap:(t.push {cls:=.type "list_iterator",data:=.fields #[.ref I,.int 0 0]}).DictOfH (eh a.prog a.w) j.heap.objs.size []:=xN y (Vx:=[]) an .nil cI λn as=>cG _ (f _ _ as);have a1:I≠t.objs.size:=c0 (qg E m);refine L0 y (O:=a.A.in1) (by show a.A.units+1+20<bW;lia) (k:=j.heap.objs.size) (fs:=t.objs.size) (I:=I) (a6:=λg e=>e.IsListIter t.objs.size I g/\e.IsList I VA.toArray) am T U ?_ (zr<|bD _) (zr<|nc m) (c0 m) (me E)
  (λVm w Vx a2 bd be bi cr q r z=>?_) VA.length 0 0 _ [] [] rfl (hl _) ?_ cI ap .nil .nil (bD _) rfl rfl rfl
 ·have W:=iK.list (prog:=a.prog) (w:=a.w) (A:=a.A.in1.in1) (y.ok.hd D) t.objs.size I a1 VA.toArray;have bm:(λ(g:Nat) (u:ae)=>VA.toArray[g]?=Z u)=λg u=>VA[g]?=Z u:=by
   funext g u;rw[uv]
  rw[bm,cN]at W;exact W
 ·let⟨Vk,bn,bs,V1,bv⟩:=Vm;have q:bn=j.gens:=q;have r:bs=j.drawn:=r;have z:bv=j.os:=z;subst q r z;have AD:b j.heap.objs.size=X:=y.a5.fresh (bD _);let⟨n,S,@VU,ca,cd,ce,ch,N,ci⟩:=bd;refine⟨rfl,.ref j.heap.objs.size,_,y.laid (n:=.aw Vx) (Vk:=Vk) (V1:=V1) a2 (bD _) ⟨dc (show Vx.length<=1000 by lia) ∅,mi.mpr<|eZ<|c0 y.big,w,be.keeps λc VJ o=>Di o AD,n,S,VU,ca,cd,ce,ch,ci⟩,rfl,p _ Vx AD bi⟩
 ·exact⟨⟨_,dM _ rfl,rfl,rfl⟩,Q.push _⟩
@[simp] def oI:ic:=λE=>match E with
 |[.lst f]=>(o2 f).bind λVw=>if (Vw.all λm=>aa.keys 7 m.1)=V/\Vw.length<=1000 then Z (.aw<|nt Vw) else X
 |_=>X
def N2(g:a.calm=V)(i:a.A.units+30<bW):gV a (.type "dict") oI:=by
 refine (Pu g i).imp λw b C k=>?_;let⟨E,@v,l,d,p⟩:=k;unfold oI at d;split at d
 ·rename_i f;let⟨@Vw,n,c⟩:=bB.mp d;split at c
  ·rename_i e;cases c;let⟨@u,rfl,⟨W,m,@VJ,rfl,t,A,W⟩⟩:=gb l;rw[Uz n]at A;refine⟨m,VJ,Vw,rfl,t,BC (λp o=>jC.mp e.1 p o) A,e.2,λv Vx hd q=>?_⟩;have j:cY b (upd b v<|.aw Vx):=(cY.refl b).upd hd;exact p _ _ [v] j ⟨v,Vx,rfl,d_,q.mono j.tupS.tup,rfl⟩ (eB _ _) λh r=>by rw[cb.mp r];exact hd
  ·cases c
 ·cases d
end
section
variable{a:aL}
def Nl(Vq t:b5):b5:=(λB b C=>∀m,b m=X->Vq B (upd b m<|.aw []) λf Vt=>t B Vt λz VF=>∃c q,f=.ref c/\g6 VF q c/\VF m=Z (.aw [])/\C (.ref m) (upd VF m<|.aw [(q,z)]))
def M8{Vq t:b5}(an:a.A.units+20<bW)(r:bG a q Vq)(v:bG a u t):bG a (.Dict [Z q] [u] VC) (Nl Vq t):=by
 intro G j B b C y p;have x:=y.a5.fresh (bD j.heap.objs.size);have D:=y.laid (h:=j.heap.objs.size) (n:=.aw []) (Vk:=j.heap.push {cls:=.type "dict",data:=.dict #[]}) (V1:=j.toks) (λ_ W p=>cG _ p) (bD _) (Hx j.heap y.big);refine wpAny_Dict_any rfl rfl ↥0 ↥0 ?_;refine pairTrees_cons_walk (b0 (r G _ B _ _ D<|p _ x) λJ E ⟨f,Vt,F,I,L⟩=>b0 (v G E B Vt _ F L) λcv M ⟨z,VF,d,N,c,o,Wg,g,e,P⟩=>pairTrees_nil_walk ?_);subst Wg;cases I;let@⟨i,Q,⟨@w,Wf,R⟩⟩:=yR d.a5 e;cases Wf;unfold storeAll;rw[Ey];refine aB (aB (Fc (k:=o) (knd:=eh a.prog a.w) (show a.A.units+10<bW by lia) (kT d.a5 g) R (λVk T cP=>aR ?_)<|hl _));refine aR ⟨.ref j.heap.objs.size,_,?_,rfl,P⟩;let⟨k,S,@VU,l,A,U,al,W,am⟩:=T;refine vy (j:=M) d (by rw[e];exact True.intro) cP ⟨k,l⟩ ⟨(show 1<=sizeLine by decide),Q,_,e9.keeps (e9.put (Vx:=[]) (w:=[]) .nil o (c:=c) g N) λap VJ m=>?_,k,S,VU,l,A,U,al,am⟩;rw[cz (zQ m e<|λi=>nomatch i)];exact m
@[simp] def uT(a b:ay ai):ay ai:=λk=>(a k).bind λm=>(b m.2).bind λp=>match m.1,p.1 with
 |.im (.tup q),.im v=>if aa.keys 7 q=V then Z (.aw [(q,v)],p.2) else X
 |_,_=>X
def PX{D E:ay ai}(L:a.A.units+20<bW)(M:bh a q D)(P:bh a u E):bh a (.Dict [Z q] [u] VC) (uT D E):=by
 refine d6 (M8 L M P) λB b C ⟨k,N,s,VL,Y,aq,Q,p⟩ m r=>?_;let⟨@⟨V2,Vu⟩,t,A⟩:=bB.mp Q;let⟨@⟨V8,VY⟩,R,l⟩:=bB.mp A;have j:cY b (L2.upd b m<|.aw []):=(cY.refl b).upd r;have F:m∉N:=λi=>by let⟨@n,d,W⟩:=Y.chg m i;rw[r]at d;cases d
 refine⟨k,N,V2,Vu,Y.mono j.tupS λh W n d=>j h n d,aq,t,λf Vt U a2 S VG v=>?_⟩;have T:=cO.mp v.aq;refine⟨Vu,U,V8,VY,S,T.1,R,λz VF VQ bR al VW o=>?_⟩;dsimp only at l;split at l
 ·rename_i dO bd;split at l
  ·rename_i am;cases l;let@⟨cp,rfl⟩:=VG;let@⟨cv,rfl⟩:=VW;rw[bQ]at v o;have x:=v.seq o;have G:Vt m=Z (.aw []):=v.keep m _ d_ F;have H:m∉U:=λi=>by
    rcases v.sub m i with e|e
    ·exact F e
    ·rw[d_]at e;cases e
   have y:VF m=Z (.aw []):=o.keep m _ G H;have I:m∉VQ:=λi=>by
    rcases o.sub m i with e|e
    ·exact H e
    ·rw[G]at e;cases e
   let⟨c,@w,rfl,an,ap⟩:=(show cC VF (.tup dO) f from cp.mono o.tup.tup);refine⟨c,dO,rfl,⟨am,c,w,rfl,an,ap⟩,y,?_⟩;have js:eA VF (L2.upd VF m<|.aw [(dO,z)]):=eA.of (λh w d=>by
    have:h≠m:=λi=>by subst i;rw[y]at d;cases d
    rw[cz this];exact d) λh n J d=>by
    have:h≠m:=λi=>by subst i;rw[y]at d;cases d
    rw[cz this];exact d
   refine p _ _ VQ [m] (al.mono js λh g n d=>by
    have ne:h≠m:=λi=>by subst i;exact I g
    rw[cz ne];exact d) ⟨m,[(dO,z)],rfl,d_,.cons ⟨rfl,cv.mono js.tup⟩ .nil,rfl⟩ ?_
   refine⟨λh n d g=>?_,λh g=>?_,?_,?_,λh n d=>?_⟩
   ·have:h≠m:=λi=>by subst i;rw[r]at d;cases d
    rw[cz this];exact x.keep h n (by rw[cz this];exact d) g
   ·rcases du.mp g with e|e
    ·rcases x.sub h e with Vk|Vk
     ·exact .inl Vk
     ·by_cases d:h=m
      ·exact .inr (d ▸ r)
      ·rw[cz d]at Vk;exact .inr Vk
    ·exact .inr (by rw[cb.mp e];exact r)
   ·exact cO.mpr ⟨o.aq,eB _ _,λh g c as d=>I (by rw[cb.mp as]at d;rw[<-d];exact g)⟩
   ·exact (j.tupS.trans x.tup).trans js
   ·by_cases i:h=m
    ·exact⟨_,by rw[i];exact d_⟩
    ·let⟨@V4,a1⟩:=x.grow h n (by rw[cz i];exact d);exact⟨V4,by rw[cz i];exact a1⟩
  ·cases l
 ·cases l
end
end L2
namespace L2
open Spec PyProof.Rows
variable{z Ww f:az}{aZ:dD Bool}{WH VC m:Pos}{n d:bl}{WR r g l q x:Nat}{u:au}{v:ai}{E:List ai}{P VS Vw:List az}{ab F:aj}{N:List aj}{b:aD}{B:a6}{k:aY}{Wa:List ai->Option ai}{id:String}{S:List bl}{L:ay (List bN)}{VV:List Nat}{WX:Array (Option ae)}{Ws WI:Option aj}{WU:ae}{R:Φ}{Q:cj}
def rt:List (aj×ba)->Bool
 |[]=>V
 | (_,n)::s=>(match n.data with
  |.seq _ _=>(match n.cls with | .type x=>x != "list" |_=>V)
  |_=>V)&&rt s
def It{R:List (aj×ba)}{h:aj}{n:ba}{VA:Array ae}(e:rt R=V)(d:R.lookup h=Z n)(a:n.cls=.type "list")(hd:n.data=.seq VA x):False:=by
 induction R with
 |nil=>cases d
 |cons m s b=>
  let⟨c,f⟩:=m;rw[rt,cT]at e;simp only[List.lookup]at d;split at d
  ·cases d;have t:=e.1;rw[hd]at t;dsimp only at t;rw[a]at t;exact absurd t ∅
  ·exact b e.2 d
theorem Ie{b:aD}:∀VT:List Int,bM b (VT.map .int) (VT.map au.int)
 |[]=>rfl
 |x::s=>⟨.int x,_,rfl,rfl,Ie s⟩
def Ju(a:rt R=V)(b:aD)(h:aj)(VT:List Int)(c:sX b)(f:dw R b h (VT.map au.int))(bI:∃outs,Q [.dF (VT.map .int)]=Z (.im<|.av V,outs)){Vo:fv}:i3 1 Q [.ref h] b (λu W=>u=.av V) Vo:=by
 let⟨@outs,bI⟩:=bI;have g:∃n,b h=Z (.cV n<|.lst<|VT.map au.int):=by
  rcases f with (e|e)|⟨n,VA,x,t,A,k,i,_⟩
  ·rcases c h with d|⟨n,w,d⟩|⟨w,d⟩
   ·rw[d]at e;cases e
   ·rw[d]at e;cases e
   ·rw[d]at e;cases e
  ·exact e
  ·exact (It a t A i).elim
 let⟨@n,j⟩:=g;refine⟨rfl,[.dF (VT.map .int)],[],.im<|.av V,outs,⟨_,_,[],[],rfl,⟨h,_,n,rfl,j,Ie VT,rfl⟩,⟨rfl,rfl⟩,rfl⟩,hn,bI,λu T Vp y e W W=>?_⟩;exact e.1
def kZ{VH:List ae}(e:VH.length=x+1):∃h s,VH=h::s/\s.length=x:=by
 cases VH with
 |nil=>cases e
 |cons h s=>exact⟨h,s,rfl,Nat.succ.inj e⟩
def f7.F3{Y:cf}{fd:gM}(N:f7 R f Ww Y F fd)(e:∀(b6 U VN:ae) (Ws:Option aj) (Wc b3:ae) (h:ae),iL (Ψ f Ww (f5 Y) (eQ Y) (dq Y) .none b6 U VN Ws Wc b3) ⟨[h],[]⟩=pure (Vw.zip [h]))(b:Vw.length=1:=by rfl):f6 R fd Vw []:=
 N.binds λb6 U VN Ws Wc b3 VH a=>by
  replace a:=a.trans b;let⟨h,@c,rfl,t⟩:=kZ a;obtain rfl:=nY t;exact e b6 U VN Ws Wc b3 h
def f7.Hv{Y:cf}{fd:gM}(N:f7 R f Ww Y F fd)(e:∀(b6 U VN:ae) (Ws:Option aj) (Wc b3:ae) (h c:ae),iL (Ψ f Ww (f5 Y) (eQ Y) (dq Y) .none b6 U VN Ws Wc b3) ⟨[h,c],[]⟩=pure (Vw.zip [h,c]))(b:Vw.length=2:=by rfl):f6 R fd Vw []:=
 N.binds λb6 U VN Ws Wc b3 VH a=>by
  replace a:=a.trans b;let⟨h,@d,rfl,t⟩:=kZ a;let⟨c,@g,rfl,A⟩:=kZ t;obtain rfl:=nY A;exact e b6 U VN Ws Wc b3 h c
def f7.SR{Y:cf}{fd:gM}(N:f7 R f Ww Y F fd)(e:∀(b6 U VN:ae) (Ws:Option aj) (Wc b3:ae) (h c o:ae),iL (Ψ f Ww (f5 Y) (eQ Y) (dq Y) .none b6 U VN Ws Wc b3) ⟨[h,c,o],[]⟩=pure (Vw.zip [h,c,o]))(b:Vw.length=3:=by rfl):f6 R fd Vw []:=
 N.binds λb6 U VN Ws Wc b3 VH a=>by
  replace a:=a.trans b;let⟨h,@g,rfl,t⟩:=kZ a;let⟨c,@i,rfl,A⟩:=kZ t;let⟨o,@j,rfl,d⟩:=kZ A;obtain rfl:=nY d;exact e b6 U VN Ws Wc b3 h c o
def f7.C3{Y:cf}{fd:gM}(N:f7 R f Ww Y F fd)(e:∀(b6 U VN:ae) (Ws:Option aj) (Wc b3:ae) (h c o v:ae),iL (Ψ f Ww (f5 Y) (eQ Y) (dq Y) .none b6 U VN Ws Wc b3) ⟨[h,c,o,v],[]⟩=pure (Vw.zip [h,c,o,v]))(b:Vw.length=4:=by rfl):f6 R fd Vw []:=
 N.binds λb6 U VN Ws Wc b3 VH a=>by
  replace a:=a.trans b;let⟨h,@i,rfl,t⟩:=kZ a;let⟨c,@j,rfl,A⟩:=kZ t;let⟨o,@k,rfl,d⟩:=kZ A;let⟨v,@l,rfl,g⟩:=kZ d;obtain rfl:=nY g;exact e b6 U VN Ws Wc b3 h c o v
structure c9 where
 P:bE
 w:bg
 K:Φ
 aU:az->Option ae
 base:a4
def dS(R:Φ)(f:az)(Y:cf)(F:aj):Prop:=(∃fd,f7 R f f Y F fd/\Φa R fw f=Z (Z<|.ref F))
def mJ(R:Φ)(aU:az->Option ae)(f:az)(Y:cf)(F:aj)(Vw:List az):Prop:=(∃fd,f7 R f f Y F fd/\f6 R fd Vw []/\aU f=Z (.ref F))
def jW(Vz:bE)(H:bg)(R:Φ)(aU:az->Option ae)(VB:a4)(q:Nat)(f:az)(Y:cf)(F:aj)(Vw:List az)(x:Nat)(Q:cj):Prop:=(∃fd,f7 R f f Y F fd/\f6 R fd Vw []/\aU f=Z (.ref F)/\fT Vz H R aU VB gr q F fd Vw (i3 x Q))
abbrev DO(o:c9):=jW o.P o.w o.K o.aU o.base
def gC{Y:cf}{b6 U VN Wc b3:ae}(h:Φa R fw f=Z (Z<|.ref F))(I:R.lookup F=Z ⟨WU,WI,.func<|Ψ f f (f5 Y) (eQ Y) (dq Y) .none b6 U VN Ws Wc b3,WX⟩)(o:Ω R Wc f=V)(q:Θ R (.ref F)=V):dS R f Y F:=⟨_,HN I o q,h⟩
section
variable{Vz:bE}{H:bg}{R:Φ}{aU:az->Option ae}{VB e:a4}{q x:Nat}{f:az}{Y:cf}{F:aj}{Vw:List az}{Q:cj}
def dS.cE(s:dS R f Y F)(a:R.In e)(c:e.Ns fw aU)(d:∀(b6 U VN:ae) (Ws:Option aj) (Wc b3 h:ae),iL (Ψ f f (f5 Y) (eQ Y) (dq Y) .none b6 U VN Ws Wc b3) ⟨[h],[]⟩=pure (Vw.zip [h]):=by intros;rfl)(g:Vw.length=1:=by rfl):mJ R aU f Y F Vw:=
 have ⟨_,b,h⟩:=s
 ⟨_,b,b.F3 d g,mw a c h⟩
def dS.cQ(s:dS R f Y F)(a:R.In e)(d:e.Ns fw aU)(g:∀(b6 U VN:ae) (Ws:Option aj) (Wc b3 h c:ae),iL (Ψ f f (f5 Y) (eQ Y) (dq Y) .none b6 U VN Ws Wc b3) ⟨[h,c],[]⟩=pure (Vw.zip [h,c]):=by intros;rfl)(i:Vw.length=2:=by rfl):mJ R aU f Y F Vw:=
 have ⟨_,b,h⟩:=s
 ⟨_,b,b.Hv g i,mw a d h⟩
def dS.oP(s:dS R f Y F)(a:R.In e)(d:e.Ns fw aU)(g:∀(b6 U VN:ae) (Ws:Option aj) (Wc b3 h c o:ae),iL (Ψ f f (f5 Y) (eQ Y) (dq Y) .none b6 U VN Ws Wc b3) ⟨[h,c,o],[]⟩=pure (Vw.zip [h,c,o]):=by intros;rfl)(i:Vw.length=3:=by rfl):mJ R aU f Y F Vw:=
 have ⟨_,b,h⟩:=s
 ⟨_,b,b.SR g i,mw a d h⟩
def dS.jy(s:dS R f Y F)(a:R.In e)(d:e.Ns fw aU)(g:∀(b6 U VN:ae) (Ws:Option aj) (Wc b3 h c o v:ae),iL (Ψ f f (f5 Y) (eQ Y) (dq Y) .none b6 U VN Ws Wc b3) ⟨[h,c,o,v],[]⟩=pure (Vw.zip [h,c,o,v]):=by intros;rfl)(i:Vw.length=4:=by rfl):mJ R aU f Y F Vw:=
 have ⟨_,b,h⟩:=s
 ⟨_,b,b.C3 g i,mw a d h⟩
def jW.fd{fd:gM}(ab:jW Vz H R aU VB q f Y F Vw x Q)(b:f7 R f f Y F fd):fT Vz H R aU VB gr q F fd Vw (i3 x Q):=by
 let⟨@e,c,W,W,L⟩:=ab;let⟨WU,WI,b6,U,VN,Ws,Wc,b3,@WX,d,I,W⟩:=b.ex;let⟨g,h,i,j,k,l,m,n,@o,p,a,W⟩:=c.ex;rw[I]at a;cases a;exact L
def Oi(s:dS R f Y F)(a:R.In e)(g:e.Ns fw aU){b:aj}(i:aU f=Z (.ref b)){m:az}(k:∀(b6 U VN:ae) (Ws:Option aj) (Wc b3:ae) (j:ao) (u:ae),mj j (Ψ f f (f5 Y) (eQ Y) (dq Y) .none b6 U VN Ws Wc b3) ⟨[u],[]⟩ [(m,u)])(ab:∀VB,jW Vz H R aU VB q f Y F [m] x Q):
  ∃fd:gM,(∀(j:ao) (u:ae),mj j fd ⟨[u],[]⟩ [(m,u)])/\∀VB:a4,R.In VB->VB.Ns fw aU->fT Vz H R aU VB gr q b fd [m] (i3 x Q):=by
 let⟨@fd,d,h⟩:=s;cases i.symm.trans (mw a g h);refine⟨fd,?_,λc T T=>(ab c).fd d⟩;let⟨WU,WI,b6,U,VN,Ws,Wc,b3,@WX,rfl,I,T⟩:=d.ex;exact k b6 U VN Ws Wc b3
def CF{L:bu}(N:mJ R aU f Y F Vw)(VD:kb VS Vw (dq Y))(d:Vw.length=x)(e:∀g∈VV,g<x)(h:VS.Nodup->∀(Wc:ae) (O:bq) (Wq:List d5) (j:ao) (b:aD) (Vo:fv),dt q (O.deeper<|h7 f (dq Y) j.heap.objs.size F Wc)->gk (ju gr Vz H R aU VB VS f (dq Y) F Wc O Wq j b Vo).ke VV (eQ Y) L):
  jW Vz H R aU VB (q+1) f Y F Vw x (cJ x VS.length VV L):=
 have ⟨_,a,c,l⟩:=N
 ⟨_,a,c,l,Cm a VD d e<|h VD.aq⟩
end
section
variable{a:aL}
def OF{Y:cf}(ab:jW a.prog a.w a.K a.aU a.base q f Y F Vw x Q)(b:dt l a.A)(e:eu a f)(g:fV a (d::S) L)(h:q<=l:=by decide)(i:(f==("__debug__" : az))=aA:=by decide)(j:bP (d::S) a.env=(aA,bJ d a.env)::bP S a.env:=by rfl)(k:(d9 VC<|bP S a.env).any (·.1)=aA:=by rfl):
  bh a (.Call (.Name f m) (d::S) [] VC) (bF x Q L):=
 have ⟨_,n,c,l,N⟩:=ab
 R0 N (b.mono h) e l n.cI c g i j k
def vQ(g:Nat){f:az}{VC:Pos}(b:a.N[g]?=Z f:=by rfl)(c:tu a.env.scope f:=by first|exact Or.inl rfl|exact Or.inr (Or.inl rfl)|exact Or.inr (Or.inr rfl))(hd:(f==("__debug__" : az))=aA:=by decide)(d:(f==("__classdict__" : az))=aA:=by decide):eL a (.Name f VC) (ak g):=L7 (FQ b c hd d)
def PO{h c:bl}{Wv V_:ay bN}(b:dt l a.A)(d:eL a h Wv)(e:eL a c V_)(Vy:xO c:=by exact λ_ W=>rfl):bh a (.Subscript h c VC) (aC a7 Wv V_):=CX (Eu (by have:=b.un;lia)) d e Vy
def K5(g:Nat){f:az}{d:bl}{L:ay ai}{VC WM:Pos}(b:a.N.Nodup)(c:bh a d L)(Vl:a.N[g]?=Z f:=by rfl)(e:j6 a.env.scope f:=by first|exact .inl rfl|exact .inr rfl)(h:g∉VV:=by decide)(Vy:kC d (Z<|.Name f WM) VC.line a.env=pure aA:=by rfl)(i:a.fn f=V\/a.env.scope.names.lookup f=Z .local:=by first|exact .inl rfl|exact .inr rfl|assumption):ec a VV (.Assign [.Name f WM] d VC) (bZ g L):=Oz b Vl e c h Vy i
def sf:List az->Bool
 |[]=>V
 |f::I=>!I.contains f&&sf I
theorem y8:∀{I:List az},sf I=V->I.Nodup
 |[],_=>hn
 |f::I,e=>by
  rw[sf,cT,vz]at e;refine gd.mpr ⟨λi=>?_,y8 e.2⟩;rw[tn.mpr i]at e;cases e.1
def S7(g:Nat){f:az}{VC:Pos}(Vl:a.N[g]?=Z f:=by rfl)(b:sf a.N=V:=by kernel_rfl)(c:j6 a.env.scope f:=by first|exact .inl rfl|exact .inr rfl)(d:g∉VV:=by decide)(e:a.fn f=V\/a.env.scope.names.lookup f=Z .local:=by first|exact .inl rfl|exact .inr rfl|assumption):fO a VV (.Name f VC) (bx g):=IH (y8 b) Vl c d e
def ko(b:gV a (.builtin id) Wa)(c:a.aU f=X)(e:iA f=Z (.builtin id))(g:fV a (d::S) L)(h:eu a f:=by rfl)(i:f ≠ "__name__" := by decide)(j:(f==("__debug__" : az))=aA:=by decide)(k:bP (d::S) a.env=(aA,bJ d a.env)::bP S a.env:=by rfl)(l:(d9 VC<|bP S a.env).any (·.1)=aA:=by rfl):
  bh a (.Call (.Name f m) (d::S) [] VC) (bS Wa L):=Mw b h c e g i j k l
def MY{Y:cf}(ab:jW a.prog a.w a.K a.aU a.base q f Y F Vw x Q)(b:dt l a.A)(c:fV a (d::S) L)(e:eu a f:=by rfl)(g:q<=l:=by decide)(h:(f==("__debug__" : az))=aA:=by decide)(i:bP (d::S) a.env=(aA,bJ d a.env)::bP S a.env:=by rfl)(j:(d9 VC<|bP S a.env).any (·.1)=aA:=by rfl):
  bh a (.Call (.Name f m) (d::S) [] VC) (bF x Q L):=OF ab b e c g h i j
end
section
variable{Vz:bE}{H:bg}{R:Φ}{aU:az->Option ae}{VB e:a4}{q x:Nat}{f:az}{Y:cf}{F:aj}{Vw:List az}{Q:cj}
def tW{Vz:List az}{M:gY}(h:M.kind=.function:=by rfl)(c:M.isCoroutine=aA:=by rfl)(o:M.isGenerator=aA:=by rfl)(v:VS.Nodup:=by decide +kernel)(d:VS.take Vz.length=Vz:=by rfl)(F:∀f∈Vz,M.names.lookup f=Z .local\/M.names.lookup f=Z .cell:=by decide +kernel)(L:∀z∈M.names,z.2≠.free:=by decide +kernel):kb VS Vz M:=⟨h,c,o,v,d,F,L⟩
def Se{L:bu}(VS:List az)(N:mJ R aU f Y F Vw)(a:VS.Nodup->∀(Wc:ae) (O:bq) (Wq:List d5) (j:ao) (b:aD) (Vo:fv),dt q (O.deeper<|h7 f (dq Y) j.heap.objs.size F Wc)->gk (ju gr Vz H R aU VB VS f (dq Y) F Wc O Wq j b Vo).ke VV (eQ Y) L)(VD:kb VS Vw (dq Y):=by exact tW)(c:Vw.length=x:=by rfl)(d:∀g∈VV,g<x:=by decide):jW Vz H R aU VB (q+1) f Y F Vw x (cJ x VS.length VV L):=CF N VD c d a
end
theorem DE{F:az}{u:au}:∀{M:List (az×au)}{r:Nat},(M.map (·.1)).Nodup->(M.map (·.1))[r]?=Z F->(M.map (·.2))[r]?=Z u->M.lookup F=Z u
 |[],r,_,e,_=>by simp at e
 | (h,c)::s,0,_,t,A=>by
  rw[b4,yM]at t A;have a:h=F:=Option.some.inj t;have b:c=u:=Option.some.inj A;subst a;subst b;show (match h==h with|true=>Z c|false=>s.lookup h)=_;rw[hW]
 | (h,c)::s,r+1,aq,t,A=>by
  rw[b4,yB]at t A;have aq:=gd.mp aq;have ne:(F==h)=aA:=by
   rw[mi];intro i;exact aq.1 (i ▸ eC t)
  show (match F==h with|true=>Z c|false=>s.lookup F)=_;rw[ne];exact DE aq.2 t A
theorem zk{F:az}:∀{M:List (az×au)},F∉M.map (·.1)->M.lookup F=X
 |[],_=>rfl
 | (h,c)::s,e=>by
  have ne:(F==h)=aA:=by
   rw[mi];intro i;exact e (by rw[i];exact .head _)
  show (match F==h with|true=>Z c|false=>s.lookup F)=_;rw[ne];exact zk λi=>e (.tail _ i)
theorem A8{F:az}{u:au}:∀{M:List (az×au)}{r:Nat},(M.map (·.1)).Nodup->(M.map (·.1))[r]?=Z F->(eN F u M).map (·.1)=M.map (·.1)/\(eN F u M).map (·.2)=(M.map (·.2)).set r u
 |[],r,_,e=>by simp at e
 | (h,c)::s,0,_,e=>by
  rw[b4,yM]at e;have d:h=F:=Option.some.inj e;rw[eN,aF d];exact⟨rfl,rfl⟩
 | (h,c)::s,r+1,aq,e=>by
  rw[b4,yB]at e;have aq:=gd.mp aq;let@⟨t,A⟩:=A8 (u:=u) aq.2 e;rw[eN,aJ λi=>aq.1 (by show h∈_;rw[i];exact eC e)];exact⟨by rw[b4,b4,t],by rw[b4,b4,A];rfl⟩
theorem Ah{F:az}{u:au}:∀{M:List (az×au)},F∉M.map (·.1)->eN F u M=M++[(F,u)]
 |[],_=>rfl
 | (h,c)::s,e=>by
  rw[eN,aJ λi=>e (by rw[<-i];exact .head _),Ah λi=>e<|.tail _ i];rfl
theorem c2.at{b:aD}{v:ai}:∀{E:List ai}{Vj:List au}{Q:List aj}{r:Nat},c2 b E Vj Q->E[r]?=Z v->∃u Vp a,Vj[r]?=Z u/\cq b v u Vp/\(Vp++a).Perm Q/\
  ∀T g c y,eA b T->(∀o∈a,∀n,b o=Z n->T o=Z n)->cq T g c y->∃h,c2 T (E.set r g) (Vj.set r c) h/\h.Perm (y++a)
 |[],_,_,_,_,d=>by simp at d
 |f::E,_,_,0,e,d=>by
  let⟨u,s,U,@VQ,rfl,t,A,rfl⟩:=e;cases (Option.some.inj d:f=v);exact⟨u,U,VQ,rfl,t,List.Perm.refl _,λT g c y D q H=>⟨y++VQ,⟨c,s,y,VQ,rfl,H,A.mono D q,rfl⟩,List.Perm.refl _⟩⟩
 |f::E,_,_,r+1,e,d=>by
  let⟨u,s,U,@VQ,rfl,t,A,rfl⟩:=e;let⟨J,Vp,@a,j,k,l,m⟩:=c2.at (r:=r) A ⇑d;have VN:∀Vp:List aj,(Vp++(U++a)).Perm (U++(Vp++a)):=λVp=>by
   rw[<-bk,<-bk];exact e1 _ c6
  refine⟨J,Vp,U++a,by simpa using j,k,(VN Vp).trans<|dZ _ l,λT g c y D q H=>?_⟩;let⟨@h,p,w⟩:=m T g c y D (λo i=>q o<|dy _ i) H;exact⟨U++h,⟨u,s.set r c,U,h,rfl,t.mono D λo i=>q o<|dW _ i,p,rfl⟩,(dZ _ w).trans (VN y).symm⟩
theorem c2.snoc{b:aD}{v:ai}{u:au}{Vp:List aj}(H:cq b v u Vp):∀{E:List ai}{Vj:List au}{Q:List aj},c2 b E Vj Q->c2 b (E++[v]) (Vj++[u]) (Q++Vp)
 |[],_,_,e=>by
  let@⟨rfl,rfl⟩:=e;exact⟨u,[],Vp,[],rfl,H,⟨rfl,rfl⟩,by rw[bQ];rfl⟩
 |f::E,_,_,e=>by
  let⟨J,s,U,@VQ,rfl,t,A,rfl⟩:=e;exact⟨J,s++[u],U,VQ++Vp,rfl,t,c2.snoc H A,by rw[bk]⟩
theorem wK{VM:Type}{u:VM}:∀{I:List VM}{r:Nat},I[r]?=Z u->I.set r u=I
 |[],_,e=>by simp at e
 |f::I,0,e=>by
  rw[yM]at e;rw[HC,Option.some.inj e]
 |f::I,r+1,e=>by
  rw[yB]at e;rw[List.set_cons_succ,wK e]
def lL{F:az}(Y:bC b k B N)(aq:N.Nodup)(I:k[g]?=Z (Z<|.aQ ab P E))(J:P[r]?=Z F)(hd:E[r]?=Z v):
  ∃h V6 M u Vp,B[g]?=Z (Z<|.ref h)/\b h=Z (.ins ab V6 M)/\M.lookup F=Z u/\cq b v u Vp/\Vp.Nodup/\(∀f∈Vp,f∈N)/\∀T a y VD,cq T a u y->bb b Vp T (y++VD)->∃V0,bC T (k.set g<|Z<|.aQ ab P<|E.set r a) B V0/\bb b N T (V0++VD):=by
 let⟨v0,as,@VQ,q,⟨h,V6,M,Vj,@Q,rfl,t,@⟨e,s,w⟩,A,rfl⟩,L,VN⟩:=Y.out I;let⟨u,Vp,@l,x,O,z,R⟩:=A.at hd;have gK:(Vp++(VQ++h::l)).Perm N:=by
  rw[kz]at VN z ⊢;intro f;have:=VN f;have:=z f;simp only[kj,tQ] at *;omega
 have c:=cO.mp (gK.nodup_iff.mpr aq);have S:h∉Vp:=λi=>c.2.2 h i h (dy _<|.head _) rfl;have lk:M.lookup F=Z u:=DE (r:=r) (by rw[e];exact s) (by rw[e];exact J) (by rw[w];exact x);refine⟨h,V6,M,u,Vp,q,t,lk,O,c.1,λf m=>gK.mem_iff.mp<|dW _ m,λT a y VD H j=>?_⟩;let⟨@C,VG,VW⟩:=R T a u y j.tup (λo p n d=>j.keep o n d λi=>c.2.2 o i o (dy _<|.tail _ p) rfl) H;rw[wK x]at VG;have own:cq T (.aQ ab P<|E.set r a) (.ref h) (h::C):=⟨h,V6,M,Vj,C,rfl,j.keep h _ t S,⟨e,s,w⟩,VG,rfl⟩;have al:bC T (k.set g<|Z .dK) B VQ:=L.mono j.tup λo p n d=>j.keep o n d λi=>c.2.2 o i o (dW _ p) rfl;let⟨am,@an,D,G⟩:=al.back own q;rw[n8]at D;have U:bb b N b (Vp++(VQ++h::l)):=bb.perm aq gK;have ap:=U.trans (Vp:=VQ++h::l) j λf m=>Y.chg f (gK.mem_iff.mp<|dy _ m);refine⟨am,D,ap.less (ab:=an) ?_⟩;rw[kz]at G VW ⊢;intro f;have:=G f;have:=VW f;simp only[kj,tQ] at *;omega
section
variable{a:aL}
def si(ab:aj)(r:Nat)(F:az):ai->Option ai
 |.aQ o P E=>if o=ab/\P[r]?=Z F then E[r]? else X
 |_=>X
def SU{F:az}{f:ai}(e:si ab r F f=Z v):∃P E,f=.aQ ab P E/\P[r]?=Z F/\E[r]?=Z v:=by
 unfold si at e;split at e
 ·split at e
  ·rename_i d;let@⟨rfl,d⟩:=d;exact⟨_,_,rfl,d,e⟩
  ·cases e
 ·cases e
def lr(ab:aj)(g r:Nat)(F:az)(k:aY):Option ai:=((k[g]?).bind λn=>n.bind (si ab r F))
def tL{F:az}(e:lr ab g r F k=Z v):∃P E,k[g]?=Z (Z<|.aQ ab P E)/\P[r]?=Z F/\E[r]?=Z v:=by
 let⟨@n,t,A⟩:=bB.mp e;let⟨@f,rfl,a⟩:=bB.mp A;let⟨P,@E,rfl,b,c⟩:=SU a;exact⟨P,E,t,b,c⟩
@[simp] def dI(ab:aj)(g r:Nat)(F:az):ay ai:=λk=>(lr ab g r F k).bind λv=>match v with
 |.im v=>Z (.im v,k)
 |_=>X
def OO(r:Nat){F:az}{n:bl}{VC:Pos}(o:fF a.K ab)(x:gz a.K ab F)(d:bG a n (fA g))(e:hG n F a.env (bJ n a.env)=bJ n a.env:=by rfl):bh a (.Attribute n F VC) (dI ab g r F):=by
 refine d6 (lg d e) λB b C f=>?_;let⟨k,N,s,@VL,Y,aq,i,p⟩:=f;let⟨@v,t,A⟩:=bB.mp i;split at A
 ·rename_i v;cases A;let⟨P,@E,j,l,hd⟩:=tL t;let⟨h,V6,M,u,@Vp,m,q,w,c,W⟩:=lL Y aq j l hd;let@⟨c,rfl⟩:=c;exact⟨_,m,h,ab,V6,M,u,rfl,q,o,x,w,p u b N [] Y ⟨c,rfl⟩ (by rw[bQ];exact bb.perm aq (List.Perm.refl _))⟩
 ·cases A
@[simp] def sq(Wa:List ai->Option ai)(ab:aj)(g r:Nat)(F:az):ay ai:=λk=>(lr ab g r F k).bind λv=>(Wa [v]).map λs=>(s,k)
def La(r:Nat){f F:az}{m VC WN:Pos}{n:bl}(e:gV a (.builtin id) Wa)(i:eu a f)(l:a.aU f=X)(q:iA f=Z (.builtin id))(o:fF a.K ab)(x:gz a.K ab F)(w:bG a n (fA g))(y:hG n F a.env (bJ n a.env)=bJ n a.env:=by rfl)(z:f ≠ "__name__" := by decide)(D:(f==("__debug__" : az))=aA:=by decide)(c:bP [.Attribute n F WN] a.env=(aA,bJ (.Attribute n F WN) a.env)::bP [] a.env:=by rfl)(G:(d9 VC<|bP [] a.env).any (·.1)=aA:=by rfl):
  bh a (.Call (.Name f m) [.Attribute n F WN] [] VC) (sq Wa ab g r F):=by
 refine d6 (wZ e i l q (lQ (lg w y) o8 c) z D c G) λB b C I=>?_;let⟨k,N,s,@VL,Y,aq,J,p⟩:=I;let⟨@v,t,A⟩:=bB.mp J;let⟨@Wh,L,O⟩:=b9.mp A;cases O;let⟨P,@E,Q,S,hd⟩:=tL t;let⟨h,V6,M,u,@Vp,al,am,an,ap,W⟩:=lL Y aq Q S hd;refine⟨_,al,h,ab,V6,M,u,rfl,am,o,x,an,[v],s,?_,L,λu T Vp j H as a1=>?_⟩
 ·exact⟨u,[],rfl,⟨Vp,ap⟩,rfl⟩
 ·exact p u T N Vp (Y.mono j.tupS λh W n d=>j h n d) H (by
   have U:bb b N b (N++[]):=by rw[bQ];exact bb.perm aq (List.Perm.refl _)
   exact U.new j as a1 Y.chg)
def B6{Vp:List aj}{f:bN}{v:aa}(Y:bC b k B N)(n:hN b B f u Vp)(d:dG k f=Z (.im v)):cC b v u/\Vp=[]:=by
 have s:eY b (.im v) u:=n.read Y d;let⟨@e,a,W⟩:=s;cases f with
 |bo g=>exact⟨a,n.2⟩
 |cu c=>
  cases (Option.some.inj d:c=.im v);exact n
@[simp] def gL(ab:aj)(g r:Nat)(F:az)(L:ay ai):bu:=λk=>(L k).bind λm=>match m.2[g]? with
 |some (Z<|.aQ o P E)=>if o=ab/\P.length<900 then
   (if P[r]?=Z F/\r<E.length then Z (.aX,m.2.set g<|Z<|.aQ o P<|E.set r m.1) else if P.contains F=aA then Z (.aX,m.2.set g<|Z<|.aQ o (P++[F])<|E++[m.1]) else X) else X
 |_=>X
def Hq{c:List aj}{F:az}{l:List az}{m:List ai}(Y:bC b k B N)(aq:(N++c).Nodup)(H:cq b v u c)(S:k[g]?=Z (Z<|.aQ ab P E))(al:(∃r,P[r]?=Z F/\r<E.length/\l=P/\m=E.set r v)\/(F∉P/\l=P++[F]/\m=E++[v])):
  ∃h V6 M,B[g]?=Z (Z<|.ref h)/\b h=Z (.ins ab V6 M)/\M.length=P.length/\∃V0,bC (upd b h<|.ins ab V6<|eN F u M) (k.set g<|Z<|.aQ ab l m) B V0/\bb b (N++c) (upd b h<|.ins ab V6<|eN F u M) V0:=by
 let⟨v0,bn,@VQ,x,⟨h,V6,M,Vj,@Q,rfl,t,@⟨e,q,C⟩,A,rfl⟩,am,VN⟩:=Y.out S;have gK:(h::(VQ++(Q++c))).Perm (N++c):=by
  rw[kz]at VN ⊢;intro f;have:=VN f;simp only[kj,tQ] at *;omega
 have an:=gd.mp (gK.nodup_iff.mpr aq);have WO:fx b h:=⟨_,t,(λ_ d=>by cases d),(λ_ W d=>by cases d)⟩;let T:aD:=upd b h (.ins ab V6<|eN F u M)
 have D:eA b T:=(bb.chg (V4:=.ins ab V6 (eN F u M)) (N:=[h]) (U:=[]) (.head _) WO hn<|λf j=>nomatch j).tup;have cI:∀o,o≠h->∀n,b o=Z n->T o=Z n:=λo a n d=>by
  show upd b h _ o=_;rw[cz a];exact d
 have ne:∀{o:aj},o∈VQ++(Q++c)->o≠h:=λa d=>an.1 (d ▸ a);have own:∃i,cq T (.aQ ab l m) (.ref h) (h::i)/\∃s,(i++s).Perm (Q++c):=by
  rcases al with ⟨r,p,ap,rfl,rfl⟩|⟨p,rfl,rfl⟩
  ·obtain⟨y,as⟩:∃y,E[r]?=Z y:=⟨E[r],dN ap⟩;let⟨J,Vp,@bs,bv,ca,w,a1⟩:=A.at as;let@⟨a2,Wj⟩:=A8 (u:=u) (M:=M) (r:=r) (by rw[e];exact q) (by rw[e];exact p);let⟨@i,VG,VW⟩:=a1 T v u c D (λo a=>cI o<|ne<|dy _<|dW _<|w.mem_iff.mp<|dy _ a) (H.mono D λo a=>cI o<|ne<|dy _<|dy _ a);refine⟨i,⟨h,V6,eN F u M,Vj.set r u,i,rfl,d_,⟨a2.trans e,q,Wj.trans (by rw[C])⟩,VG,rfl⟩,Vp,?_⟩;rw[kz]at w VW ⊢;intro f;have:=w f;have:=VW f;simp only[kj] at *;omega
  ·have VG:=c2.snoc (H.mono D λo a=>cI o<|ne<|dy _<|dy _ a) (A.mono D λo a=>cI o<|ne<|dy _<|dW _ a);have G:F∉M.map (·.1):=by rw[e];exact p
   refine⟨Q++c,⟨h,V6,eN F u M,Vj++[u],Q++c,rfl,d_,⟨by rw[Ah G,fi,e];rfl,cO.mpr ⟨q,eB _ _,λf j z bd d=>p (by rw[<-cb.mp bd,<-d];exact j)⟩,by rw[Ah G,fi,C];rfl⟩,VG,rfl⟩,[],by rw[bQ]⟩
 let⟨@i,own,⟨@s,I⟩⟩:=own;have be:bC T (k.set g<|Z .dK) B VQ:=am.mono D λo a=>cI o (ne<|dW _ a);let⟨L,@bi,O,R⟩:=be.back own x;rw[n8]at O;have all:((L++bi)++s).Perm (N++c):=by
  rw[kz]at R I gK ⊢;intro f;have:=R f;have:=I f;have:=gK f;simp only[kj,tQ] at *;omega
 have bm:=all.nodup_iff.mpr aq;refine⟨h,V6,M,x,t,by rw[<-e,a8],L,O,bb.chg (gK.mem_iff.mp<|.head _) WO (cO.mp (cO.mp bm).1).1 λf j=>all.mem_iff.mp<|dW _<|dW _ j⟩
def OR(r:Nat){F:az}{n WV:bl}{L:ay ai}{VC WM:Pos}(o:fF a.K ab)(x:gz a.K ab F)(q:bG a n (fA g))(s:bh a WV L)(Vy:kC WV (Z<|.Attribute n F WM) VC.line a.env=pure aA:=by rfl):ec a VV (.Assign [.Attribute n F WM] WV VC) (gL ab g r F L):=by
 refine jb (Rg q s Vy) λVo B b w=>?_;let⟨k,N,aW,@VL,Y,aq,y,p⟩:=w;let⟨@⟨v,Vu⟩,t,A⟩:=bB.mp y;dsimp only at A;split at A
 ·rename_i V9 P E l;split at A
  ·rename_i z;let@⟨rfl,C⟩:=z;refine⟨k,N,v,Vu,Y,aq,t,λu Vt U D m cp d=>?_⟩;split at A
   ·rename_i c;cases A;let⟨h,V6,@M,e,f,g3,⟨@V0,j,Vm⟩⟩:=Hq m d.aq cp l (.inl ⟨r,c.1,c.2,rfl,rfl⟩);exact⟨_,e,h,V9,V6,M,rfl,f,o,x,by omega,p B _ V0 c4.refl j<|d.seq Vm⟩
   ·split at A
    ·rename_i c;cases A;let⟨h,V6,@M,e,f,g3,⟨@V0,j,Vm⟩⟩:=Hq m d.aq cp l (.inr ⟨λi=>(by rw[tn.mpr i]at c;cases c),rfl,rfl⟩);exact⟨_,e,h,V9,V6,M,rfl,f,o,x,by omega,p B _ V0 c4.refl j<|d.seq Vm⟩
    ·cases A
  ·cases A
 ·cases A
@[simp] def n2(ab:aj)(g r:Nat)(F:az)(a:Nat)(b:az)(Wb:ai->ai->ai->Option ai):eW:=λv k=>match v,k[g]? with
 |.im v,Z (Z<|.aQ o P E)=>if o=ab/\P[r]?=Z F/\P[a]?=Z b then (E[r]?).bind λWC=>match E[a]? with
   |some (.im q)=>(Wb WC (.im q)<|.im v).map λV9=>k.set g (Z<|.aQ o P<|E.set r V9)
   |_=>X
  else X
 |_,_=>X
def Uv(r:Nat){F:az}(z:Nat){c:az}{Wb:ai->ai->ai->Option ai}{n VW:bl}{VC WN f:Pos}(D:pg a Wb)(o:fF a.K ab)(x:gz a.K ab F)(Wu:gz a.K ab c)(G:bG a n (fA g))(I:bG a VW (fA g))(L:hG n F a.env (bJ n a.env)=bJ n a.env:=by rfl)(O:hG VW c a.env (bJ VW a.env)=bJ VW a.env:=by rfl)(Q:∀u,i2 (.Subscript (.Attribute n F VC) (.Attribute VW c WN) f) a.env u=(do
   let e <-holding [u] (bJ (.Attribute n F VC) a.env)
   let i <-holding [u,e] (bJ (.Attribute VW c WN) a.env)
   standAt f
   holding [u,e,i] (p9 e i u)
   release [u,e,i] []):=by intro W;rfl):fO a VV (.Subscript (.Attribute n F VC) (.Attribute VW c WN) f) (n2 ab g r F z c Wb):=by
 refine r3 (yG (lg G L) (lg I O) D Q) λu B b C S=>?_;let⟨k,N,v,Vp,@VL,Y,s,aq,d,p⟩:=S;unfold n2 at d;split at d
 ·rename_i v V9 P E t;split at d
  ·rename_i l;let@⟨rfl,l,U⟩:=l;let⟨@WC,hd,A⟩:=bB.mp d;split at A
   ·rename_i q al;let⟨@w,am,an⟩:=b9.mp A;cases an;obtain rfl:Vp=[]:=s.2;rw[bQ]at aq p;let⟨h,V6,M,J,@ap,as,a1,a2,bd,be,W,bi⟩:=lL Y aq t l hd;let⟨bm,bn,bs,bv,@y,ca,cd,ce,m,W⟩:=lL Y aq t U al;refine⟨_,as,h,V9,V6,M,J,rfl,a1,o,x,a2,_,ca,bm,V9,bn,bs,bv,rfl,cd,o,Wu,ce,WC,.im q,.im v,w,ap,[],bd,?_,s,by rw[bQ];exact be,am,λT bR H j=>?_⟩
    ·let@⟨m,rfl⟩:=m;exact⟨m,rfl⟩
    ·let⟨@V0,ch,Vm⟩:=bi T w bR [] H (by rw[bQ]at j ⊢;exact j);rw[bQ]at Vm;exact p B T V0 c4.refl ch Vm
   ·cases A
  ·cases d
 ·cases d
@[simp] def eO(ab:aj)(g:Nat)(l:az)(Q:cj):ay ai:=λk=>match k[g]? with
 |some (Z<|.aQ o P E)=>if o=ab/\P.contains l=aA then match Q [.aQ o P E] with
   |some (s,[a])=>Z (s,k.set g<|Z a)
   |_=>X
  else X
 |_=>X
variable{fd:gM}
def Ki{l:az}(G:bG a n (fA g))(o:fF a.K ab)(I:cX a.K ab l F)(N:fT a.prog a.w a.K a.aU a.base gr q F fd Vw (i3 1 Q))(L:dt WR a.A)(S:f6 a.K fd Vw [])(al:q<=WR:=by decide)(bI:bJ (.Call (.Attribute n l WH) [] [] VC) a.env=(do
   let u <-bJ n a.env
   standAt WH.atName
   let (F,first) <-holding [u] (oC u l aZ)
   callWith VC F first (d9 VC<|bP [] a.env) (m4 VC<|nk [] a.env)):=by rfl):bh a (.Call (.Attribute n l WH) [] [] VC) (eO ab g l Q):=by
 refine d6 (LR (aZ:=aZ) G o I N (L.mono al) S .nil qK bI) λB b C am=>?_;let⟨k,an,s,@VL,Y,aq,c,p⟩:=am;unfold eO at c;split at c
 ·rename_i V9 P E ap;split at c
  ·rename_i e;let@⟨rfl,e⟩:=e;split at c
   ·rename_i Wh as a1;cases c;let⟨cd,ce,@VQ,v,VX,a2,VN⟩:=Y.out ap;let⟨h,V6,M,Vj,@m,bd,t,@⟨be,ch,ci⟩,A,rfl⟩:=id VX;subst bd;have x:=cO.mp (VN.nodup_iff.mpr aq);refine⟨_,v,h,V6,M,rfl,t,zk (by rw[be];intro i;rw[tn.mpr i]at e;cases e),rfl,[.aQ V9 P E],h::m,s,[as],⟨_,[],h::m,[],rfl,VX,⟨rfl,rfl⟩,by rw[bQ]⟩,x.2.1,a1,λJ T Vp y cv de j=>?_⟩;let⟨W,W,cl,@W,bi,bm,@⟨rfl,rfl⟩,rfl⟩:=de;cases bi;rw[bQ]at j;have bn:bC T (k.set g<|Z .dK) B VQ:=a2.mono j.tup λf r n d=>j.keep f n d λi=>x.2.2 f r f i rfl;let⟨bs,@bv,z,D⟩:=bn.back bm v;rw[n8]at z;have U:bb b an b ((h::m)++VQ):=bb.perm aq (c6.trans VN);have ca:=U.trans (Vp:=VQ) j λf r=>Y.chg f (VN.mem_iff.mp<|dW _ r);refine p J T bs Vp z cv (ca.less (ab:=bv) ?_);rw[kz]at D ⊢;intro f;have:=D f;simp only[kj] at *;omega
   ·cases c
  ·cases c
 ·cases c
@[simp] def p4(ab:aj)(Q:cj)(x:Nat)(L:ay (List bN)):ay ai:=λk=>(L k).bind λm=>if m.1.length=x then (ei m.1 m.2).bind λp=>match Q (.aQ ab [] []::p.1) with
  |some (.im .a3,n::outs)=>Z (n,hh m.1 outs p.2)
  |_=>X
 else X
def Nz{L:ay (List bN)}(ay:lH a.K ab F)(N:fT a.prog a.w a.K a.aU a.base gr q F fd Vw (i3 (x+1) Q))(T:dt WR a.A)(al:eu a f)(am:a.aU f=Z (.ref ab))(an:f6 a.K fd Vw [])(j:fV a (d::S) L)(ap:q+1<=WR:=by decide)(as:(f==("__debug__" : az))=aA:=by decide)(a1:bP (d::S) a.env=(aA,bJ d a.env)::bP S a.env:=by rfl)(a2:(d9 VC<|bP S a.env).any (·.1)=aA:=by rfl):bh a (.Call (.Name f m) (d::S) [] VC) (p4 ab Q x L):=by
 refine d6 (Pl ay N (T.mono ap) al am an .nil qK j as a1 a2) λB b C bd=>?_;let⟨k,l,s,@VL,Y,aq,be,p⟩:=bd;let⟨@⟨VI,Vu⟩,t,A⟩:=bB.mp be;dsimp only at A;split at A
 ·rename_i bi;let⟨@⟨E,VY⟩,bm,o⟩:=bB.mp A;split at o
  ·rename_i n outs bn;cases o;refine⟨k,l,VI,Vu,Y,aq,t,λVj Vt U fn bs VG bv=>λf V6 D ca ne=>?_⟩;let⟨VQ,@bR,r,VX,VN⟩:=lV bs VG bm;have cd:bb b l Vt ((bR++VQ)++[]):=by
    rw[bQ];exact bv.hK (VN.symm.trans c6)
   let VF:aD:=upd (upd Vt V6<|.own f) f (.ins ab V6 [])
   have e:cY Vt VF:=((cY.refl Vt).upd ca).upd (by rw[cz (eZ ne)];exact D);have ce:=cd.new (y:=[f]) e (eB _ _) (λz c=>by rw[cb.mp c];exact D) λz c=>by
    rcases du.mp c with c|c
    ·exact VX.chg z c
    ·exact r.chg z c
   have ch:(f::bR)++VQ=f::(bR++VQ):=rfl;have G:bb b l VF ((f::bR)++VQ):=ce.hK (by rw[ch];exact c6);have ci:c2 VF (.aQ ab [] []::E) (.ref f::Vj) (f::bR):=⟨.ref f,Vj,[f],bR,rfl,⟨f,V6,[],[],[],rfl,d_,⟨rfl,hn,rfl⟩,⟨rfl,rfl⟩,rfl⟩,VX.mono e.tupS λh W n d=>e h n d,rfl⟩;have I:=cO.mp G.aq;have J:(.ref f::(Vj++([]:List au))).length=x+1:=by rw[dn,bQ,<-VG.length,bi]
   rw[bQ]at J ⊢;refine⟨J,.aQ ab [] []::E,f::bR,.im .a3,s::outs,ci,I.1,bn,λu M Vp y cp cv g=>?_⟩;let@⟨cp,rfl⟩:=cp;let⟨W,W,cl,@fr,co,de,cr,rfl⟩:=cv;cases co;rw[gp]at g;have v:∀z∈VQ,fx VF z:=λz c=>by
    let⟨@V4,cs,v,db⟩:=r.chg z c;exact⟨V4,e z V4 cs,v,db⟩
   have ds:=G.trans (Vp:=VQ) g v;have dL:bC M VY B VQ:=(r.mono e.tupS λh W n d=>e h n d).mono g.tup λh j n d=>g.keep h n d λi=>I.2.2 h i h j rfl;let⟨eq,@ev,ex,P⟩:=pX dL VG cr;refine⟨cp,p (.ref f) M eq cl ex de<|ds.less (ab:=ev) ?_⟩;rw[kz]at P ⊢;intro z;have:=P z;simp only[kj] at *;omega
  ·cases o
 ·cases A
end
def Qg:cf->List cf
 |.ClassDef _ _ _ c _ _ _ _ _ _ _=>c
 |_=>[]
def cH(Y:cf)(r:Nat):cf:=((Qg Y).getD r (.Pass ⟨0,0,0,0⟩))
def gJ(t:Prop)(R:Φ)(f z:az)(Y:cf)(F:aj):Prop:=(∃fd,f7 R f z Y F fd/\t)
def hR(t:Prop)(R:Φ)(f z:az)(Y:cf)(F:aj)(Vw:List az):Prop:=(∃fd,f7 R f z Y F fd/\f6 R fd Vw []/\t)
def sv(t:Prop)(Vz:bE)(H:bg)(R:Φ)(aU:az->Option ae)(VB:a4)(q:Nat)(f z:az)(Y:cf)(F:aj)(Vw:List az)(x:Nat)(Q:cj):Prop:=(∃fd,f7 R f z Y F fd/\f6 R fd Vw []/\t/\fT Vz H R aU VB gr q F fd Vw (i3 x Q))
def F7{t:Prop}{Y:cf}{b6 U VN Wc b3:ae}(i:t)(I:R.lookup F=Z ⟨WU,WI,.func<|Ψ f z (f5 Y) (eQ Y) (dq Y) .none b6 U VN Ws Wc b3,WX⟩)(o:Ω R Wc z=V)(q:Θ R (.ref F)=V):gJ t R f z Y F:=⟨_,HN I o q,i⟩
section
variable{t:Prop}{Vz:bE}{H:bg}{R:Φ}{aU:az->Option ae}{VB:a4}{q x:Nat}{f z:az}{Y:cf}{F:aj}{Vw:List az}{Q:cj}
def gJ.cE(s:gJ t R f z Y F)(b:∀(b6 U VN:ae) (Ws:Option aj) (Wc b3 h:ae),iL (Ψ f z (f5 Y) (eQ Y) (dq Y) .none b6 U VN Ws Wc b3) ⟨[h],[]⟩=pure (Vw.zip [h]):=by intros;rfl)(c:Vw.length=1:=by rfl):hR t R f z Y F Vw:=
 have ⟨_,a,h⟩:=s
 ⟨_,a,a.F3 b c,h⟩
def gJ.jy(s:gJ t R f z Y F)(b:∀(b6 U VN:ae) (Ws:Option aj) (Wc b3 h c o v:ae),iL (Ψ f z (f5 Y) (eQ Y) (dq Y) .none b6 U VN Ws Wc b3) ⟨[h,c,o,v],[]⟩=pure (Vw.zip [h,c,o,v]):=by intros;rfl)(d:Vw.length=4:=by rfl):hR t R f z Y F Vw:=
 have ⟨_,a,h⟩:=s
 ⟨_,a,a.C3 b d,h⟩
def I2{L:bu}(VS:List az)(N:hR t R f z Y F Vw)(d:VS.Nodup->∀(Wc:ae) (O:bq) (Wq:List d5) (j:ao) (b:aD) (Vo:fv),dt q (O.deeper<|h7 z (dq Y) j.heap.objs.size F Wc)->gk (ju gr Vz H R aU VB VS z (dq Y) F Wc O Wq j b Vo).ke VV (eQ Y) L)(VD:kb VS Vw (dq Y):=by exact tW)(e:Vw.length=x:=by rfl)(h:∀g∈VV,g<x:=by decide):sv t Vz H R aU VB (q+1) f z Y F Vw x (cJ x VS.length VV L):=
 have ⟨_,a,c,l⟩:=N
 ⟨_,a,c,l,Cm a VD e h<|d VD.aq⟩
end
section
variable{a:aL}
def Ml{l:az}{Y:cf}(o:fF a.K ab)(d:sv (cX a.K ab l F) a.prog a.w a.K a.aU a.base q l z Y F Vw 1 Q)(e:dt WR a.A)(f:bG a n (fA g))(h:q<=WR:=by decide)(bI:bJ (.Call (.Attribute n l WH) [] [] VC) a.env=(do
   let b <-bJ n a.env
   standAt WH.atName
   let (F,first) <-holding [b] (oC b l aZ)
   callWith VC F first (d9 VC<|bP [] a.env) (m4 VC<|nk [] a.env)):=by rfl):bh a (.Call (.Attribute n l WH) [] [] VC) (eO ab g l Q):=
 have ⟨_,_,c,i,N⟩:=d
 Ki (aZ:=aZ) f o i N e c h bI
def Ru{Y:cf}{i:az}(b:sv (lH a.K ab F) a.prog a.w a.K a.aU a.base q z i Y F Vw (x+1) Q)(e:dt WR a.A)(g:eu a f)(h:a.aU f=Z (.ref ab))(j:fV a (d::S) L)(k:q+1<=WR:=by decide)(l:(f==("__debug__" : az))=aA:=by decide)(n:bP (d::S) a.env=(aA,bJ d a.env)::bP S a.env:=by rfl)(o:(d9 VC<|bP S a.env).any (·.1)=aA:=by rfl):bh a (.Call (.Name f m) (d::S) [] VC) (p4 ab Q x L):=
 have ⟨_,_,c,p,N⟩:=b
 Nz p N e g h c j k l n o
end
variable{R:Φ}{ab F:aj}{l f z:az}{Y:cf}{WU:ae}{WI Ws:Option aj}{WX:Array (Option ae)}{b6 U VN Wc b3:ae}
def jR(h:Ξ R (.ref ab) l=Z (Z<|.ref F))(c:Φb R (.ref F)=V)(q:Θ R (.ref F)=V)(I:R.lookup F=Z ⟨WU,WI,.func<|Ψ f z (f5 Y) (eQ Y) (dq Y) .none b6 U VN Ws Wc b3,WX⟩)(o:Ω R Wc z=V):gJ (cX R ab l F) R f z Y F:=F7 ⟨h,c,q⟩ I o q
def Fq(h:Ξ R (.ref ab) "__init__" = Z (Z<|.ref F))(c:Φb R (.ref F)=V)(q:Θ R (.ref F)=V)(I:R.lookup F=Z ⟨WU,WI,.func<|Ψ f z (f5 Y) (eQ Y) (dq Y) .none b6 U VN Ws Wc b3,WX⟩)(o:Ω R Wc z=V)(mk:Φh R ab=V)(a:Θ R (.ref ab)=V):gJ (lH R ab F) R f z Y F:=F7 ⟨mk,h,c,a⟩ I o q
def noA(e:Ξ R (.ref ab) l=Z X):gz R ab l:=e
end L2
namespace L2
open Spec PyProof.Rows
def gJ.cQ{t:Prop}{R:Φ}{f z:az}{Y:cf}{F:aj}{Vw:List az}(s:gJ t R f z Y F)(b:∀(b6 U VN:ae) (Ws:Option aj) (Wc b3 h c:ae),iL (Ψ f z (f5 Y) (eQ Y) (dq Y) .none b6 U VN Ws Wc b3) ⟨[h,c],[]⟩=pure (Vw.zip [h,c]):=by intros;rfl)(d:Vw.length=2:=by rfl):hR t R f z Y F Vw:=
 have ⟨_,a,h⟩:=s
 ⟨_,a,a.Hv b d,h⟩
end L2
namespace L2
open Spec PyProof.Rows PySem.W
variable{h:aj}{u J:ae}{r g:Int}{O:bq}{j:ao}
def Pe:String->bH:=((⟨_,rfl⟩:{F:String->bH // F "max" = bH.«max» }).1)
def QV:String->jI->bH:=((⟨_,rfl⟩:{F:String->jI->bH // F "max" .Gt=bH.«max.loop» }).1)
section
variable{Vs:bE}{H:bg}{O:bq}{Vo:ae->ao->Prop}{j:ao}
def BX{E k:String}{Wa:jI}(l:(toString E++toString ".loop" : String)=k)(R:builtinKind E=X)(S:plainId E=V)(T:qc pf E=Z (Pe E))(U:∀h c:ae,sg E ⟨[h,c],[]⟩)(a:plainId k=V)(r:qc pf k=Z (QV E Wa)){h c:ae}{q:Bool}{C:ae->ao->Prop}(al:O.handled=X)(am:∀Vm:ao,(∀o n,j.heap.get? o=Z n->Vm.heap.get? o=Z n)->∀(C:ae->ao->Prop) (Vo:ae->ao->Prop),C (.bool q) Vm->wpAny (aO Vs H) O.in1 (om Wa c h) C Vo Vm)(e:∀Vk Vq,(∀o n,j.heap.get? o=Z n->Vk.get? o=Z n)->C (if q=V then c else h) {j with heap:=Vk,toks:=Vq}):wpAny (aO Vs H) O (call (.builtin E) [h,c]) C Vo j:=by
 refine call_function_tree R S T (U _ _) ?_;show wpAny _ O.in1 (bH.Builtins.bindParams E ["key","default"] 0 ⟨[],[]⟩ >>= _) _ _ j;refine aB (vb (show bH.Builtins.bindParams E ["key","default"] 0 ⟨[],[]⟩=pure [X,X] from rfl) ?_);show wpAny _ O.in1 (z4 [h,c] >>= _) _ _ j;refine aB (hp ?_);have z:(j.heap.push {cls:=.type "tuple",data:=.seq #[h,c]}).IsTuple j.heap.objs.size #[h,c]:=⟨_,dM _ rfl,rfl,0,rfl⟩;refine aB (x3 z<|aB<|hp ?_);have m:(j.heap.push {cls:=.type "tuple",data:=.seq #[h,c]}).objs.size=j.heap.objs.size+1:=jz ..;have W:=iK.tuple (prog:=Vs) (w:=H) (A:=O.in1) al (j.heap.push {cls:=.type "tuple",data:=.seq #[h,c]}).objs.size j.heap.objs.size (by rw[m];exact c0 (l7 _)) #[h,c];rw[l];refine aR ⟨jQ a _,?_⟩;have fe:((j.heap.push {cls:=.type "tuple",data:=.seq #[h,c]}).push {cls:=.type "tuple_iterator",data:=.fields #[.ref j.heap.objs.size,.int 0 0]}).IsTupleIter (j.heap.push {cls:=.type "tuple",data:=.seq #[h,c]}).objs.size j.heap.objs.size 0:=⟨_,dM _ rfl,rfl,rfl⟩;have B:=z.push {cls:=.type "tuple_iterator",data:=.fields #[.ref j.heap.objs.size,.int 0 0]};have s:((j.heap.push {cls:=.type "tuple",data:=.seq #[h,c]}).push {cls:=.type "tuple_iterator",data:=.fields #[.ref j.heap.objs.size,.int 0 0]}).objs.size=j.heap.objs.size+2:=by rw[jz,m]
 have cI:∀o n,j.heap.get? o=Z n->((j.heap.push {cls:=.type "tuple",data:=.seq #[h,c]}).push {cls:=.type "tuple_iterator",data:=.fields #[.ref j.heap.objs.size,.int 0 0]}).get? o=Z n:=λo n d=>cG _ (cG _ d);rw[m]at W fe;rw[m,s];generalize bn:((j.heap.push {cls:=.type "tuple",data:=.seq #[h,c]}).push {cls:=.type "tuple_iterator",data:=.fields #[.ref j.heap.objs.size,.int 0 0]})=g2 at fe B s cI ⊢;have D:(g2.push {cls:=.type "list",data:=.seq ([]:List ae).toArray}).get? (j.heap.objs.size+2)=Z {cls:=.type "list",data:=.seq ([]:List ae).toArray}:=by rw[<-s];exact dM _ rfl
 have v:j.heap.objs.size+2∉[j.heap.objs.size+1]:=by simp
 have F:∀o∈[j.heap.objs.size+1,j.heap.objs.size],j.heap.objs.size+2≠o:=λo b i=>by
  simp only[cm,List.mem_nil_iff,i0]at b;rcases b with d|d
  ·rw[d]at i;exact absurd i (me<|l7 _)
  ·rw[d]at i;exact absurd i (me (CQ ∅))
 have f:∀o n,j.heap.get? o=Z n->o∉[j.heap.objs.size+1]/\o≠j.heap.objs.size+2:=λo n d=>by
  have lt:=cA d;refine⟨λi=>?_,c0<|eJ lt<|tV _ _⟩;rw[cb.mp i]at lt;exact iM _ (Nat.lt_of_succ_lt lt)
 have fin:∀(Vk:a4) (Vq:Nat) (g:ae) (G:Nat),(∀o n,j.heap.get? o=Z n->Vk.get? o=Z n)->Vk.get? (j.heap.objs.size+2)=Z {cls:=.type "list",dict:=X,data:=.seq #[g,g] G,slots:=#[]}->
   Vk.IsTupleIter (j.heap.objs.size+1) j.heap.objs.size 2/\Vk.IsTuple j.heap.objs.size #[h,c]->g=(if q=V then c else h)->
   codeAny (aO Vs H) O (.builtin k ⟨[.ref (j.heap.objs.size+1),.none,.ref<|j.heap.objs.size+2],[]⟩) (wants C Vo) {j with heap:=Vk,toks:=Vq}:=by
  intro Vk Vq g G p I Y h8;refine jN r ?_;rw[k6 a _];show wpAny _ O.in1 (o3 (.ref<|j.heap.objs.size+2) >>= _) _ _ _;refine aB (lU (s:={j with heap:=Vk,toks:=Vq}) I rfl ?_);show wpAny _ O.in1 (tryCatch (gm<|.ref<|j.heap.objs.size+1) _ >>= _) _ _ _;refine aB (sQ<|W.done {j with heap:=Vk,toks:=Vq} _ _ Y λA an dO=>?_);have ap:=dO _ _ v I;show wpAny _ O.in1 (ub (j.heap.objs.size+2) (λ_=>#[]) >>= _) _ _ _;refine aB (rb ap rfl<|aB<|pb<|aR ?_);show C g _;rw[h8];exact e _ an λo n d=>(ip _ _<|eZ (f o n d).2).trans (dO o n (f o n d).1 (p o n d))
 refine jN r ?_;rw[k6 a _];show wpAny _ O.in1 (o3 (.ref<|j.heap.objs.size+2) >>= _) _ _ _;refine aB (lU (s:={j with heap:=g2.push {cls:=.type "list",data:=.seq ([]:List ae).toArray} }) D rfl ?_);show wpAny _ O.in1 (tryCatch (gm<|.ref<|j.heap.objs.size+1) _ >>= _) _ _ _;refine aB (sQ (W.item 0 {j with heap:=g2.push {cls:=.type "list",data:=.seq ([]:List ae).toArray} } _ _ ↥0 ⟨let ⟨n,as,a1⟩:=fe;⟨n,cG _ as,a1⟩,B.push _⟩ λu t bs w a2 p=>?_));cases w;have J:=p _ _ v D;show wpAny _ O.in1 (ub (j.heap.objs.size+2) (λ_=>#[h,h]) >>= _) _ _ _;refine aB (rb J rfl ?_);rw[l];refine aR ⟨jQ a _,jN r ?_⟩;have L:=lE (ba.mapSeq<|λ_=>(#[h,h]:Array ae)) J rfl;have bd:=W.frame _ _ (t.update (j.heap.objs.size+2)<|ba.mapSeq<|λ_=>(#[h,h]:Array ae)) a2 λo b n d=>(ip _ _<|F o b).trans d;have be:∀o n,j.heap.get? o=Z n->(t.update (j.heap.objs.size+2)<|ba.mapSeq<|λ_=>(#[h,h]:Array ae)).get? o=Z n:=λo n d=>(ip _ _<|eZ (f o n d).2).trans (p o n (f o n d).1 (cG _<|cI o n d));rw[k6 a _];show wpAny _ O.in1 (o3 (.ref<|j.heap.objs.size+2) >>= _) _ _ _;refine aB (lU L rfl ?_);show wpAny _ O.in1 (tryCatch (gm<|.ref<|j.heap.objs.size+1) _ >>= _) _ _ _;refine aB (sQ (W.item 1 _ _ _ ↥0 bd λu bi M w N P=>?_));cases w;have x:=P _ _ v L;have y:∀o n,j.heap.get? o=Z n->bi.get? o=Z n:=λo n d=>P o n (f o n d).1 (be o n d);show wpAny _ O.in1 (tryCatch (holding [c,c]<|om Wa c h >>= _) _ >>= _) _ _ _;refine aB (sQ<|f9<|aB<|am _ y _ _ ?_);refine aB (f9<|lB ?_);refine aB (pb<|aR ?_);cases Q:q with
 |true=>
  simp only[iQ];refine aB (rb x rfl<|aB<|pb ?_);rw[l];have bm:=lE (ba.mapSeq<|λ_=>(#[c,c]:Array ae)) x rfl;refine aR ⟨jQ a _,fin _ M c _ (λo n d=>(ip _ _<|eZ (f o n d).2).trans<|y o n d) bm (W.frame _ _ _ N λo b n d=>(ip _ _<|F o b).trans d) (by rw[Q];rfl)⟩
 |false=>
  simp only[hi,fN];refine aB (pb ?_);rw[l];exact aR ⟨jQ a _,fin _ M h _ y x N (by rw[Q];rfl)⟩
end
section
variable{Vs:bE}{H:bg}{O:bq}{Vo:ae->ao->Prop}{j:ao}{h c:ae}{q:Bool}{C:ae->ao->Prop}
def Lr(a:O.handled=X)(b:∀Vm:ao,(∀o n,j.heap.get? o=Z n->Vm.heap.get? o=Z n)->∀(C:ae->ao->Prop) (Vo:ae->ao->Prop),C (.bool q) Vm->wpAny (aO Vs H) O.in1 (om .Gt c h) C Vo Vm)(e:∀Vk Vq,(∀o n,j.heap.get? o=Z n->Vk.get? o=Z n)->C (if q=V then c else h) {j with heap:=Vk,toks:=Vq}):wpAny (aO Vs H) O (call (.builtin "max") [h,c]) C Vo j:=
 BX ∅ F.kind_max F.plain_max F.entry_max F.args_max2 F.plain_max_loop F.entry_max_loop a b e
def QS(a:O.handled=X)(b:∀Vm:ao,(∀o n,j.heap.get? o=Z n->Vm.heap.get? o=Z n)->∀(C:ae->ao->Prop) (Vo:ae->ao->Prop),C (.bool q) Vm->wpAny (aO Vs H) O.in1 (om .Lt c h) C Vo Vm)(e:∀Vk Vq,(∀o n,j.heap.get? o=Z n->Vk.get? o=Z n)->C (if q=V then c else h) {j with heap:=Vk,toks:=Vq}):wpAny (aO Vs H) O (call (.builtin "min") [h,c]) C Vo j:=
 BX ∅ F.kind_min F.plain_min F.entry_min F.args_min2 F.plain_min_loop F.entry_min_loop a b e
end
def tP(O:bq)(j:ao)(z f:ae)(q:Bool):Prop:=(∀(Vs:bE) (H:bg) (Vo:ae->ao->Prop) (C:ae->ao->Prop),C (.bool q) j->wpAny (aO Vs H) O (om .Gt z f) C Vo j)
section
open PySem.SeqAt
open PySem.AutoSeq1 (wpAny_loadPart')
open PySem.MeetsSeq PySem.MeetsSeq2 PySem.MeetsSeq3
def P_(I c:aj)(VP a:Array ae)(x Wu:Nat)(w y:Option aj)(bo B:Array (Option ae))(Vw:List (Bool×Bool))(P:Vw.length=min VP.size a.size):
  Meets (bH.«tuple.__gt__» ⟨[.ref I,.ref c],[]⟩)
   (λO Vp j=>j.heap.get? I=Z {cls:=.type "tuple",dict:=w,data:=.seq VP x,slots:=bo}/\j.heap.get? c=Z {cls:=.type "tuple",dict:=y,data:=.seq a Wu,slots:=B}/\
    (∀r (t:r<VP.size) (A:r<a.size) (l:r<Vw.length),EqAt O.in1 j VP[r] a[r] (Vw[r]).1/\((Vw[r]).1=aA->tP O.in1 j VP[r] a[r] (Vw[r]).2))/\
    Vp (.ok<|.ret<|.bool<|hP (decide (a.size<VP.size)) Vw) j):=
 .of_wp λVs H O Vp j e=>by
  let⟨i,L,v,Vq,VI⟩:=j;let@⟨C,D,E,e⟩:=e;have Q:=GB;have n:(VP.toList.zip a.toList).length=min VP.size a.size:=by simp
  wp_walk using wpAny_loadPart' C,wpAny_loadPart' D,mH _ (λc1 c Vm=>c.1=X/\Vm=⟨i,L,v,Vq,VI⟩/\∃g,c1=(VP.toList.zip a.toList).drop g/\
   Vp (.ok<|.ret<|.bool<|hP (decide (a.size<VP.size))<|Vw.drop g) ⟨i,L,v,Vq,VI⟩) _
  case turn=>
   rintro⟨z,f⟩ c1 c Vm ⟨m,rfl,g,b,h⟩;have o:g<(VP.toList.zip a.toList).length:=by
    rcases g_ g (VP.toList.zip a.toList).length with Vk|Vk
    ·exact Vk
    ·rw[nP Vk]at b;cases b
   have R:g<min VP.size a.size:=n ▸ o;have t:g<VP.size:=⋯
   have A:g<a.size:=⋯
   have l:g<Vw.length:=⋯
   rw[i6 o]at b;injection b with p F;have G:z=VP[g]:=by have:=congrArg Prod.fst p;simpa using this
   have J:f=a[g]:=by have:=congrArg Prod.snd p;simpa using this
   subst G J;rw[i6 l]at h;let@⟨s,u⟩:=E g t A l;generalize Vw[g]=M at h s u;let⟨d,q⟩:=M;refine aB (s Vs H _ _ ?_);cases d with
   |true=>
    have k:Vp (.ok<|.ret<|.bool<|hP (decide (a.size<VP.size))<|Vw.drop<|g+1) ⟨i,L,v,Vq,VI⟩:=h
    wp_walk
    exact⟨rfl,rfl,g+1,F,k⟩
   |false=>
    have k:Vp (.ok<|.ret<|.bool q) ⟨i,L,v,Vq,VI⟩:=h;have N:=u rfl Vs H
    wp_walk using N
    exact⟨_,rfl,by simpa using k⟩
  case fin=>
   rintro⟨cE,cQ⟩ Vm ⟨m,rfl,g,b,h⟩;simp only at m;subst m;have S:min VP.size a.size<=g:=by
    rcases g_ g (VP.toList.zip a.toList).length with Vk|Vk
    ·rw[i6 Vk]at b;cases b
    ·exact n ▸ Vk
   rw[nP ⋯]at h;have k:Vp (.ok<|.ret<|.bool<|decide (a.size<VP.size)) ⟨i,L,v,Vq,VI⟩:=h
   wp_walk
   exact⟨_,rfl,by simpa [bH.Tuple.tupleCompareSizes] using k⟩
  case h=>
   exact⟨rfl,rfl,0,rfl,by simpa using e⟩
end
def k8(E S:List aa):List (Bool×Bool):=((E.zip S).map λm=>(cn m.1 m.2,bz m.2 m.1))
def K6(h c:aa):aa.beq h c=aa.beq c h:=by
 rw[k5,aa.beq_iff,aa.beq_iff];exact⟨λe=>e.symm,λe=>e.symm⟩
theorem F6:∀{x:Nat}{E S:List aa},fU x E S=V->hP (decide (S.length<E.length)) (k8 E S)=gn S E
 |_,[],[],_=>rfl
 |x,h::s,c::D,e=>by
  rw[fU,cT]at e;show (if cn h c=V then hP (decide (D.length+1<s.length+1)) (k8 s D) else bz c h)=gn (c::D) (h::s);rw[gn,(pP e.1).2.2,<-F6 e.2,K6,s9.mpr y1]
 |_,[],_::_,_=>rfl
 |_,_::_,[],_=>rfl
def LQ(a:dh j.heap (.int g) J)(b:dh j.heap (.int r) u):tP O j J u (bz (.int r)<|.int g):=by
 let⟨@D,rfl⟩:=a;let⟨@V1,rfl⟩:=b;intro Vs H Vo C p;rw[bz]at p;exact (QJ p:wpAny (aO Vs H) O (e2 .Gt (.int g D)<|.int r V1) C Vo j)
def BV{f z:aa}(I:zf f z)(a:dh j.heap f J)(b:dh j.heap z u):tP O j J u (bz z f):=by
 rcases I with ⟨g,r,rfl,rfl⟩|⟨h,c,rfl,rfl⟩
 ·exact LQ a b
 ·let⟨D,rfl⟩:=a;let⟨V1,rfl⟩:=b;intro Vs H Vo C p;rw[bz]at p;exact richCompare_gives (op:=.Gt) (za j h D) (za j c V1) PySem.F.slot_str_gt PySem.F.entry_str_gt (PySem.F.args_str_gt_2 _ _) (PySem.gives_str_gt h c D V1) (λd=>nomatch d) p
def L8(x:Nat):∀{O:bq}{f z:aa}{J u:ae},ew x f z=V->O.units+x+2<bW->dh j.heap f J->dh j.heap z u->tP O j J u (bz z f):=by
 induction x with
 |zero=>
  intro O f z J u e M a b;rcases oA e with I|⟨l,_,_,d,_⟩
  ·exact BV I a b
  ·cases d
 |succ x P=>
  intro O f z J u e M a b;rcases oA e with I|⟨l,E,S,d,rfl,rfl,e⟩
  ·exact BV I a b
  cases d;let⟨h,n,VA,@l,rfl,t,A,g,k⟩:=a;let⟨c,V4,U,@Q,rfl,m,o,q,s⟩:=b;let⟨cls,R,data,bo⟩:=n;let⟨a1,T,a2,al⟩:=V4;simp only at A g o q;subst A g o q;have v:E.length=VA.size:=by rw[k.length,df]
  have w:S.length=U.size:=by rw[s.length,df]
  intro Vs H Vo C p;rw[bz,<-F6 e,v,w]at p;have am:(k8 E S).length=min VA.size U.size:=by rw[k8,a8,GY,v,w]
  refine Co (op:=.Gt) ⟨_,t,rfl⟩ ⟨_,m,rfl⟩ PySem.F.slot_tuple_gt PySem.F.entry_tuple_gt (PySem.F.args_tuple_gt_2 _ _) (P_ h c VA U l Q R T bo al (k8 E S) am)
   ⟨t,m,λr b1 an ap=>?_,show ae.bool (hP (decide (U.size<VA.size))<|k8 E S)≠ae.notImplemented/\C (.bool<|hP (decide (U.size<VA.size))<|k8 E S) j from ⟨(λf=>nomatch f),p⟩⟩ ⋯;let⟨@V2,y,B⟩:=k.get (r:=r) (u:=VA[r]) (by rw[eE];simp[b1]);let⟨@V8,D,G⟩:=s.get (r:=r) (u:=U[r]) (by rw[eE];simp[an]);have lk:=zq e y D;have L:=pP lk;have as:(k8 E S)[r]=(cn V2 V8,bz V8 V2):=by
   have:(k8 E S)[r]?=Z (cn V2 V8,bz V8 V2):=by
    rw[k8,d3,(ug (z:=(V2,V8))).mpr ⟨y,D⟩];rfl
   rw[dN ap]at this;exact Option.some.inj this
  rw[as];exact⟨iU x L.1 L.2.1 (by show O.units+1+x+1<bW;lia) B G,λ_=>P lk (by show O.units+1+x+2<bW;lia) B G⟩
section
variable{a:aL}
def Q2(g:a.calm=V)(k:a.A.units+20<bW):eD a (.builtin "max") (λw b C=>∃(v d:aa) (u J:au),w=[u,J]/\ew 6 d v=V/\cC b v u/\cC b d J/\C (if bz v d=V then J else u) b):=by
 intro G j B b w VH C y s e;let⟨v,d,u,@J,rfl,lk,t,A,p⟩:=e;let⟨l,@m,rfl,c,f⟩:=sJ s;refine Lr (q:=bz v d) (y.ok.hd g) (λVm q C Vo i=>?_) λVk Vq q=>⟨if bz v d=V then J else u,b,y.kept q,?_,p⟩
 ·exact L8 6 lk (by show a.A.units+1+6+2<bW;lia) ((A.ft y.a5 f).keep λh n W W d W W=>q h n d) ((t.ft y.a5 c).keep λh n W W d W W=>q h n d) a.prog a.w Vo C i
 ·split
  ·exact f
  ·exact c
def QO(g:a.calm=V)(k:a.A.units+20<bW):eD a (.builtin "min") (λw b C=>∃(v d:aa) (u J:au),w=[u,J]/\ew 6 d v=V/\cC b v u/\cC b d J/\C (if bz d v=V then J else u) b):=by
 intro G j B b w VH C y s e;let⟨v,d,u,@J,rfl,lk,t,A,p⟩:=e;let⟨l,@m,rfl,c,f⟩:=sJ s;refine QS (q:=bz d v) (y.ok.hd g) (λVm q C Vo i=>?_) λVk Vq q=>⟨if bz d v=V then J else u,b,y.kept q,?_,p⟩
 ·exact DU 6 lk (by show a.A.units+1+6+2<bW;lia) ((A.ft y.a5 f).keep λh n W W d W W=>q h n d) ((t.ft y.a5 c).keep λh n W W d W W=>q h n d) a.prog a.w Vo C i
 ·split
  ·exact f
  ·exact c
def rJ:ic:=(λE=>match E with
 |[.im (.int g),.im<|.int r]=>y_ [.im (.int g),.im<|.int r]
 |[.im (.tup h),.im<|.tup c]=>if ew 6 (.tup c) (.tup h)=V then Z (.im<|if bz (.tup h) (.tup c)=V then .tup c else .tup h) else X
 |_=>X)
def rN:ic:=(λE=>match E with
 |[.im (.int g),.im<|.int r]=>yq [.im (.int g),.im<|.int r]
 |[.im (.tup h),.im<|.tup c]=>if ew 6 (.tup c) (.tup h)=V then Z (.im<|if bz (.tup c) (.tup h)=V then .tup c else .tup h) else X
 |_=>X)
def NS(e:a.calm=V)(k:a.A.units+20<bW):gV a (.builtin "max") rJ:=by
 intro G j B b w VH C y s l;let⟨E,@v,f,d,p⟩:=l;unfold rJ at d;split at d
 ·exact O8 e G j B b w VH C y s ⟨_,v,f,d,p⟩
 ·split at d
  ·rename_i h c lk;cases d;let⟨u,@J,rfl,t,A⟩:=Dz f;refine Q2 e k G j B b _ VH C y s ⟨_,_,u,J,rfl,lk,t,A,b_.i p ?_⟩;split
   ·exact A
   ·exact t
  ·cases d
 ·cases d
def LX(e:a.calm=V)(k:a.A.units+20<bW):gV a (.builtin "min") rN:=by
 intro G j B b w VH C y s l;let⟨E,@v,f,d,p⟩:=l;unfold rN at d;split at d
 ·exact Kx e G j B b w VH C y s ⟨_,v,f,d,p⟩
 ·split at d
  ·rename_i h c lk;cases d;let⟨u,@J,rfl,t,A⟩:=Dz f;refine QO e k G j B b _ VH C y s ⟨_,_,u,J,rfl,lk,t,A,b_.i p ?_⟩;split
   ·exact A
   ·exact t
  ·cases d
 ·cases d
end
mutual
def uO:aa->sL
 |.int g=>.int g
 |.av c=>.bool c
 |.str f=>.str f
 |.tup E=>.tuple (rx E)
 |_=>.none
def rx:List aa->List sL
 |[]=>[]
 |v::s=>uO v::rx s
end
mutual
theorem Qp{e:a4}:∀{x:Nat}{v:aa}{J:ae},aa.aZ x v=V->dh e v J->Reads e J (uO v) []
 |_,.a3,J,_,d=>by cases (show J=.none from d);exact .none
 |_,.av c,J,_,d=>by cases (show J=.bool c from d);exact .bool c
 |_,.int g,J,_,d=>by let⟨@D,rfl⟩:=d;exact .int g D
 |_,.str f,J,_,d=>by let⟨@D,rfl⟩:=d;exact .str f D
 |x+1,.tup E,J,q,d=>by
  let⟨h,n,VP,@l,rfl,t,A,a,b⟩:=d;exact .tuple t A a (GD (x:=x) q b)
 |0,.tup E,J,q,d=>by cases q
 |x,.fn h,J,q,d=>by cases x<;>cases q
 |x,.aW h,J,q,d=>by cases x<;>cases q
 |x,.fd _,J,q,d=>by cases x<;>cases q
theorem GD{e:a4}:∀{x:Nat}{E:List aa}{VH:List ae},aa.dj x E=V->dR e E VH->ReadsAll e VH (rx E) []
 |_,[],VH,_,d=>by rw[show VH=[] from d];exact .nil
 |x,v::E,VH,q,d=>by
  let⟨u,@s,rfl,t,A⟩:=d;rw[aa.dj,cT]at q;exact .cons (Qp q.1 t) (GD q.2 A)
end
mutual
theorem TH:∀v:aa,sL.hasDict (uO v)=aA
 |.a3=>rfl
 |.av _=>rfl
 |.int _=>rfl
 |.str _=>rfl
 |.fn _=>rfl
 |.aW _=>rfl
 |.fd _=>rfl
 |.tup E=>Ek E
theorem Ek:∀E:List aa,sL.hasDictAll (rx E)=aA
 |[]=>rfl
 |v::s=>by
  show (sL.hasDict (uO v) || PyData.hasDictAll (rx s))=aA;rw[TH v,Ek s];rfl
end
structure rR(R:Φ)(Vz:bE)(H:bg)(Wf:List (aj×List aa))(cM:List (aj×List (List aa×aj))):Prop where
 tup:∀m∈Wf,∃w,(∀b,cZ R b m.1 w)/\∀b,bM b m.2 w
 KR:∀m∈cM,∃w:List (List aa×aj×ae),(∀e:a4,R.In e->e.DictOfH (eh Vz H) m.1 w)/\(w.map λf=>(f.1,f.2.2))=m.2.map λp=>(p.1,ae.ref p.2)
structure ct where
 lP:aj
 kt:List (aj×List aa)
 cM:List (aj×List (List aa×aj))
@[simp] def uw(cM:List (aj×List (List aa×aj)))(h:aj)(q:List aa):Option aj:=(cM.find? λm=>decide (m.1=h)).bind λm=>(m.2.find? λp=>decide (p.1=q)).map (·.2)
@[simp] def jA(Wf:List (aj×List aa))(h:aj)(g:Int):Option aa:=(Wf.find? λm=>decide (m.1=h)).bind λm=>fP m.2 g
@[simp] def d8(Wf:List (aj×List aa))(cM:List (aj×List (List aa×aj))):gS:=λh c=>match h,c with
 |.im (.fn h),.im (.int g)=>(jA Wf h g).map .im
 |.im (.fn h),.im (.tup q)=>if aa.keys 7 q=V then (uw cM h q).map λv=>.im (.fn v) else X
 |h,c=>a7 h c
theorem CE:∀{w:List (List aa×aj×ae)}{VJ:List (List aa×aj)}{q:List aa}{p:List aa×aj},(w.map λf=>(f.1,f.2.2))=(VJ.map λp=>(p.1,ae.ref p.2))->(VJ.find? λp=>decide (p.1=q))=Z p->∃o,jD w q=Z (o,.ref p.2)
 |[],[],q,p,_,F=>by cases F
 |[],z::VJ,q,p,d,F=>by cases d
 |f::w,[],q,p,d,F=>by cases d
 |f::w,z::VJ,q,p,d,F=>by
  rw[b4,b4]at d;injection d with a b;injection a with c g;rw[jl]at F;unfold jD;rw[jl,c];split at F
  ·rename_i e;cases F;rw[e];exact⟨f.2.1,by rw[<-g];rfl⟩
  ·rename_i e;rw[e];exact CE b F
section
variable{a:aL}{Wf:List (aj×List aa)}{cM:List (aj×List (List aa×aj))}
def Q8(g:a.A.units+20<bW)(Vv:rR a.K a.prog a.w Wf cM):hL a (λf z b C=>∃h q c v,f=.ref h/\z=.ref c/\g6 b q c/\uw cM h q=Z v/\C (.ref v) b):=by
 intro WV F G j B b f z u J C y i l ⟨h,q,c,v,n,r,s,hd,p⟩ Vy;subst n r;cases i;cases l;let⟨@m,e,t⟩:=bB.mp hd;let⟨@w,k,Wg⟩:=Vv.KR m (AY e);have bT:=Ic e;have bT:m.1=h:=fE bT;let⟨@x,D,rfl⟩:=b9.mp t;have d:=k j.heap y.hC;rw[bT]at d;let⟨@o,E⟩:=CE Wg D;exact yZ d.typeIs G7.lookup (EZ (nU g) (kT y.a5 s) d E ⟨.ref x.2,b,y.tok _,rfl,p⟩) Vy
def LL(n:a.A.units+20<bW)(Vv:rR a.K a.prog a.w Wf cM):hL a (λf z b C=>∃V2 V8 v,eY b V2 f/\eY b V8 z/\d8 Wf cM V2 V8=Z v/\∀u T Vp,cY b T->cq T v u Vp->Vp.Nodup->(∀h∈Vp,b h=X)->C u T):=by
 refine ((Eu n).or<|FI.or<|Q8 n Vv).imp λf z b C r=>?_;let⟨V2,V8,@v,e,j,d,p⟩:=r;unfold d8 at d;split at d
 ·let⟨@o,k,l⟩:=b9.mp d;cases l;let⟨@m,q,s⟩:=bB.mp k;let⟨@w,VD,Wk⟩:=Vv.tup m (AY q);have bT:=Ic q;have bT:=fE bT;let⟨@u,t,x⟩:=wd (Wk b) s;exact .inr (.inl ⟨m.1,w,_,u,by rw[bT];exact e.i,j.i,VD b,t,b_.i p x⟩)
 ·split at d
  ·rename_i y;let⟨@o,k,l⟩:=b9.mp d;cases l;let⟨c,@w,rfl,B,D⟩:=j.i;exact .inr (.inr ⟨_,_,c,o,e.i,rfl,⟨y,c,w,rfl,B,D⟩,k,b_.i p rfl⟩)
  ·cases d
 ·exact .inl ⟨V2,V8,v,e,j,d,p⟩
end
def ou(a C b c VG d e VW f g VZ h i:aj):ct:=(⟨a,[(C,[.fn b,.fn c]),(VG,[.fn d,.fn e]),(VW,[.fn f,.fn g]),(VZ,[.fn h,.fn i]),(b,[.int (-1),.int 0]),(c,[.int 0,.int 1]),(d,[.int 0,.int 1]),(e,[.int 1,.int 0]),(f,[.int 1,.int 0]),(g,[.int 0,.int<|-1]),(h,[.int 0,.int<|-1]),(i,[.int (-1),.int 0])],
 [(a,[([.int 0,.int 0],C),([.int 0,.int 1],VG),([.int 1,.int 1],VW),([.int 1,.int 0],VZ)])]⟩)
def ho(R:Φ)(h:aj)(g r:Int):Prop:=(∃v D J x j,R.lookup h=Z ⟨.type "tuple",v,.seq #[.int g D,.int r J] x,j⟩)
def oB(R:Φ)(h f z:aj):Prop:=(∃v x j,R.lookup h=Z ⟨.type "tuple",v,.seq #[.ref f,.ref z] x,j⟩)
variable{R:Φ}{Vz:bE}{H:bg}
def ho.tup(e:ho R h g r):∃w,(∀b,cZ R b h w)/\∀b,bM b [.int g,.int r] w:=by
 let⟨v,D,J,x,@j,d⟩:=e;refine⟨[.int g,.int r],λb=>.inr ⟨_,_,x,d,rfl,rfl,by show 2<=sizeLine;decide,.cons ⟨D,rfl⟩<|.cons ⟨J,rfl⟩ .nil⟩,λb=>⟨_,_,rfl,rfl,_,_,rfl,rfl,rfl⟩⟩
def oB.tup{f z:aj}(e:oB R h f z):∃w,(∀b,cZ R b h w)/\∀b,bM b [.fn f,.fn z] w:=by
 let⟨v,x,@j,d⟩:=e;refine⟨[.ref f,.ref z],λb=>.inr ⟨_,_,x,d,rfl,rfl,by show 2<=sizeLine;decide,.cons rfl<|.cons rfl .nil⟩,λb=>⟨_,_,rfl,rfl,_,_,rfl,rfl,rfl⟩⟩
def ho.is(e:ho R h g r){b:a4}(a:R.In b):(eh Vz H).is b [.int g,.int r] h:=by
 let⟨v,D,J,x,@j,d⟩:=e;exact⟨rfl,h,_,_,x,rfl,a _ _ d,rfl,rfl,_,_,rfl,⟨D,rfl⟩,_,_,rfl,⟨J,rfl⟩,rfl⟩
def FG{n o C c d p VG g h q VW i j r VZ k l:aj}{s t A u:Int}{x:Nat}(w:R.lookup n=Z ⟨.type "dict",X,.dict #[⟨s,.ref o,.ref C⟩,⟨t,.ref p,.ref VG⟩,⟨A,.ref q,.ref VW⟩,⟨u,.ref r,.ref VZ⟩] x,#[]⟩)(y:s=dm H (.tup [.int 0,.int 0]))(z:t=dm H (.tup [.int 0,.int 1]))(B:A=dm H (.tup [.int 1,.int 1]))(D:u=dm H (.tup [.int 1,.int 0]))(E:ho R o 0 0)(F:ho R p 0 1)(G:ho R q 1 1)(I:ho R r 1 0)(J:oB R C c d)(L:oB R VG g h)(M:oB R VW i j)(N:oB R VZ k l)(U:ho R c (-1) 0)(O:ho R d 0 1)(P:ho R g 0 1)(Q:ho R h 1 0)(S:ho R i 1 0)(T:ho R j 0 (-1))(al:ho R k 0 (-1))(am:ho R l (-1) 0):
  rR R Vz H (ou n C c d VG g h VW i j VZ k l).kt (ou n C c d VG g h VW i j VZ k l).cM:=by
 constructor
 ·intro m b;simp only[ou,cm,fW,i0]at b;rcases b with e|e|e|e|e|e|e|e|e|e|e|e<;>subst e
  ·exact J.tup
  ·exact L.tup
  ·exact M.tup
  ·exact N.tup
  ·exact U.tup
  ·exact O.tup
  ·exact P.tup
  ·exact Q.tup
  ·exact S.tup
  ·exact T.tup
  ·exact al.tup
  ·exact am.tup
 ·intro m b;simp only[ou,cm,fW,i0]at b;subst b;subst y z B D;refine⟨[([.int 0,.int 0],o,.ref C),([.int 0,.int 1],p,.ref VG),([.int 1,.int 1],q,.ref VW),([.int 1,.int 0],r,.ref VZ)],λe a=>⟨_,_,x,a _ _ w,⟨rfl,rfl,rfl⟩,rfl,rfl,λf v=>?_,?_⟩,rfl⟩
  ·simp only[cm,fW,i0]at v;rcases v with e|e|e|e<;>subst e
   ·exact E.is a
   ·exact F.is a
   ·exact G.is a
   ·exact I.is a
  ·simp
end L2
namespace L2
open Spec PyProof.Rows PySem.W
variable{g:Nat}
def nG(k:aY)(g:Nat)(E:List aa):Bool:=(match k[g]? with
 |some (Z<|.lst z)=>decide (z=E)
 |_=>aA)
def k3(g:Nat)(E:List aa)(VR:eW)(c:bu):List aa->bu
 |[]=>λk=>if nG k g E=V then Z (.aX,k) else X
 |f::s=>λk=>if nG k g E=V then (VR (.im f) k).bind λVu=>(c Vu).bind λp=>match p.1 with
  |.aX=>k3 g E VR c s p.2
  |.b3=>k3 g E VR c s p.2
  |.d0=>Z (.aX,p.2)
  |.ej v=>Z (.ej v,p.2) else X
def uM(g:Nat)(VR:eW)(c:bu):bu:=(λk=>match k[g]? with
 |some (Z<|.lst E)=>k3 g E VR c E k
 |_=>X)
def GX{k:aY}{E:List aa}(e:nG k g E=V):k[g]?=Z (Z<|.lst E):=by
 unfold nG at e;split at e
 ·rename_i z d;rw[d,fE e]
 ·cases e
section
variable{a:aL}
def N_{VV Wn:List Nat}{VR Wo:bl}{WT:List cf}{WE:eW}{V_:bu}{VC:Pos}(bv:q0 (aO a.prog a.w) a.A a.env a.cR)(ca:a.calm=V)(Vl:eL a Wo (ak g))(cd:fO a Wn VR WE)(ce:gk a Wn WT V_)(ch:∀g∈VV,g∈Wn)(Vy:g∈Wn)(ci:∀f,k4 Wo a.env f=pure f:=by intro W;rfl):ec a VV (.For VR Wo WT [] VC) (uM g WE V_):=by
 refine jb (AW bv ca (H_ Vl) cd ce ci) λVo B b cl=>?_;let⟨k,N,F,@VY,Y,aq,J,p⟩:=cl;unfold uM at J;split at J
 ·rename_i E as;refine⟨k,N,.bo g,k,Y,aq,by unfold ak;rw[as],λu Vt U Vp a1 VG a2=>?_⟩;let@⟨VG,rfl⟩:=VG;rw[bQ]at a2;have P:∀{T:aD}{c:aY}{j:a6}{V0:List aj},bC T c j V0->j[g]?=Z (Z u)->c[g]?=Z (Z<|.lst E)->∃h w,u=.ref h/\T h=Z (.lst w)/\bM T E w:=λz co cr=>by
   let⟨f4,f8,@ga,bd,cs,W⟩:=z.out cr;rw[co]at bd;cases bd;let⟨h,@w,d,t,A,W⟩:=cs;exact⟨h,w,d,t,A⟩
  let⟨h,@w,rfl,t,A⟩:=P a1 VG as;refine⟨h,rfl,.inl ⟨⟨w,dw.of t⟩,?_⟩⟩;have Q:∀{C:a6},c4 Wn B C->c4 VV B C:=λF=>⟨F.1,λg Vl=>F.2 g<|ch g Vl⟩;refine⟨λr l j T=>l+r=E.length/\∃c V0,c4 Wn B j/\bC T c j V0/\bb b N T V0/\k3 g E WE V_ (E.drop r) c=Z (F,VY),⟨E.length,rfl,k,U,c4.refl,a1,a2,J⟩,?_⟩;rintro r l j T ⟨ge,c,V0,m,z,Vm,i⟩;by_cases be:r<E.length
  ·rw[i6 be,k3]at i;dsimp only at i;split at i
   ·rename_i S;let⟨db,@ds,d,al,am⟩:=P z ((m.2 g Vy).trans VG) (GX S);cases d;let@⟨dL,eq⟩:=(xf (R:=a.K) al am).go T (eA.of (λ_ W d=>d)<|λ_ W W d=>d) (λ_ W W d=>d) r E[r] (by simp[be]);let⟨@y,cp,cv⟩:=bB.mp i;let⟨@⟨bi,an⟩,de,L⟩:=bB.mp cv;refine .inr ⟨dL,λC VF=>(l-1)+(r+1)=E.length/\∃c V0,c4 Wn B C/\bC VF c C V0/\bb b N VF V0/\k3 g E WE V_ (E.drop<|r+1) c=Z (F,VY),λC VF e=>⟨l-1,⋯,e⟩,λf VF ev=>?_⟩;let@⟨ap,ex⟩:=eq f VF ev;have fd:=z.mono ap.tupS λh W n d=>ap h n d;have bm:=Vm.same ap;refine⟨c,V0,.im E[r],[],y,fd,⟨ex,rfl⟩,by rw[bQ];exact bm.aq,cp,λgl fn bn M fr bs=>?_⟩;have D:bb b N fn bn:=bm.seq (by rw[bQ]at bs;exact bs);refine⟨y,bn,bi,an,fr,D.aq,de,?_⟩;cases bi with
    |aX=>exact λG I o q s x=>⟨⋯,an,o,(m.trans M).trans q,s,D.seq x,L⟩
    |b3=>exact λG I o q s x=>⟨⋯,an,o,(m.trans M).trans q,s,D.seq x,L⟩
    |d0=>
     cases L;exact λG I o q s x=>p G I o (Q<|(m.trans M).trans q) s (D.seq x)
    |ej v=>
     cases L;exact λu G I o f0 q s f1 x=>p u G I o f0 (Q<|(m.trans M).trans q) s f1 (D.seq x)
   ·cases i
  ·have f2:r=E.length:=⋯
   subst f2;rw[nP (bD _),k3]at i;dsimp only at i;split at i
   ·rename_i S;cases i;let⟨db,@ds,d,al,am⟩:=P z ((m.2 g Vy).trans VG) (GX S);cases d;exact .inl ⟨(xf (R:=a.K) al am).stop T (eA.of (λ_ W d=>d)<|λ_ W W d=>d)<|λ_ W W d=>d,p j T V0 (Q m) z Vm⟩
   ·cases i
 ·cases J
end
def GW:ai->ai
 |.im (.aW f)=>.dF f
 |v=>v
@[simp] theorem U3(f:List aa):GW (.im<|.aW f)=.dF f:=rfl
@[simp] theorem Vc(f:List aa):GW (.im<|.tup f)=.im (.tup f):=rfl
end L2
namespace L2
open Spec PyProof.Rows
end L2
namespace L2
open Spec PyProof.Rows PySem.W
end L2
namespace L2
open Spec PySem.Calls PyProof.Rows
def R5{Vs:bE}{H:bg}(v:aj)(hd:(v==iX)=aA)(n:ba)(S:Array qV)(VU:Nat)(a:n.data=.dict S VU):
  MeetsIn Vs H (bH.«dict.__len__» ⟨[.ref v],[]⟩) (λ_ Vp j=>j.heap.get? v=Z n/\Vp (.ok<|.ret<|.int S.size j.toks) {j with toks:=j.toks+1}):=
 .of_wp λO Vp j ⟨b,e⟩=>by
  show wpAny _ _ (dictSize v >>= _) _ _ j;unfold dictSize;refine aB (aB<|qv b a<|aR ?_);show wpAny _ _ (bH.Dict.pendingCount v >>= _) _ _ j;refine aB (wpAny_pendingCount_other hd ?_);refine Cv ?_;rw[xI];exact e
section
variable{a:aL}
def Oo:eD a (.builtin "len") (λw b C=>∃h Vx,w=[au.ref h]/\jw b h (.aw Vx)/\C (.int Vx.length) b):=by
 intro G j B b w VH C y s e;let⟨h,Vx,rfl,f,p⟩:=e;let⟨J,rfl,g⟩:=h2 s;cases g;let⟨i,hd,w,k,n,S,VU,t,A,m,o,W⟩:=pk y.a5 f;have c:j.TypeIs (.ref h) "dict" := ⟨n,t,A.1⟩;have d:S.size=Vx.length:=by
  have q:S.toList.length=w.length:=by rw[o,a8]
  have r:=dE.length k;rw[df]at q;lia
 have u:(S.size:Int)<2^63:=by rw[d];rw[rX]at i;lia
 refine ui kind_len plain_len entry_len (args_len1 _) ?_;unfold bH.«len»;refine aB (m:=oneArg "len" _) (aR ?_);refine aB (m:=callSpecial? (.ref h) (az.ofString "__len__")) (qA (name:=az.ofString "__len__") c Dk
  (call_meetsIn Dk c F.entry_dict_len (F.args_dict_len_1 _) (R5 h hd n S VU m) ⟨t,?_⟩));show wpAny _ _ _ _ _ {j with toks:=j.toks+1};refine aB (f9<|aR ?_);refine aB (pb ?_);show wpAny _ _ (if ((S.size:Nat):Int)<0 then _ else _) _ _ _;rw[aJ (by omega)];show wpAny _ _ (if ((S.size:Nat):Int) >= 2^63 then _ else _) _ _ _;rw[aJ (by omega)];refine aB (wpAny_mkInt (aR ⟨_,rfl,.int Vx.length,b,y.tok _,⟨_,by rw[d]⟩,p⟩))
@[simp] def p_:ic:=λE=>match E with
 |[.aw f]=>Z (.im<|.int f.length)
 |[.fu f]=>Z (.im<|.int f.length)
 |_=>X
def M5:gV a (.builtin "len") p_:=by
 refine Oo.imp λw b C ⟨E,v,c,d,p⟩=>?_;unfold p_ at d;split at d
 ·cases d;let⟨u,rfl,W,m,M,rfl,t,A,W⟩:=gb c;exact⟨m,M,rfl,.inl t,by rw[<-A.length];exact b_.i p rfl⟩
 ·cases d;let⟨u,rfl,W,m,M,n,rfl,t,A,W⟩:=gb c;exact⟨m,M,rfl,.inr ⟨n,t⟩,by rw[<-A.length];exact b_.i p rfl⟩
 ·cases d
end
end L2
namespace L2
open Spec PyProof.Rows
section
open PySem.SeqAt
open PySem.AutoSeq1 (wpAny_loadPart')
open PySem.MeetsSeq PySem.MeetsSeq2 PySem.MeetsSeq3
end
end L2
namespace L2
end L2
namespace L2
open Spec PyProof.Rows
variable{e:hI}{Vw:List az}{q:Nat}{j:ao}{B:a6}{L:ay bN}{Wn:List Nat}{n VR:bl}{M:List (List aa×au)}{aQ:ba}{h:aj}{b:aD}
def yf(h:aj)(aQ:ba)(Vx:List (List aa×au)):fs:=(
 ⟨λg b=>b h=Z (.cV aQ<|.aw Vx)/\g<Vx.length,
  λg b u T=>T=b/\∃c m,u=.ref c/\Vx[g]?=Z m/\g6 b m.1 c,
  λg b=>b h=Z (.cV aQ<|.aw Vx)/\Vx.length<=g⟩)
theorem IF{Vz:bE}{H:bg}{R:Φ}(h Vr:aj)(aQ:ba)(Vx:List (List aa×au))(E:Array qV)(VU:Nat)(z:aQ.data=.dict E VU):
  se Vz H R VR (yf h aQ Vx) [Vr] Vr (λg e=>e.IsKeyIter Vr h g Vx.length VU) where
 mem:=by simp
 obj:=λg e Y o A=>by
  cases cb.mp A;let⟨@n,d,o,v⟩:=Y;exact⟨n,d,λu i=>by rw[v]at i;cases i⟩
 keep:=λg e Vk Y q=>let ⟨n,d,s⟩:=Y;⟨n,q Vr ↥0 n d,s⟩
 item:=by
  intro a F I J A g G j B b Vo y D Y L;subst F I J;let@⟨M,Vl⟩:=L;let@⟨k,i,hd,⟨@w,rel,⟨VW,a2,@bd,l,N,r,P,be⟩⟩⟩:=(show j.heap.get? h=Z aQ/\eb a.prog a.w b j.heap h (.aw Vx) from y.a5 h _ M);rw[k]at l;cases l;rw[z]at r;cases r;let@⟨S,T,bi,U,al,am⟩:=D Vr ↥0;have an:=dE.length rel;have ap:E.toList.map (·.key)=w.map λf=>ae.ref f.2.1:=by rw[P,fl];rfl
  have as:hH j.heap h (w.map λf=>ae.ref f.2.1) VU:=⟨_,_,k,N,z,ap⟩;let⟨m,@p,bm,Wj,ca,bn,cd⟩:=w5 rel g Vl;have t:(w.map λf=>ae.ref f.2.1).length=Vx.length:=by rw[a8,an]
  refine D8 (by rw[t];exact Y) as (u:=.ref p.2.1) (by rw[d3,Wj];rfl) λVk a1 cP=>?_;have bs:aI a G B b {j with heap:=Vk}:=y.turned (V1:=j.toks) (λc n x d=>cP.extBut c n x d) S T U al am;rw[t]at a1;let⟨@n,d,o,v⟩:=id a1;exact⟨_,rfl,u4 (j:={j with heap:=Vk}) d o v ∅ ⟨.ref p.2.1,b,bs,rfl,⟨rfl,_,m,rfl,bm,bn⟩,a1,λc x=>(D c x).1⟩⟩
 done:=by
  intro a F I J A g G j B b Vo y D Y L;subst F I J;let@⟨M,Vl⟩:=L;let@⟨k,i,hd,⟨@w,rel,⟨VW,a2,@bd,l,N,r,P,be⟩⟩⟩:=(show j.heap.get? h=Z aQ/\eb a.prog a.w b j.heap h (.aw Vx) from y.a5 h _ M);rw[k]at l;cases l;rw[z]at r;cases r;let@⟨S,T,bi,U,al,am⟩:=D Vr ↥0;have an:=dE.length rel;have ap:E.toList.map (·.key)=w.map λf=>ae.ref f.2.1:=by rw[P,fl];rfl
  have as:hH j.heap h (w.map λf=>ae.ref f.2.1) VU:=⟨_,_,k,N,z,ap⟩;have t:(w.map λf=>ae.ref f.2.1).length=Vx.length:=by rw[a8,an]
  exact EG (y.ok.hd A) (by rw[t];exact Y) as (by rw[t];exact Vl) λVk bv=>⟨rfl,y.turned (V1:=j.toks) (λc n x d=>bv c n x d) S T U al am⟩
 self:=λO g j C Vo Y e=>FK Y e
section
variable{a:aL}
theorem Of{Vx:List (List aa×aa)}(e:b h=Z (.cV aQ<|.aw M))(hd:ed b Vx M):m7 (yf h aQ M) b [] (Vx.map λk=>.tup k.1) where
 go:=λT D q g v d=>by
  rw[d3]at d;let⟨@⟨u,w⟩,a,rfl⟩:=b9.mp d;have Vl:g<Vx.length:=(eX.mp a).1;have l:g<M.length:=by rw[<-hd.length];exact Vl
  refine⟨⟨D.cV _ _ _ e,l⟩,λi x ⟨n,c,m,o,r,s⟩=>?_⟩;subst o n;let⟨y,@p,f,j,t,z⟩:=w5 hd g Vl;rw[a]at f;cases f;rw[r]at j;cases j;cases t;exact⟨cY.refl _,s.2⟩
 stop:=λT D q=>⟨D.cV _ _ _ e,by rw[a8,hd.length];exact bD _⟩
def Sx(k:b5):jo:=(λB b Vp=>k B b λf Vt=>∃h aQ Vx,f=.ref h/\Vt h=Z (.cV aQ<|.aw Vx)/\Vp (yf h aQ Vx) Vt)
def Iw{k:b5}(t:bG a n k):kF a VR n (Sx k):=by
 intro G j B b Vp y e;refine b0 (t G j B b _ y e) λJ g u=>?_;let⟨f,@Vt,l,v,⟨h,aQ,@Vx,Wg,x,p⟩⟩:=u;subst Wg;obtain rfl:J=ae.ref h:=v;let@⟨m,i,hd,⟨@w,rel,⟨VW,q,@VU,r,z,s,A,L⟩⟩⟩:=(show g.heap.get? h=Z aQ/\eb a.prog a.w Vt g.heap h (.aw Vx) from l.a5 h _ x);rw[m]at r;cases r;have C:=dE.length rel;have D:q.toList.map (·.key)=w.map λf=>ae.ref f.2.1:=by rw[A,fl];rfl
 have E:(w.map λf=>ae.ref f.2.1).length=Vx.length:=by rw[a8,C]
 have F:hH g.heap h (w.map λf=>ae.ref f.2.1) VU:=⟨_,_,m,z,s,D⟩;refine B_ hd F ?_;rw[E];refine⟨_,_,_,_,_,rfl,l.kept (V1:=g.toks)<|λc n d=>cG _ d,IF h _ aQ Vx q VU s,⟨_,dM _ rfl,rfl,rfl⟩,λo I=>?_,p⟩;cases cb.mp I;exact l.vZ (bD _) (l.a5.fresh<|bD _)
@[simp] def nr(L:ay bN):hI:=λk=>(L k).bind λm=>match dG m.2 m.1 with
 |some (.fu Vx)=>Z ((Vx.map λa=>.tup a.1,X),m.2)
 |_=>X
def UA:∀k s VL,nr L k=Z (s,VL)->jB Wn s.2:=by
 intro k s VL e;let⟨@⟨VI,Vu⟩,t,A⟩:=bB.mp e;dsimp only at A;split at A
 ·cases A;trivial
 ·cases A
def KD(e:eL a n L):hb a VR n (nr L):=by
 refine Av (Iw e) λB b r i=>?_;let⟨k,N,s,@VL,Y,aq,j,p⟩:=i;let⟨@⟨f,Vu⟩,t,A⟩:=bB.mp j;refine⟨k,N,f,Vu,Y,aq,t,λu Vt U Vp d VG l=>?_⟩;dsimp only at A;split at A
 ·rename_i Vx m;cases A;let⟨W,h,M,@aQ,rfl,g,o,W⟩:=VG.read d m;exact⟨h,aQ,M,rfl,g,p _ _ U [] d (Of g o) trivial (λc q=>nomatch q) (l.less (ab:=Vp) (by rw[bQ]))⟩
 ·cases A
end
section
variable{a:aL}{G:List (aj×ba)}
def aI.Rf{WW:a6}{Vt:aD}{q:ao}(r:aI a G WW Vt q)(t:Vt h=Z (.aw M))(y:aI a G B b j)(e:b h=Z (.cV aQ<|.aw M)):aI a G B (upd b h<|.aw M) j:=by
 have ne:∀{c:aj}{n:Option eV},b c=n->(∀m J,n≠Z (.cV m J))->c≠h:=λd x i=>by
  rw[i,e]at d;exact x _ _ d.symm
 have g:∀c w,b c=Z (.tup w)->upd b h (.aw M) c=Z (.tup w):=λc w d=>by
  rw[cz (ne d λ_ W i=>by cases i)];exact d
 refine⟨y.ok,y.os,y.bare,⟨y.base.keep,y.base.slot,λc n d x f=>?_,y.base.jd,y.base.there,λc w d=>g c w<|y.base.i4 c w d,λc n J d=>?_,λc Vw d=>?_⟩,y.loc,y.cell,?_,λf o d=>?_,λm s=>?_,λc n d=>?_,y.len⟩
 ·have i:=y.base.free c n d x f;rw[cz (ne i λ_ W p=>by cases p)];exact i
 ·have k:=r.base.iT c n J d;have i:=y.base.iT c n J d;rw[cz λp=>by rw[p,t]at k;cases k];exact i
 ·let⟨@u,i⟩:=y.base.kS c Vw d;refine⟨u,?_⟩;rw[cz (ne i λ_ W p=>by cases p)];exact i
 ·have i:=y.free;rw[cz (ne i λ_ W p=>by cases p)];exact i
 ·have i:=y.iH f o d;rw[cz (ne i λ_ W p=>by cases p)];exact i
 ·let@⟨v,Wj,z⟩:=y.pin m s;exact⟨v,by rw[cz (ne Wj λ_ W p=>by cases p)];exact Wj,z⟩
 ·by_cases l:c=h
  ·subst l;rw[d_]at d;cases d;let@⟨_,f⟩:=(show eb a.prog a.w b j.heap c (.cV aQ<|.aw M) from y.a5 c _ e);exact f.js (λ_ W W p=>p) (λo p=>by rw[cz (ne p λ_ W i=>by cases i)];exact p) g
  ·rw[cz l]at d;exact (y.a5 c n d).js (λ_ W W p=>p) (λo p=>by rw[cz (ne p λ_ W i=>by cases i)];exact p) g
def aI.Qt(y:aI a G B b j)(e:b h=Z (.aw M)):∃aQ,aI a G B (upd b h<|.cV aQ<|.aw M) j:=by
 let@⟨i,hd,⟨@w,g,⟨aQ,k,@VU,f,l,m,n,o⟩⟩⟩:=(show eb a.prog a.w b j.heap h (.aw M) from y.a5 h _ e);refine⟨aQ,y.write (Vk:=j.heap) (V1:=j.toks) (d:=h) (by rw[e];trivial) (.inl rfl) (λc J W d=>d) ⟨_,f⟩ ⟨f,i,hd,w,e9.keeps g λc VJ d=>?_,aQ,k,VU,f,l,m,n,o⟩⟩;have:c≠h:=λi=>by subst i;rw[e]at d;cases d
 rw[cz this];exact d
def Nf{k:jL}{F:aj}{fd:gM}{Wz:j0}{Vo:fv}{f:az}{m VC:Pos}{d:bl}{S:List bl}{D:fh}(N:fT a.prog a.w a.K a.aU a.base k q F fd Vw Wz)(g:dt q a.A)(i:eu a f)(l:a.aU f=Z (.ref F))(n:Θ a.K (.ref F)=V)(o:f6 a.K fd Vw [])(r:ny k a Vo)(v:hg a (d::S) D)(x:(f==("__debug__" : az))=aA:=by decide)(z:bP (d::S) a.env=(aA,bJ d a.env)::bP S a.env:=by rfl)(E:(d9 VC<|bP S a.env).any (·.1)=aA:=by rfl):
  bG a (.Call (.Name f m) (d::S) [] VC) λB b C=>D B b λVj Vt=>∃h M,Vt h=Z (.aw M)/\∀aQ,Wz Vj (upd Vt h<|.cV aQ<|.aw M) (λu VF=>VF h=Z (.cV aQ<|.aw M)/\C u (upd VF h<|.aw M)) Vo:=by
 intro G j B b C y e;refine qo (uz y i l ?_ x);refine vJ (h₀:=a.base) y.ok.mod.qF n (b0 (v VC G j B b _ y e) λVH am ⟨Vj,Vt,c,s,h,M,t,p⟩=>⟨c.hC,?_⟩) z E;let⟨@aQ,I⟩:=c.Qt t;have p:=p aQ;rw[<-bQ Vj]at p;refine b0 (tI N g o .nil r I s p) λu an L=>?_;let⟨J,@ap,P,Q,T,U⟩:=L;exact⟨J,_,c.Rf t P T,Q,U⟩
end
section
variable{a:aL}
@[simp] def qR(Q:cj)(L:ay bN)(ab:aj)(g r:Nat)(F:az):ay ai:=λk=>(L k).bind λm=>(dG m.2 m.1).bind λV2=>match V2,lr ab g r F m.2 with
 |.im V2,Z (.aw Vx)=>match Q [.im V2,.fu Vx] with
   |some (.lst I,[_,_])=>if aa.keys 7 I=V then Z (.lst I,m.2) else X
   |_=>X
 |_,_=>X
def RI{l:Nat}{Q:cj}{be ab:aj}{Y:cf}{g:Nat}(r:Nat){f F:az}{m VC WN:Pos}{d n:bl}{L:ay bN}(bi:jW a.prog a.w a.K a.aU a.base q f Y be Vw 2 Q)(bm:dt l a.A)(bn:eu a f)(bs:eL a d L)(o:fF a.K ab)(x:gz a.K ab F)(bv:bG a n (fA g))(e:hG n F a.env (bJ n a.env)=bJ n a.env:=by rfl)(ca:q<=l:=by decide)(cd:(f==("__debug__" : az))=aA:=by decide)(al:bP [d,.Attribute n F WN] a.env=(aA,bJ d a.env)::bP [.Attribute n F WN] a.env:=by rfl)(ce:bP [.Attribute n F WN] a.env=(aA,bJ (.Attribute n F WN) a.env)::bP [] a.env:=by rfl)(ch:(d9 VC<|bP [.Attribute n F WN] a.env).any (·.1)=aA:=by rfl):bh a (.Call (.Name f m) [d,.Attribute n F WN] [] VC) (qR Q L ab g r F):=by
 let⟨@W,ci,c,WR,N⟩:=bi;refine d6 (Nf N (bm.mono ca) bn WR ci.cI c qK (lQ bs (lQ (lg bv e) o8 ce) al) cd al ch) λB b C cl=>?_;let⟨k,N,s,@VL,Y,aq,co,p⟩:=cl;let⟨@⟨cr,Vu⟩,t,A⟩:=bB.mp co;let⟨@V2,cs,v⟩:=bB.mp A;dsimp only at v;split at v
 ·rename_i V2 Vx db;split at v
  ·rename_i I VG VW ds;split at v
   ·rename_i dL;cases v;refine⟨k,N,cr,_,Y,aq,t,λeq Vt U go G cp S=>?_⟩;let@⟨gi,rfl⟩:=B6 G cp cs;rw[bQ]at S;let⟨P,@E,ev,ex,hd⟩:=tL db;let⟨h,V6,M,u,@Vp,fd,fn,fr,f0,gt,f1,W⟩:=lL G S.aq ev ex hd;let⟨j,@WQ,rfl,D,f2,rfl⟩:=f0;have f4:j∈U:=f1 j (.head _);refine⟨_,fd,h,ab,V6,M,_,rfl,fn,o,x,fr,j,WQ,D,λaQ=>?_⟩;have am:eA Vt (upd Vt j<|.cV aQ<|.aw WQ):=eA.of (λc w d=>by
     rw[cz λi=>by subst i;rw[D]at d;cases d];exact d) λc n J d=>by
     rw[cz λi=>by subst i;rw[D]at d;cases d];exact d
    refine⟨rfl,[.im V2,.fu Vx],[],.lst I,[VG,VW],⟨eq,[.ref j],[],[],rfl,⟨gi.mono am.tup,rfl⟩,⟨.ref j,[],[],[],rfl,⟨j,WQ,aQ,rfl,d_,f2.mono am.tup,rfl⟩,⟨rfl,rfl⟩,rfl⟩,rfl⟩,hn,ds,λJ VF Vp y cv de T=>?_⟩;have an:VF j=Z (.cV aQ<|.aw WQ):=T.tup.cV j aQ _ d_;refine⟨an,?_⟩;have ne:∀{c:aj}{n:eV},VF c=Z n->(∀m J,n≠.cV m J)->c≠j:=λd x i=>by
     rw[i,an]at d;exact x _ _ (Option.some.inj d).symm
    have f8:qp VF (upd VF j<|.aw WQ):=λc w d=>by
     rw[cz (ne d λ_ W i=>by cases i)];exact d
    let⟨z,@w,rfl,ap,ga,rfl⟩:=cv;have as:=ne ap λ_ W i=>by cases i
    have cI:∀c n,c≠j->Vt c=Z n->upd VF j (.aw WQ) c=Z n:=λc n e d=>by
     rw[cz e];exact T.keep c n (by rw[cz e];exact d) fW
    have a1:eA Vt (upd VF j<|.aw WQ):=eA.of (λc w d=>cI c _ (λi=>by subst i;rw[D]at d;cases d) d) λc n J d=>cI c _ (λi=>by subst i;rw[D]at d;cases d) d;have same:∀c n,Vt c=Z n->∃V4,upd VF j (.aw WQ) c=Z V4:=λc n d=>by
     by_cases e:c=j
     ·exact⟨_,by rw[e];exact d_⟩
     ·exact⟨n,cI c n e d⟩
    have ge:∀c∈U,∀n,Vt c=Z n->upd VF j (.aw WQ) c=Z n:=λc W n d=>by
     by_cases e:c=j
     ·subst e;rw[D]at d;rw[d_];exact d
     ·exact cI c n e d
    have a2:Vt z=X:=by
     rcases T.sub z (.head _) with i|i
     ·cases i
     ·rwa [cz as]at i
    refine p _ _ U [z] (G.mono a1 ge) ⟨z,w,rfl,by rw[cz as];exact ap,bM.qe f8 dL ga,rfl⟩ (S.seq ⟨λc n d e=>cI c n (λi=>e<|i ▸ f4) d,λc e=>?_,?_,a1,same⟩)
    ·rcases du.mp e with e|e
     ·exact .inl e
     ·rw[cb.mp e];exact .inr a2
    ·refine cO.mpr ⟨S.aq,eB _ _,λc e o gl d=>?_⟩;rw[cb.mp gl]at d;let⟨@n,bd,W⟩:=G.chg c e;rw[d,a2]at bd;cases bd
   ·cases v
  ·cases v
 ·cases v
def i7(L e:hI):hI:=(λk=>match L k with
 |some s=>Z s
 |none=>e k)
def ME{Vr:bl}{L:hI}(h:hb a VR Vr L)(c:hb a VR Vr e):hb a VR Vr (i7 L e):=λG j B b Vp y H=>by
 let⟨k,N,s,@VL,Y,aq,d,p⟩:=H;unfold i7 at d;cases f:L k with
 |some Wh=>
  rw[f]at d;cases d;exact h j B b Vp y ⟨k,N,s,VL,Y,aq,f,p⟩
 |none=>
  rw[f]at d;exact c j B b Vp y ⟨k,N,s,VL,Y,aq,d,p⟩
def I6{L:hI}(h:∀k s VL,L k=Z (s,VL)->jB Wn s.2)(c:∀k s VL,e k=Z (s,VL)->jB Wn s.2):∀k s VL,i7 L e k=Z (s,VL)->jB Wn s.2:=by
 intro k s VL d;unfold i7 at d;cases a:L k with
 |some Wh=>
  rw[a]at d;cases d;exact h k _ _ a
 |none=>
  rw[a]at d;exact c k _ _ d
end
end L2
namespace L2
variable{h e L c:bu}{d:ay ai}{own l x:Nat}{E:List ai}{VV:List Nat}{n:Option (Nat×ai)}{w:List aa}{v:ai}{Vu k:aY}{o:ay Bool}{VR:eW}{VM:Type}{r g:Int}
@[simp] theorem UU(v:aa)(k:aY):aG v k=Z (.im v,k):=rfl
@[simp] theorem tD(k:aY):aH k=Z ([],k):=rfl
@[simp] theorem U6(k:aY):fH k=Z (.aX,k):=rfl
@[simp] theorem Vb(k:aY):mZ k=Z (X,k):=rfl
@[simp] theorem U9(k:aY):g5 k=Z (V,k):=rfl
@[simp] theorem UX(v:aa):(ai.im v).el=V:=rfl
@[simp] theorem UY(v:List aa):(ai.dF v).el=V:=rfl
@[simp] theorem U8(v:List aa):(ai.lst v).el=aA:=rfl
@[simp] theorem Ve(v:List (List aa×aa)):(ai.aw v).el=aA:=rfl
@[simp] theorem UW(v:List (et×aa)):(ai.dJ v).el=aA:=rfl
@[simp] theorem Ct(k:aY)(v:ai):dG k (.cu v)=Z v:=rfl
@[simp] theorem CD(k:aY)(g:Nat):dG k (.bo g)=(k[g]?).getD X:=rfl
@[simp] theorem vn(k:aY):h5 k []=Z []:=rfl
@[simp] theorem vW(k:aY)(n:bN)(VI:List bN):h5 k (n::VI)=(dG k n).bind λv=>(h5 k VI).map λE=>v::E:=rfl
@[simp] theorem Va(k:aY):ei [] k=Z ([],k):=rfl
@[simp] theorem UT(v:ai)(VI:List bN)(k:aY):ei (.cu v::VI) k=(ei VI k).map λm=>(v::m.1,m.2):=rfl
@[simp] theorem UZ(g:Nat)(VI:List bN)(k:aY):ei (.bo g::VI) k=(dB g k).bind λm=>(ei VI m.2).map λp=>(m.1::p.1,p.2):=rfl
@[simp] theorem US:gA []=Z []:=rfl
@[simp] theorem U0(v:aa)(E:List ai):gA (.im v::E)=(gA E).map λs=>v::s:=rfl
@[simp] theorem U4(c:Bool):kW (.im<|.av c)=Z c:=rfl
def lu(t : -(2^64)<r)(A:r<2^64):iz g r=V:=by
 have:bH.Int.intBits r<=64:=Hf t A;have Vk:¬ (bH.Int.intBits r>u3):=qm.mpr this;unfold iz;rw[dU Vk];simp
def Tv(t : -(2^64)<g)(A:g<2^64):iz g r=V:=by
 have:bH.Int.intBits g<=64:=Hf t A;have Vk:¬ (bH.Int.intBits g>u3):=qm.mpr this;unfold iz;rw[dU Vk];simp
def Fh{w:List VM}{v:VM}(a:0<=g)(e:w[g.toNat]?=Z v):fP w g=Z v:=by
 unfold fP mK;have Vl:g.toNat<w.length:=(eX.mp e).1;rw[aF a,aF ⋯];exact e
def Oa(y:Nat->aY->Prop)(Vp:ai->aY->Prop):∀{w:List aa}{k:aY},y 0 k->
  (∀(g:Nat) (f:aa) (k:aY),w[g]?=Z f->y g k->∃Vu aW VY,VR (.im f) k=Z Vu/\c Vu=Z (aW,VY)/\(((aW=.aX\/aW=.b3)/\y (g+1) VY)\/∃v,aW=.ej v/\Vp v VY))->
  (∃VL,dr VR c w k=Z (.aX,VL)/\y w.length VL)\/∃v VL,dr VR c w k=Z (.ej v,VL)/\Vp v VL:=by
 intro w;induction w generalizing y with
 |nil=>intro k a W;exact .inl ⟨k,rfl,a⟩
 |cons f s b=>
  intro k a e;let⟨Vu,aW,@VY,t,A,h⟩:=e 0 f k rfl a;rcases h with ⟨i,fe⟩|⟨v,rfl,j⟩
  ·have:=b (λg=>y<|g+1) (k:=VY) fe λg z VL l m=>e (g+1) z VL ⇑l m;have d:dr VR c (f::s) k=dr VR c s VY:=by
    rw[dr];dsimp only;rw[t];show (c Vu).bind _=_;rw[A];rcases i with rfl|rfl<;>rfl
   rw[d];exact this
  ·refine .inr ⟨v,VY,?_,j⟩;rw[dr];dsimp only;rw[t];show (c Vu).bind _=_;rw[A];rfl
def ts(y:Nat->aY->Prop){w:List aa}{k:aY}(a:y 0 k)(e:∀(g:Nat) (f:aa) (k:aY),w[g]?=Z f->y g k->∃Vu aW VY,VR (.im f) k=Z Vu/\c Vu=Z (aW,VY)/\(aW=.aX\/aW=.b3)/\y (g+1) VY):
  ∃VL,dr VR c w k=Z (.aX,VL)/\y w.length VL:=by
 rcases Oa y (λ_ W=>False) a (λg f k b fe=>by
  let⟨Vu,aW,@VY,t,A,d,h⟩:=e g f k b fe;exact⟨Vu,aW,VY,t,A,.inl ⟨d,h⟩⟩) with e|⟨_,_,_,e⟩
 ·exact e
 ·exact e.elim
def Tb(y:Nat->aY->Prop)(b:aY->Prop)(step:∀l k,y l k->∃D Vu,o k=Z (D,Vu)/\(D=V->∃aW VY,c Vu=Z (aW,VY)/\(aW=.aX\/aW=.b3)/\∃a,a<l/\y a VY)/\(D=aA->b Vu)):
  ∀(x l:Nat) (k:aY),y l k->l<x->∃VL,kG o c x k=Z (.aX,VL)/\b VL:=by
 intro x;induction x with
 |zero=>intro l k W e;lia
 |succ x d=>
  intro l k fe m;let⟨D,@Vu,t,A,f⟩:=step l k fe;rw[kG];dsimp only;rw[t];cases D with
  |false=>exact⟨Vu,rfl,f rfl⟩
  |true=>
   let⟨aW,@VY,g,hf,⟨@a,n,h⟩⟩:=A rfl;let⟨@VL,i,j⟩:=d a VY h ⋯;refine⟨VL,?_,j⟩;simp only[gH,iQ,g];rcases hf with rfl|rfl<;>exact i
def IG(w:List VM):w.filter (λ_=>V)=w:=List.filter_eq_self.mpr λ_ W=>rfl
def ee(d:L k=Z (.aX,Vu)):bf L e k=e Vu:=by unfold bf;rw[d];rfl
def vY(d:L k=Z (.ej v,Vu)):bf L e k=Z (.ej v,Vu):=by unfold bf;rw[d];rfl
def oy{L:hI}{VY:aY}{aW:kH}(d:L k=Z ((w,n),Vu))(e:dr VR c w Vu=Z (aW,VY)):dT L VR c k=Z (aW,la n VY):=by
 unfold dT;rw[d];show (dr VR c w Vu).map _=_;rw[e];rfl
def PQ{s:ai}(a:E.length=x)(d:L (E.map Z++List.replicate (l-x) X)=Z (.ej s,k)):cJ x l VV L E=Z (s,iW VV E k 0):=by
 unfold cJ;rw[aF a,d]
def r_{V3:List Nat}{D:hI}{a:aY}{E:List aa}(t:D k=Z ((w,n),Vu))(A:hB own VR o d w [] (jM V3 Vu)=Z (E,a)):dv own V3 D VR o d k=Z (.lst E,la n<|iD V3 a Vu):=by
 unfold dv;rw[t];show (hB own VR o d w []<|jM V3 Vu).map _=_;rw[A];rfl
def dx{L:ay ai}(d:L k=Z (v,Vu)):cw L k=Z (.ej v,Vu):=by unfold cw;rw[d];rfl
def E3{g:Nat}{L:ay ai}(d:L k=Z (v,Vu))(e:g<Vu.length):bZ g L k=Z (.aX,Vu.set g<|Z v):=by unfold bZ;rw[d];show (if g<Vu.length then _ else _)=_;rw[aF e]
def uJ(d:o k=Z (V,Vu)):eg o h c k=h Vu:=by unfold eg;rw[d];rfl
def vw(d:o k=Z (aA,Vu)):eg o h c k=c Vu:=by unfold eg;rw[d];rfl
def nv(k:aY){s:ai}{outs:List ai}(a:E.length=x)(d:L (E.map Z++List.replicate (l-x) X)=Z (.ej s,k))(b:iW VV E k 0=outs):cJ x l VV L E=Z (s,outs):=by
 rw[PQ a d,b]
theorem kr{VM:Type}{own:Nat}{VR:eW}{o:ay Bool}{d:ay ai}{ab:aY}(b:VM->aa)(m:VM->Bool)(F:VM->aa):∀(w:List VM) (a:List aa),(∀f∈w,∃Vu VY,VR (.im<|b f) (List.replicate own X++ab)=Z Vu/\o Vu=Z (m f,VY)/\(m f=aA->VY.drop own=ab)/\(m f=V->∃y,d VY=Z (.im<|F f,y)/\y.drop own=ab))->
  a.length+w.length<=100000->hB own VR o d (w.map b) a ab=Z (a++(w.filter m).map F,ab)
 |[],a,_,_=>by simp[hB]
 |f::s,a,e,h=>by
  let⟨Vu,@VY,t,A,i,j⟩:=e f (.head _);rw[dn]at h;rw[b4,hB,t];show (o Vu).bind _=_;rw[A];show (if m f=V then _ else _)=_;cases c:m f with
  |false=>
   rw[aJ da];show hB own VR o d (s.map b) a (VY.drop own)=_;rw[i c,kr b m F s a (λz g=>e z<|.tail _ g) ⋯,Ht,c];rfl
  |true=>
   let⟨@y,k,l⟩:=j c;rw[aF rfl];show (d VY).bind _=_;rw[k];show (if a.length<100000 then hB own VR o d (s.map b) (a++[F f]) (y.drop own) else X)=_;rw[aF ⋯,l,kr b m F s (a++[F f]) (λz g=>e z<|.tail _ g) (by rw[dd,iJ];lia),Ht,c];simp
def n0{ab:aY}(a:VM->aa)(F:VM->aa)(w:List VM)(e:∀f∈w,∃Vu VY y,VR (.im<|a f) (List.replicate own X++ab)=Z Vu/\o Vu=Z (V,VY)/\d VY=Z (.im<|F f,y)/\y.drop own=ab)(h:w.length<=100000):hB own VR o d (w.map a) [] ab=Z (w.map F,ab):=by
 have:=kr (own:=own) (VR:=VR) (o:=o) (d:=d) (ab:=ab) a (λ_=>V) F w [] (λf b=>by
  let⟨Vu,VY,@y,t,A,c,g⟩:=e f b;exact⟨Vu,VY,t,A,(λi=>by cases i),(λ_=>⟨y,c,g⟩)⟩) (by rw[l1];lia)
 rw[IG]at this;exact this
def UL{Wm:Type}(F:VM->Wm)(w:List VM)(M Vl:Option Int):jr (w.map F) M Vl=(jr w M Vl).map F:=by
 unfold jr;rw[a8,jx,jq]
end L2
namespace G
open L2
abbrev aK(g:Int):ai:=.im (.int g)
def wB:bu:=((cw<|dp<|ar (af<|bS rN<|ar (ak 0)<|ar (ak 1) aH)<|ar (af<|bS rJ<|ar (ak 0)<|ar (ak 1) aH) aH))
def p8:cj:=(cJ 2 2 [0,1] wB)
def qS:bu:=((bZ 2<|aC fK (af<|aC dg (af<|aC dg (af<|aC gZ (ak 2)<|af<|aG<|.int 69621)<|af<|aC fK (ak 3)<|af<|aG<|.int 2147483587)<|af<|aG<|.int 13)<|af<|aG<|.int 2305843009213693951))
def w3:bu:=((bf (bZ 2<|aC dg (af<|aG<|.int 7)<|af<|aC gZ (af<|aG<|.int 7919)<|ak 1)<|bf (dT (cc<|af<|ma (ak 0) mZ<|nA<|aG<|.int 63) (bx 3) G.qS)<|bf (bZ 3<|kB (bK<|aC h_ (af<|bS dC<|ar (ak 0) aH)<|af<|aG<|.int 0) (aC a7 (ak 0)<|af<|aC fK (ak 1)<|af<|bS dC<|ar (ak 0) aH)<|aG<|.int 0)<|bf (bZ 4<|aC gZ (af<|aC gZ (af<|aC lY (af<|aG<|.int 10)<|af<|aG<|.int 60)<|af<|aC lY (af<|aG<|.int 10)<|af<|aG<|.int 60)<|af<|aC lY (af<|aG<|.int 10)<|af<|aG<|.int 60)<|cw<|fp<|ar (af<|aC gZ (af<|aC fK (ak 3)<|ak 4)<|af<|bS vInt<|ar (af<|aC AH (ak 3)<|af<|aC lY (af<|aG<|.int 10)<|af<|aG<|.int 18) aH)<|ar (ak 2)<|ar (af<|aG<|.int 0) aH))
def rY:cj:=(cJ 2 5 [0,1] w3)
def zM:bu:=((bf (eg (bK<|aC h_ (af<|aC a7 (ak 0)<|af<|aG<|.int 0)<|af<|aG<|.int 0) (bf (bZ 2<|aC fK (af<|aC a7 (ak 0)<|af<|aG<|.int 0)<|ak 1)<|bf (fR (aC oZ (af<|aC a7 (ak 0)<|af<|aG<|.int 0)<|ak 1)<|iY 0 (aG<|.int 0) n_)<|cw<|dB 2) fH)<|bf (fR (aC dg (af<|aC a7 (ak 0)<|af<|aG<|.int 2)<|af<|aG<|.int 1)<|iY 0 (aG<|.int 2) n_)<|bf (bZ 3<|aC fK (af<|aC gZ (af<|aC dg (af<|aC a7 (ak 0)<|af<|aG<|.int 1)<|af<|aC gZ (af<|aC a7 (ak 0)<|af<|aG<|.int 2)<|af<|aG<|.int 104729)<|af<|aG<|.int 48271)<|af<|aG<|.int 2305843009213693951)<|bf (fR (aC fK (af<|aC gZ (ak 3)<|af<|aC dg (af<|aC fK (ak 3)<|af<|aG<|.int 1009)<|af<|aG<|.int 69621)<|af<|aG<|.int 2305843009213693951)<|iY 0 (aG<|.int 1) n_)<|cw<|aC fK (af<|aC oZ (af<|aC a7 (ak 0)<|af<|aG<|.int 1)<|af<|aG<|.int 1000003)<|ak 1))
def dV:cj:=(cJ 2 4 [0,1] zM)
def S1:bu:=((cw<|fp<|ar (af<|dp<|ar (af<|aC gs (af<|aC a7 (ak 0)<|af<|aG<|.int 0)<|af<|aG<|.int 1)<|ar (af<|aC a7 (ak 0)<|af<|aG<|.int 1) aH)<|ar (af<|dp<|ar (af<|aC a7 (ak 0)<|af<|aG<|.int 0)<|ar (af<|aC gs (af<|aC a7 (ak 0)<|af<|aG<|.int 1)<|af<|aG<|.int 1) aH)<|ar (af<|dp<|ar (af<|aC a7 (ak 0)<|af<|aG<|.int 0)<|ar (af<|aC dg (af<|aC a7 (ak 0)<|af<|aG<|.int 1)<|af<|aG<|.int 1) aH)<|ar (af<|dp<|ar (af<|aC dg (af<|aC a7 (ak 0)<|af<|aG<|.int 0)<|af<|aG<|.int 1)<|ar (af<|aC a7 (ak 0)<|af<|aG<|.int 1) aH) aH))
def LK:cj:=(cJ 1 1 [0] S1)
def Ny:bu:=((bf (bZ 4<|aC a7 (af<|bF 1 G.LK<|ar (af<|aC a7 (ak 2)<|af<|bF 2 G.dV<|ar (ak 0)<|ar (af<|bS dC<|ar (ak 2) aH) aH) aH)<|af<|bF 2 G.dV<|ar (ak 0)<|ar (af<|aG<|.int 4) aH)<|eg (eR (bK<|aC ig (ak 4)<|ak 2)<|eR (bK<|iZ gj gj (af<|aG<|.int 0) (af<|aC a7 (ak 4)<|af<|aG<|.int 0)<|af<|aG<|.int 24)<|bK<|iZ gj gj (af<|aG<|.int 0) (af<|aC a7 (ak 4)<|af<|aG<|.int 1)<|af<|aG<|.int 24) (gh<|eI g4 2 gW<|ar (ak 4) aH) fH))
def QX:bu:=((bf (bZ 2<|fp<|ar (af<|dp<|ar (af<|aG<|.int 12)<|ar (af<|aG<|.int 12) aH) aH)<|bf (dT (i8<|ar (af<|bF 2 G.dV<|ar (ak 0)<|ar (ak 1) aH) aH) (bx 3) G.Ny)<|cw<|dB 2))
def J7:cj:=(cJ 2 5 [0,1] QX)
def Mp:bu:=((gh<|eI g4 5 k7<|ar (af<|bF 2 G.dV<|ar (ak 0)<|ar (af<|bS dC<|ar (ak 5) aH) aH) aH))
def Jh:ay ai:=((dB 0))
def RG:ay Bool:=((bK<|aC fb (af<|aC gZ (af<|aC fK (af<|aC a7 (ak 0)<|af<|aG<|.int 0)<|af<|aG<|.int 2)<|af<|aC fK (af<|aC fK (af<|aC a7 (ak 0)<|af<|aG<|.int 1)<|af<|aG<|.int 3)<|af<|aG<|.int 2)<|af<|aG<|.int 0))
end G
namespace L2
section
variable{k Vu VY:aY}
variable{v:ai}
def c3{L:ay ai}(e:L k=Z (v,Vu)):af L k=Z (.cu v,Vu):=by unfold af;rw[e];rfl
variable{f:bN}
def dH{L:ay bN}{e:ay (List bN)}{w:List bN}(a:L k=Z (f,Vu))(b:e Vu=Z (w,VY)):ar L e k=Z (f::w,VY):=by unfold ar;rw[a];show (e Vu).map _=_;rw[b];rfl
variable{V2 V8:ai}
def iB{Wa:ai->ai->Option ai}{Wv V_:ay bN}{z:bN}(a:Wv k=Z (f,Vu))(b:V_ Vu=Z (z,VY))(c:dG VY f=Z V2)(d:dG VY z=Z V8)(e:Wa V2 V8=Z v):aC Wa Wv V_ k=Z (v,VY):=by
 unfold aC;rw[a];show (V_ Vu).bind _=_;rw[b];show (dG VY f).bind _=_;rw[c];show (dG VY z).bind _=_;rw[d];show (Wa V2 V8).map _=_;rw[e];rfl
variable{L:ay (List bN)}{x:Nat}{VI:List bN}
def ey{Q:cj}{E outs:List ai}{s:ai}(a:L k=Z (VI,Vu))(b:VI.length=x)(c:ei VI Vu=Z (E,VY))(d:Q E=Z (s,outs)):bF x Q L k=Z (s,hh VI outs VY):=by
 unfold bF;rw[a];show (if VI.length=x then _ else _)=_;rw[aF b];show (ei VI Vu).bind _=_;rw[c];show (Q E).map _=_;rw[d];rfl
variable{E:List ai}
def mA{Wa:List ai->Option ai}(a:L k=Z (VI,Vu))(b:h5 Vu VI=Z E)(c:Wa E=Z v):bS Wa L k=Z (v,Vu):=by
 unfold bS;rw[a];show (h5 Vu VI).bind _=_;rw[b];show (Wa E).map _=_;rw[c];rfl
variable{c:Bool}
def y2{L:ay ai}(d:L k=Z (.im<|.av c,Vu)):bK L k=Z (c,Vu):=by unfold bK;rw[d];rfl
def GS{L:ay Bool}(d:L k=Z (c,Vu)):hz L k=Z (!c,Vu):=by unfold hz;rw[d];rfl
def PK{L:ay bN}(d:L k=Z (f,Vu))(a:dG Vu f=Z v)(b:qT v=Z c):jg L k=Z (c,Vu):=by
 unfold jg;rw[d];show (dG Vu f).bind _=_;rw[a];show (qT v).map _=_;rw[b];rfl
def ih{L:ay ai}{e:eW}(d:L k=Z (v,Vu))(a:e v Vu=Z VY):fR L e k=Z (.aX,VY):=by unfold fR;rw[d];show (e v Vu).map _=_;rw[a];rfl
def jn{L:ay ai}(d:L k=Z (v,Vu)):gh L k=Z (.aX,Vu):=by unfold gh;rw[d];rfl
variable{y:aY}
def ka{ty:ai->Bool}{g:Nat}{bc:ai->List ai->Option (ai×ai)}{WC o s V9:ai}(a:k[g]?=Z (Z WC))(b:ty WC=V)(c:L k=Z (VI,Vu))(d:ei VI Vu=Z (E,VY))(e:VY[g]?=Z (Z o))(f:bc o E=Z (s,V9))(q:VY.set g (Z V9)=y):eI ty g bc L k=Z (s,y):=by
 subst q;unfold eI;rw[a];show (if ty WC=V then _ else _)=_;rw[aF b,c];show (ei VI Vu).bind _=_;rw[d];show (match VY[g]? with|some (Z o)=>_|_=>X)=_;rw[e];show (bc o E).map _=_;rw[f];rfl
def Ur(a:L k=Z (VI,Vu))(b:ei VI Vu=Z (E,VY))(c:E.length<=100000)(q:rm E=v):dp L k=Z (v,VY):=by
 unfold dp;rw[a];show (ei VI Vu).bind _=_;rw[b];show (if _ then _ else _)=_;rw[aF c,q]
def QY(a:L k=Z (VI,Vu))(b:ei VI Vu=Z (E,VY))(c:E.length<=100000)(q:sa E=v):fp L k=Z (v,VY):=by
 unfold fp;rw[a];show (ei VI Vu).bind _=_;rw[b];show (if _ then _ else _)=_;rw[aF c,q]
def wc{f:List aa}{v:aa}(e:f.length<100000):gW (.lst f) [.im v]=Z (.im .a3,.lst<|f++[v]):=aF e
def sR(g r:Int):fb (.im<|.int g) (.im<|.int r)=Z (.im<|.av<|decide (g=r)):=by
 show Z (ai.im<|.av<|g==r)=_;by_cases e:g=r<;>simp[e]
def Oe(g r:Int):gq (.im<|.int g) (.im<|.int r)=Z (.im<|.av<|!decide (g=r)):=by
 show Z (ai.im<|.av<|!(g==r))=_;by_cases e:g=r<;>simp[e]
variable{g r:Int}
def jS(e:iz g r=V):gZ (.im<|.int g) (.im<|.int r)=Z (.im<|.int<|g*r):=aF e
def jG(e:0<r):fK (.im<|.int g) (.im<|.int r)=Z (.im<|.int<|g%r):=aF (di e)
def EP(e:0<r)(A:r<1073741824):oZ (.im<|.int g) (.im<|.int r)=Z (.im<|.int<|g/r):=aF (di (⟨e,A⟩:0<r/\r<1073741824))
def H4(e:decide (0<=r/\r<=1000000/\g.natAbs<2^64)=V):lY (.im<|.int g) (.im<|.int r)=Z (.im<|.int<|g^r.toNat):=aF e
variable{s:Option (kH×aY)}{c:bu}{o:ay Bool}
theorem ll{h:bu}(d:o k=Z (V,Vu))(e:h Vu=s):eg o h c k=s:=(uJ d).trans e
theorem gg{h:bu}(d:o k=Z (aA,Vu))(e:c Vu=s):eg o h c k=s:=(vw d).trans e
theorem bV{L e:bu}(d:L k=Z (.aX,Vu))(q:e Vu=s):bf L e k=s:=(ee d).trans q
variable{g:Nat}
theorem ix{L:ay ai}(d:L k=Z (v,Vu))(e:g<Vu.length)(q:Vu.set g (Z v)=VY):bZ g L k=Z (.aX,VY):=(E3 d e).trans (by rw[q])
variable{w:List aa}{VR:eW}{n:Option (Nat×ai)}
theorem jt{L:hI}{aW:kH}(d:L k=Z ((w,n),Vu))(e:dr VR c w Vu=Z (aW,VY))(q:la n VY=y):dT L VR c k=Z (aW,y):=(oy d e).trans (by rw[q])
theorem kg{own:Nat}{V3:List Nat}{D:hI}{d:ay ai}{a:aY}{E:List aa}(t:D k=Z ((w,n),Vu))(A:hB own VR o d w [] (jM V3 Vu)=Z (E,a))(q:la n (iD V3 a Vu)=y):dv own V3 D VR o d k=Z (.lst E,y):=(r_ t A).trans (by rw[q])
variable{s:Option (Bool×aY)}{c h:ay Bool}
def t8(d:h k=Z (aA,Vu))(e:c Vu=s):j_ h c k=s:=by unfold j_;rw[d];exact e
def lW(d:h k=Z (V,Vu))(e:c Vu=s):eR h c k=s:=by unfold eR;rw[d];exact e
def wQ(d:h k=Z (aA,Vu)):eR h c k=Z (aA,Vu):=by unfold eR;rw[d];rfl
variable{s:Option (ai×aY)}{c h:ay ai}
def Gs(d:o k=Z (V,Vu))(e:h Vu=s):kB o h c k=s:=by unfold kB;rw[d];exact e
def Hl(d:o k=Z (aA,Vu))(e:c Vu=s):kB o h c k=s:=by unfold kB;rw[d];exact e
def Fx{r:Nat}(a:L k=Z (VI,Vu))(b:ei VI Vu=Z ([V2,V8],VY))(Vl:g<VY.length)(c:r<VY.length)(q:(VY.set g<|Z V2).set r (Z V8)=y):n6 g r L k=Z (.aX,y):=by
 unfold n6;rw[a];show (ei VI Vu).bind _=_;rw[b];show (if g<VY.length/\r<VY.length then _ else _)=_;rw[aF ⟨Vl,c⟩,q]
def vI{L:ay Bool}{c:Bool}(d:L k=Z (c,Vu)):fX L k=Z (.im<|.av c,Vu):=by unfold fX;rw[d];rfl
variable{s:ai}
def eG{Q:cj}{E outs:List ai}(a:L k=Z (VI,Vu))(b:VI.length=x)(c:ei VI Vu=Z (E,VY))(d:Q E=Z (s,outs))(q:hh VI outs VY=y):bF x Q L k=Z (s,y):=by rw[<-q];exact ey a b c d
def rB{L:ay Bool}(d:L k=Z (V,Vu)):hz L k=Z (aA,Vu):=GS d
def J_{L:ay Bool}(d:L k=Z (aA,Vu)):hz L k=Z (V,Vu):=GS d
def LG{L:ay bN}{I e:ay (Option Int)}{M Vl:Option Int}{a:ai}(b:L k=Z (f,Vu))(c:I Vu=Z (M,VY))(d:e VY=Z (Vl,y))(g:dG y f=Z v)(h:rI v M Vl=Z a):ma L I e k=Z (a,y):=by
 unfold ma;rw[b];show (I Vu).bind _=_;rw[c];show (e VY).bind _=_;rw[d];show (dG y f).bind _=_;rw[g];show (rI v M Vl).map _=_;rw[h];rfl
def tJ(a:L k=Z (VI,Vu))(b:h5 Vu VI=Z [.im (.int r)])(e:oW r):i8 L k=Z ((gX 0 r.toNat,X),Vu):=by
 unfold i8;rw[a];show (h5 Vu VI).bind _=_;rw[b];show (if oW r then _ else _)=_;rw[aF e]
def dY{l:Nat}{VV:List Nat}{L:bu}{E outs:List ai}(a:E.length=x)(d:L (E.map Z++List.replicate (l-x) X)=Z (.ej s,k))(b:iW VV E k 0=outs):cJ x l VV L E=Z (s,outs):=nv k a d b
end
section
variable{k Vu:aY}
variable{v:ai}
def aT{L:ay ai}(e:L k=Z (v,k)):af L k=Z (.cu v,k):=c3 e
variable{f:bN}
def bU{L:ay bN}{e:ay (List bN)}{w:List bN}(a:L k=Z (f,k))(b:e k=Z (w,k)):ar L e k=Z (f::w,k):=dH a b
variable{Wa:ai->ai->Option ai}{Wv V_:ay bN}{z:bN}{V2 V8:ai}
def bX(a:Wv k=Z (f,k))(b:V_ k=Z (z,k))(c:dG k f=Z V2)(d:dG k z=Z V8)(e:Wa V2 V8=Z v):aC Wa Wv V_ k=Z (v,k):=iB a b c d e
def cL(a:Wa V2 V8=Z v)(b:Wv k=Z (f,k):=by rfl)(c:V_ k=Z (z,k):=by rfl)(d:dG k f=Z V2:=by rfl)(e:dG k z=Z V8:=by rfl):aC Wa Wv V_ k=Z (v,k):=iB b c d e a
variable{L:ay (List bN)}{VI:List bN}{E:List ai}
def gu{Wa:List ai->Option ai}(a:L k=Z (VI,k))(b:h5 k VI=Z E)(c:Wa E=Z v):bS Wa L k=Z (v,k):=mA a b c
variable{c:Bool}
def d7{L:ay ai}(d:L k=Z (.im<|.av c,k)):bK L k=Z (c,k):=y2 d
def nK{L:ay bN}(d:L k=Z (f,k))(a:dG k f=Z v)(b:qT v=Z c):jg L k=Z (c,k):=PK d a b
def kp(a:L k=Z (VI,k))(b:ei VI k=Z (E,k))(c:E.length<=100000)(q:rm E=v):dp L k=Z (v,k):=Ur a b c q
def Gb(a:L k=Z (VI,k))(b:ei VI k=Z (E,k))(c:E.length<=100000)(q:sa E=v):fp L k=Z (v,k):=QY a b c q
def fG{g:Nat}{L:ay ai}(d:L k=Z (v,k))(e:g<k.length)(q:k.set g (Z v)=Vu):bZ g L k=Z (.aX,Vu):=ix d e q
end
end L2
namespace G
open L2
variable{V2 y g l:Int}{L:ay ai}{Vu k:aY}{P:List (Int×Int)}{I:List aa}{h:Int×Int}{e:ai}{x:Nat}
def ag(m:Int×Int):aa:=(.tup [.int m.1,.int m.2])
abbrev aE(Vw:List (Int×Int)):ai:=.im (.tup<|Vw.map ag)
abbrev aV(Vw:List (Int×Int)):ai:=.lst (Vw.map ag)
abbrev d1(v j D:Int):ai:=.lst [.int v,.int j,.int D]
def e0(x:Nat)(e:ai):Prop:=(∃v j D,e=d1 v j D/\0<=v/\0<=j/\j<2^62/\0<=D/\D+x<2^40)
def e0.mono{l:Nat}(f:e0 x e)(d:l<=x):e0 l e:=by
 let⟨v,j,@D,rfl,t,A,a,b,c⟩:=f;exact⟨v,j,D,rfl,t,A,a,b,⋯⟩
def e0.lst(f:e0 x e):∃p,e=.lst p:=by
 let⟨v,j,@D,rfl,W⟩:=f;exact⟨_,rfl⟩
def iG(f:e0 (x+1) e)(g:0<l)(i:l<1073741824):∃u Vk,dV [e,aK l]=Z (aK u,[Vk,aK l])/\0<=u/\u<l/\e0 x Vk:=by
 let⟨v,j,@D,rfl,t,A,m,o,B⟩:=f;unfold dV zM;by_cases hd:0<v
 ·have WE:h_ (aK v) (aK 0)=Z (.im<|.av V):=congrArg (λc=>Z<|ai.im<|.av c) (di hd);refine⟨v%l,d1 (v/l) j D,?_,mx _ ⋯,oK _ g,v/l,j,D,rfl,Int.ediv_nonneg t ⋯,A,m,o,⋯⟩;have b:∀n,aC a7 (ak 0) (af<|aG<|.int 0) [Z (d1 v j D),Z<|aK l,n,X]=Z (aK v,[Z (d1 v j D),Z<|aK l,n,X]):=λn=>bX rfl rfl rfl rfl rfl;refine dY (k:=[Z (d1 (v/l) j D),Z<|aK l,Z<|aK<|v%l,X]) rfl (vY<|ll (d7<|bX (aT<|b X) rfl rfl rfl WE)<|bV (fG (bX (aT<|b X) rfl rfl rfl<|jG g) (g8 rfl) rfl)<|bV (ih (bX (aT<|b _) rfl rfl rfl<|EP g i) rfl) rfl) rfl
 ·obtain⟨a,p⟩:∃a:Int,a=(j+(D+1)*104729)*48271%2305843009213693951:=⟨_,rfl⟩;obtain⟨Vm,h⟩:∃Vm:Int,Vm=a*(a%1009+69621)%2305843009213693951:=⟨_,rfl⟩;have q:0<=Vm:=by rw[h];exact mx _ ∅
  have s:Vm<2^62:=by
   rw[h];exact Int.lt_trans (oK _ ∅) ∅
  have w:iz a (a%1009+69621)=V:=by
   have C:=mx a (show (1009:Int)≠0 by decide);have E:=oK a (show (0:Int)<1009 by decide);exact lu ⋯ ⋯
  refine⟨Vm/1000003%l,d1 v Vm<|D+1,?_,mx _ ⋯,oK _ g,v,Vm,D+1,rfl,t,q,s,⋯,⋯⟩;have WE:h_ (aK v) (aK 0)=Z (.im<|.av aA):=congrArg (λc=>Z<|ai.im<|.av c) (dU hd);have b:∀(r u:Int) (k:aY),a7 (d1 v j<|D+1) (aK r)=Z (aK u)->aC a7 (ak 0) (af<|aG<|.int r) (Z (d1 v j<|D+1)::k)=Z (aK u,Z (d1 v j<|D+1)::k):=λr u k d=>cL d;have y:fK (aK<|(j+(D+1)*104729)*48271) (aK 2305843009213693951)=Z (aK a):=by rw[p];exact jG ∅
  have z:fK (aK<|a*(a%1009+69621)) (aK 2305843009213693951)=Z (aK Vm):=by rw[h];exact jG ∅
  refine dY (k:=[Z (d1 v Vm<|D+1),Z<|aK l,X,Z<|aK a]) rfl (bV (gg (d7<|bX (aT<|bX (v:=aK v) rfl rfl rfl rfl rfl) rfl rfl rfl WE) rfl) (bV (ih (VY:=[Z (d1 v j<|D+1),Z<|aK l,X,X]) (bX (v:=aK (D+1)) (aT<|bX (v:=aK D) rfl rfl rfl rfl rfl) rfl rfl rfl rfl) rfl) (bV (fG (bX (aT (bX (aT (bX (aT<|b 1 j _ rfl) (aT (bX (aT<|b 2 (D+1) _ rfl) rfl rfl rfl (jS (lu ∅ ∅)))) rfl rfl rfl)) rfl rfl rfl (jS (lu ∅ ∅)))) rfl rfl rfl y) (g8 rfl) rfl) (bV (ih (VY:=[Z (d1 v Vm<|D+1),Z<|aK l,X,Z<|aK a]) (bX (aT (bX rfl (aT (bX (aT (cL (jG ∅))) rfl rfl rfl rfl)) rfl rfl<|jS w)) rfl rfl rfl z) rfl) (dx (bX (aT (bX (aT<|bX (v:=aK Vm) rfl rfl rfl rfl rfl) rfl rfl rfl (EP ∅ ∅))) rfl rfl rfl<|jG g)))))) rfl
theorem Fp:∀(w:List Int) (C VG VZ Wi:Option ai) (j:Int),0<=j->j<2^62->∃b Vm,0<=Vm/\Vm<2^62/\dr (bx 3) qS (w.map .int) [C,VG,Z<|aK j,VZ,Wi]=Z (.aX,[C,VG,Z<|aK Vm,b,Wi])
 |[],C,VG,VZ,Wi,j,d,t=>⟨VZ,j,d,t,rfl⟩
 |f::w,C,VG,VZ,Wi,j,d,t=>by
  obtain⟨a,c⟩:∃a:Int,a=(j*69621+f%2147483587+13)%2305843009213693951:=⟨_,rfl⟩;have e:0<=a:=by rw[c];exact mx _ ∅
  have g:a<2^62:=by
   rw[c];have:=oK (j*69621+f%2147483587+13) (show (0:Int)<2305843009213693951 by decide);lia
  let⟨b,@Vm,h,i,k⟩:=Fp w C VG (Z<|aK f) Wi a e g;refine⟨b,Vm,h,i,?_⟩;have l:iz j 69621=V:=lu ∅ ∅;rw[b4,dr];dsimp only;rw[show bx 3 (.im<|.int f) [C,VG,Z<|aK j,VZ,Wi]=Z [C,VG,Z<|aK j,Z<|aK f,Wi] from rfl];show (qS _).bind _=_;rw[show qS [C,VG,Z<|aK j,Z<|aK f,Wi]=Z (.aX,[C,VG,Z<|aK a,Z<|aK f,Wi]) by simp -implicitDefEqProofs [qS,l,<-c]];exact k
def S9{VT:List Int}{q:Int}(C:0<=q)(D:q<1000):∃e,rY [.dF (VT.map .int),aK q]=Z (e,[.dF (VT.map .int),aK q])/\e0 1000000 e:=by
 obtain⟨w,m⟩:∃w,jr (VT.map aa.int) X (Z 63)=w.map .int:=⟨jr VT X<|Z 63,UL _ _ _ _⟩;let⟨VZ,@j,U,p,s⟩:=Fp w (Z<|.dF<|VT.map .int) (Z<|aK q) X X (7+7919*q) ⋯ ⋯;have b:lY (aK 10) (aK 60)=Z (aK<|10^60):=H4 ∅;have u:lY (aK 10) (aK 18)=Z (aK<|10^18):=H4 ∅;have v:iz (10^60) (10^60)=V:=by decide +kernel
 have Wj:iz (10^60*10^60) (10^60)=V:=by decide +kernel
 have x:∀(f:Int) (c:Bool),iz f (if c then 1 else 0)=V:=λf c=>lu (by cases c<;>decide) (by cases c<;>decide);have y:(0:Int)<10^60*10^60*10^60:=by decide
 have Q:∀o:Int,e0 1000000 (d1 (o%(10^60*10^60*10^60)*(if decide (10^18<=o) then 1 else 0)) j 0):=λo=>by
  have t:=mx o (show (10^60*10^60*10^60:Int)≠0 by decide);refine⟨_,_,_,rfl,?_,U,p,mU 0,by decide⟩;split
  ·rw[Ex];exact t
  ·rw[Int.mul_zero];exact mU 0
 generalize g:VT.map aa.int=E at *;obtain⟨o,z⟩:∃o:Int,kB (bK<|aC h_ (af<|bS dC<|ar (ak 0) aH)<|af<|aG<|.int 0) (aC a7 (ak 0)<|af<|aC fK (ak 1)<|af<|bS dC<|ar (ak 0) aH) (aG<|.int 0) [Z (.dF E),Z<|aK q,Z<|aK j,VZ,X]=Z (aK o,[Z (.dF E),Z<|aK q,Z<|aK j,VZ,X]):=by
  have l:bS dC (ar (ak 0) aH) [Z (.dF E),Z<|aK q,Z<|aK j,VZ,X]=Z (aK (E.length:Int),[Z (.dF E),Z<|aK q,Z<|aK j,VZ,X]):=gu (bU rfl rfl) rfl rfl;have dO:bK (aC h_ (af<|bS dC<|ar (ak 0) aH)<|af<|aG<|.int 0) [Z (.dF E),Z<|aK q,Z<|aK j,VZ,X]=Z (decide ((E.length:Int)>0),[Z (.dF E),Z<|aK q,Z<|aK j,VZ,X]):=d7 (bX (aT l) rfl rfl rfl rfl);have le:E.length=VT.length:=by rw[<-g,a8]
  by_cases a:0<(E.length:Int)
  ·rw[di a]at dO;obtain⟨r,d⟩:∃r:Int,q%(E.length:Int)=r:=⟨_,rfl⟩;have A:0<=r:=d ▸ mx _ ⋯;have b1:r<E.length:=d ▸ oK _ a;have i1:r.toNat<VT.length:=⋯
   have B:a7 (.dF E) (aK r)=Z (aK VT[r.toNat]):=congrArg (Option.map ai.im) (Fh A (by rw[<-g,d3,dN i1];rfl));exact⟨_,Gs dO (bX rfl (aT (bX rfl (aT l) rfl rfl ((jG a).trans (by rw[d])))) rfl rfl B)⟩
  ·rw[dU a]at dO;exact⟨0,Hl dO rfl⟩
 refine⟨_,?_,Q o⟩;unfold rY w3;let W:Option ai->Int->Option ai->aY:=λh f c=>[Z (.dF E),Z<|aK q,Z<|aK f,h,c]
 refine dY (k:=W (Z<|aK o) j (Z<|aK<|10^60*10^60*10^60)) rfl (bV (Vu:=W X (7+7919*q) X) (fG (bX rfl (aT (cL (jS (Tv ∅ ∅)))) rfl rfl rfl) (g8 rfl) rfl)<|bV (Vu:=W VZ j X) ((oy (n:=X) (w:=w.map .int) (Vu:=W X (7+7919*q) X) (congrArg (λi=>Z ((i,(X:Option (Nat×ai))),W X (7+7919*q) X)) m) s).trans rfl)<|bV (Vu:=W (Z<|aK o) j X) (ix z (g8 rfl) rfl)<|bV (Vu:=W (Z<|aK o) j (Z<|aK<|10^60*10^60*10^60)) (fG (bX (aT<|bX (aT<|cL b) (aT<|cL b) rfl rfl<|jS v) (aT<|cL b) rfl rfl<|jS Wj) (g8 rfl) rfl)<|dx<|Gb (bU (aT<|bX (aT<|cL<|jG y) (aT<|gu (bU (aT<|bX rfl (aT<|cL u) rfl rfl rfl) rfl) rfl rfl) rfl rfl<|jS<|x _ _)<|bU rfl<|bU rfl rfl) rfl (g8 rfl) rfl) rfl
def b7(m:Int×Int):List aa:=([.int m.1,.int m.2])
def ti(m:Int×Int):ag m=.tup (b7 m):=rfl
def kL{c:Int×Int}(e:b7 h=b7 c):h=c:=by
 unfold b7 at e;simp at e;exact dQ e.1 e.2
def xg{c:Int×Int}(e:ag h=ag c):h=c:=by
 rw[ti,ti]at e;exact kL (by injection e)
def pL(m:Int×Int):aa.keys 7 (b7 m)=V:=rfl
def od:aa->Int×Int
 |.tup [.int h,.int c]=>(h,c)
 |_=>(0,0)
def FZ(m:Int×Int):od (ag m)=m:=rfl
def sl(m:Int×Int):aa.aZ 8 (ag m)=V:=rfl
theorem uU:∀Vw:List (Int×Int),aa.dj 8 (Vw.map ag)=V
 |[]=>rfl
 |m::s=>by rw[b4,aa.dj,sl,uU s];rfl
def m2(h c:Int×Int):cn (ag h) (ag c)=decide (h=c):=by
 show ((h.1==c.1)&&((h.2==c.2)&&V))=_;let⟨a,Wt⟩:=h;let⟨cE,cQ⟩:=c;by_cases t:a=cE<;>by_cases A:Wt=cQ<;>simp[t,A]
def DJ(Vw:List (Int×Int))(o:Int×Int):((Vw.map ag).any λf=>cn f<|ag o)=decide (o∈Vw):=by
 rw[oU,k5,j4,gD];constructor
 ·rintro⟨f,a,d⟩;have:decide (f=o)=V:=by rw[<-m2];exact d
  rw[<-fE this];exact a
 ·intro e;refine⟨o,e,?_⟩;show cn (ag o) (ag o)=V;rw[m2];exact di rfl
theorem AS:∀(I:List aa) (P:List (Int×Int)),(∀f∈I,f∈P.map ag)->I=(I.map od).map ag
 |[],_,_=>rfl
 |f::I,P,e=>by
  let⟨@m,W,d⟩:=ep.mp (e f<|.head _);rw[b4,b4,<-AS I P λz a=>e z<|.tail _ a,<-d,FZ]
def CT(e:I.Perm (P.map ag)):∃B:List (Int×Int),B.Perm P/\I=B.map ag:=by
 refine⟨I.map od,?_,AS I P λf a=>e.mem_iff.mp a⟩;have:=tB od e;rw[fl]at this;have d:(od ∘ ag:Int×Int->Int×Int)=id:=funext FZ;rw[d,DC]at this;exact this
def rH(aq:P.Nodup)(a:P.length<=1000):ja (P.map ag):=by
 refine⟨⟨by rw[a8];exact a,λh b c e=>?_,?_⟩,.inl λv hd=>?_⟩
 ·let⟨@f,W,rfl⟩:=ep.mp b;let⟨@z,W,rfl⟩:=ep.mp e;rfl
 ·exact G6 ag (λh c x d=>x<|xg d) aq
 ·let⟨@f,W,rfl⟩:=ep.mp hd;rfl
def Ox{Vx:List (List aa×aa)}{q:List aa}:(en Vx q).isSome=Vx.any λm=>decide (m.1=q):=by
 unfold en;rw[qH,List.isSome_find?]
def bc(P:List (Int×Int)):List (List aa×aa):=(P.map λo=>(b7 o,.av V))
def xW(P:List (Int×Int))(o:Int×Int):((bc P).any λm=>decide (m.1=b7 o))=decide (o∈P):=by
 unfold bc;rw[oU,k5,j4,gD];constructor
 ·rintro⟨f,a,d⟩;have:b7 f=b7 o:=fE d;rw[<-kL this];exact a
 ·intro e;exact⟨o,e,di rfl⟩
def NL(P:List (Int×Int))(o:Int×Int):(en (bc P)<|b7 o).isSome=decide (o∈P):=by rw[Ox,xW]
def IZ{o:Int×Int}(e:o∉P):fL (bc P) (b7 o) (.av V)=bc (P++[o]):=by
 unfold fL;rw[aJ (by rw[xW];simpa using e)];unfold bc;rw[fi];rfl
def pB{U:List (Int×Int)}{o:Int×Int}(a:0<=g)(e:U[g.toNat]?=Z o):fP (U.map ag) g=Z (ag o):=Fh a (by rw[d3,e];rfl)
def EI(Vw:List (Int×Int))(o:Int×Int):fj (ag o) (aV Vw)=Z (decide (o∈Vw)):=by
 rw[UD,sl,uU,DJ];rfl
def E4(Vw:List (Int×Int))(o:Int×Int):fj (ag o) (aE Vw)=Z (decide (o∈Vw)):=by
 rw[Eb,sl,uU,DJ];rfl
theorem zU{VM Wm:Type}(F:VM->Wm):∀(I:List VM) (q:Nat),(I.map F).eraseIdx q=(I.eraseIdx q).map F
 |[],_=>rfl
 |_::_,0=>rfl
 |h::I,q+1=>by simp[zU F I q]
def mid:bu:=((eg (j_ (bK<|aC fb (ak 2)<|af<|aG<|.int 1)<|bK<|aC fb (ak 2)<|af<|aG<|.int 2) (dT (i8<|ar (af<|bF 2 G.dV<|ar (ak 0)<|ar (af<|aC dg (af<|aG<|.int 1)<|af<|aC oZ (af<|bS dC<|ar (ak 5) aH)<|af<|aG<|.int 2) aH) aH) (bx 6) G.Mp)<|eg (bK<|aC fb (ak 2)<|af<|aG<|.int 3) (bZ 5<|dv 1 [] (cc<|ak 5) (bx 0) G.RG G.Jh)<|eg (bK<|aC h_ (ak 2)<|af<|aG<|.int 3) (bZ 5<|bF 2 G.J7<|ar (ak 0)<|ar (ak 1) aH) fH))
abbrev a9:=(Int×Int)×(Int×Int)
variable{V7 Wd Vv:List a9}
def eF(d:a9):List aa:=([ag d.1,ag d.2])
def Iu{h c:a9}(e:eF h=eF c):h=c:=by
 unfold eF at e;injection e with t A;injection A with A _;exact dQ (xg t) (xg A)
def BS(d:a9):aa.keys 7 (eF d)=V:=rfl
def h9(h c:Int×Int):a9:=((if bz (ag c) (ag h)=V then c else h,if bz (ag h) (ag c)=V then c else h))
def PV(h c:Int×Int):rN [.im (ag h),.im<|ag c]=Z (.im<|ag (h9 h c).1):=by
 show (if ew 6 (ag c) (ag h)=V then Z (ai.im<|if bz (ag c) (ag h)=V then ag c else ag h) else X)=Z (.im<|ag<|if bz (ag c) (ag h)=V then c else h);rw[aF (show ew 6 (ag c) (ag h)=V from rfl)];split<;>rfl
def Ut(h c:Int×Int):rJ [.im (ag h),.im<|ag c]=Z (.im<|ag (h9 h c).2):=by
 show (if ew 6 (ag c) (ag h)=V then Z (ai.im<|if bz (ag h) (ag c)=V then ag c else ag h) else X)=Z (.im<|ag<|if bz (ag h) (ag c)=V then c else h);rw[aF (show ew 6 (ag c) (ag h)=V from rfl)];split<;>rfl
def bump:List (a9×Int)->a9->List (a9×Int)
 |[],d=>[(d,1)]
 | (F,x)::s,d=>if F=d then (F,x+1)::s else (F,x)::bump s d
def cnt(E:List (a9×Int))(Vw:List a9):List (a9×Int):=(Vw.foldl (λE m=>bump E<|h9 m.1 m.2) E)
def PJ(h c:Int×Int):p8 [.im (ag h),.im<|ag c]=Z (.im<|.tup<|eF<|h9 h c,[.im (ag h),.im<|ag c]):=by
 have t:=PV h c;have A:=Ut h c;simp -implicitDefEqProofs [p8,wB,t,A,eF]
def AP:bu:=((cw<|dp<|ar (af<|aC gs (af<|aC a7 (ak 1)<|af<|aG<|.int 0)<|af<|aC fK (af<|aC gs (af<|aC a7 (ak 1)<|af<|aG<|.int 0)<|af<|aC a7 (af<|aC a7 (ak 0)<|af<|aG<|.int 0)<|af<|aG<|.int 0)<|af<|aG<|.int 2)<|ar (af<|aC gs (af<|aC a7 (ak 1)<|af<|aG<|.int 1)<|af<|aC fK (af<|aC gs (af<|aC a7 (ak 1)<|af<|aG<|.int 1)<|af<|aC a7 (af<|aC a7 (ak 0)<|af<|aG<|.int 0)<|af<|aG<|.int 1)<|af<|aG<|.int 2) aH))
def iq:cj:=(cJ 2 2 [0,1] AP)
def zA(P:ct):bu:=((cw<|dp<|ar (af<|aC dg (af<|aC (d8 P.kt P.cM) (ak 0)<|af<|aG<|.int 0)<|af<|aC gZ (af<|aC (d8 P.kt P.cM) (ak 1)<|af<|aG<|.int 0)<|ak 2)<|ar (af<|aC dg (af<|aC (d8 P.kt P.cM) (ak 0)<|af<|aG<|.int 1)<|af<|aC gZ (af<|aC (d8 P.kt P.cM) (ak 1)<|af<|aG<|.int 1)<|ak 2) aH))
def kh(P:ct):cj:=(cJ 3 3 [0,1,2] (zA P))
def zT(P:ct):bu:=((bf (bZ 3<|bF 2 G.iq<|ar (ak 0)<|ar (ak 2) aH)<|bf (bZ 4<|aC (d8 P.kt P.cM) (af<|aG<|.fn P.lP)<|af<|dp<|ar (af<|aC gs (af<|aC (d8 P.kt P.cM) (ak 2)<|af<|aG<|.int 0)<|af<|aC (d8 P.kt P.cM) (ak 3)<|af<|aG<|.int 0)<|ar (af<|aC gs (af<|aC (d8 P.kt P.cM) (ak 2)<|af<|aG<|.int 1)<|af<|aC (d8 P.kt P.cM) (ak 3)<|af<|aG<|.int 1) aH)<|bf (eg (bK<|aC e5 (af<|bF 2 G.p8<|ar (ak 3)<|ar (af<|bF 3 (G.kh P)<|ar (ak 3)<|ar (af<|aC (d8 P.kt P.cM) (ak 4)<|af<|aG<|.int 0)<|ar (af<|aG<|.int 2) aH) aH)<|ak 1) (cw<|bF 3 (G.kh P)<|ar (ak 2)<|ar (af<|aC (d8 P.kt P.cM) (ak 4)<|af<|aG<|.int 0)<|ar (af<|aG<|.int 1) aH) fH)<|cw<|bF 3 (G.kh P)<|ar (ak 2)<|ar (af<|aC (d8 P.kt P.cM) (ak 4)<|af<|aG<|.int 1)<|ar (af<|aG<|.int 1) aH))
def lC(P:ct):cj:=(cJ 3 5 [0,1,2] (zT P))
abbrev ax:=Int×Int
variable{ah M:List ax}{m:ax->ax}{n o c:ax}
def cl(c:ax):Nat->ax
 |0=>c
 |1=>(c.1,c.2+1)
 |2=>(c.1+1,c.2+1)
 |_=>(c.1+1,c.2)
def hO(c:ax):Nat->ax
 |0=>(c.1-2,c.2)
 |1=>(c.1,c.2+2)
 |2=>(c.1+2,c.2)
 |_=>(c.1,c.2-2)
def e6(c:ax):List ax:=([c,(c.1,c.2+1),(c.1+1,c.2+1),(c.1+1,c.2)])
def i1(Vv:List a9)(h c:ax):Bool:=(decide ((h,c)∈Vv\/(c,h)∈Vv))
def aX(Vv:List a9)(m:ax×Nat):ax×Nat:=(if i1 Vv m.1 (hO m.1 m.2)=V then (hO m.1 m.2,(m.2+3)%4) else (m.1,(m.2+1)%4))
def mX(Vv:List a9)(m:ax×Nat):ax×Nat:=(if i1 Vv m.1 (hO m.1<|(m.2+3)%4)=V then (hO m.1<|(m.2+3)%4,(m.2+1)%4) else (m.1,(m.2+3)%4))
def Mj(Vv:List a9)(m:ax×Nat):(aX Vv m).2<4:=by
 unfold aX;split<;>exact lF _ ∅
structure er(M:List ax):Prop where
 ne:M≠[]
 aq:M.Nodup
 len:M.length<=40
 lZ:∀c∈M,0<=c.1/\c.1<=29/\0<=c.2/\c.2<=29
 par:∀h∈M,∀c∈M,(h.1-c.1)%2=0/\(h.2-c.2)%2=0
 con:∀m:ax->ax,(∀h∈M,∀c∈M,(c=(h.1,h.2+2)\/c=(h.1+2,h.2))->m h=m c)->∀h∈M,∀c∈M,m h=m c
def vu:o∈e6 c↔(o.1=c.1\/o.1=c.1+1)/\(o.2=c.2\/o.2=c.2+1):=by
 let⟨f,z⟩:=o;let⟨J,u⟩:=c;simp only[e6,cm,fW,i0,BH];constructor
 ·lia
 ·lia
def ly(c:ax){q:Nat}(a:q<4):cl c q∈e6 c:=by
 match q,a with
 |0,_=>simp[cl,e6]
 |1,_=>simp[cl,e6]
 |2,_=>simp[cl,e6]
 |3,_=>simp[cl,e6]
def so(e:o∈e6 c):∃q,q<4/\o=cl c q:=by
 simp only[e6,cm,fW,i0]at e;rcases e with e|e|e|e
 ·exact⟨0,by decide,e⟩
 ·exact⟨1,by decide,e⟩
 ·exact⟨2,by decide,e⟩
 ·exact⟨3,by decide,e⟩
def er.one(VE:er M){h c o:ax}(a:h∈M)(b:c∈M)(t:o∈e6 h)(A:o∈e6 c):h=c:=by
 have m:=VE.par h a c b;rw[vu]at t A;exact dQ (by omega) (by omega)
def av(n o:ax):ax:=((o.1-(o.1-n.1)%2,o.2-(o.2-n.2)%2))
def dO(n o:ax):Nat:=(if (o.1-n.1)%2=0 then (if (o.2-n.2)%2=0 then 0 else 1) else (if (o.2-n.2)%2=0 then 3 else 2))
def Gt(t:(c.1-n.1)%2=0)(A:(c.2-n.2)%2=0){q:Nat}(a:q<4):av n (cl c q)=c/\dO n (cl c q)=q:=by
 match q,a with
 |0,_=>
  refine⟨dQ ?_ ?_,?_⟩
  ·simp only[av,cl];lia
  ·simp only[av,cl];lia
  ·simp only[dO,cl];rw[aF t,aF A]
 |1,_=>
  refine⟨dQ ?_ ?_,?_⟩
  ·simp only[av,cl];lia
  ·simp only[av,cl];lia
  ·simp only[dO,cl];rw[aF t,aJ ⋯]
 |2,_=>
  refine⟨dQ ?_ ?_,?_⟩
  ·simp only[av,cl];lia
  ·simp only[av,cl];lia
  ·simp only[dO,cl];rw[aJ ⋯,aJ ⋯]
 |3,_=>
  refine⟨dQ ?_ ?_,?_⟩
  ·simp only[av,cl];lia
  ·simp only[av,cl];lia
  ·simp only[dO,cl];rw[aJ ⋯,aF A]
def gK(m:ax×Nat):ax:=(cl m.1 m.2)
def gP(M:List ax)(d:a9):Prop:=(d.1∈M/\d.2∈M/\(d.2=(d.1.1,d.1.2+2)\/d.2=(d.1.1+2,d.1.2)))
def NP(a:∀d∈Vv,gP M d){h c:ax}(e:i1 Vv h c=V):h∈M/\c∈M:=by
 rcases fE e with e|e
 ·exact⟨(a _ e).1,(a _ e).2.1⟩
 ·exact⟨(a _ e).2.1,(a _ e).1⟩
def TP(a:∀d∈Vv,gP M d){c:ax}(b:c∈M)(q:Nat):(aX Vv (c,q)).1∈M:=by
 unfold aX;split
 ·rename_i e;exact (NP a e).2
 ·exact b
def cells(M:List ax):List ax:=(M.flatMap e6)
def kc:o∈cells M↔∃c∈M,∃q,q<4/\o=cl c q:=by
 unfold cells;rw[r9];constructor
 ·rintro⟨c,a,e⟩;exact⟨c,a,so e⟩
 ·rintro⟨c,a,q,b,rfl⟩;exact⟨c,a,ly c b⟩
def O6(c:ax):(e6 c).Nodup:=by
 let⟨f,z⟩:=c;simp[e6,gd];lia
theorem wW{VM Wm:Type}{F:VM->List Wm}:∀{I:List VM},I.Nodup->(∀h∈I,(F h).Nodup)->(∀h∈I,∀c∈I,∀f,f∈F h->f∈F c->h=c)->(I.flatMap F).Nodup
 |[],_,_,_=>by simp
 |h::I,aq,t,A=>by
  let@⟨e,Wu⟩:=gd.mp aq;rw[nN,cO];refine⟨t h<|.head _,wW Wu (λc a=>t c<|.tail _ a)<|λc a o g=>A c (.tail _ a) o<|.tail _ g,λf i z b d=>?_⟩;let⟨@c,a,b⟩:=r9.mp b;subst d;have:=A h (.head _) c (.tail _ a) f i b;subst this;exact e a
def er.Aa(VE:er M):(cells M).Nodup:=wW VE.aq (λc W=>O6 c) λh a c b f t A=>VE.one a b t A
theorem kE:∀M:List ax,(cells M).length=4*M.length
 |[]=>rfl
 |c::M=>by
  have:=kE M;unfold cells at *;rw[nN,dd,this];simp[e6];lia
def Aq{VM Wm:Type}{F:VM->Wm}{I:List VM}(aq:I.Nodup)(e:∀h∈I,∀c∈I,F h=F c->h=c):(I.map F).Nodup:=by
 unfold List.Nodup;rw[p1];exact Jb (λa b x d=>x<|e _ a _ b d) aq
def NF{M:List (Int×Int)}{n:Int×Int}(e:M.length<100000):gW (aV M) [.im (ag n)]=Z (.im .a3,aV<|M++[n]):=by
 have:gW (aV M) [.im (ag n)]=Z (.im .a3,.lst<|M.map ag++[ag n]):=wc (by rw[a8];exact e);rw[this];simp
def TN(M:List (Int×Int)):dC [aV M]=Z (aK (M.length:Int)):=by
 show Z (aK ((M.map ag).length:Int))=_;rw[a8]
def z3(M:List (Int×Int)):dC [aE M]=Z (aK (M.length:Int)):=by
 show Z (aK ((M.map ag).length:Int))=_;rw[a8]
def Ds{Wv V_ WG:ay bN}{f z i:bN}{h c o:Int}(b:Wv k=Z (f,k))(d:V_ k=Z (z,k))(e:dG k f=Z (aK h))(a:dG k z=Z (aK c))(g:WG k=Z (i,k))(j:dG k i=Z (aK o):=by rfl):bK (iZ gj gj Wv V_ WG) k=Z (decide (h<=c)&&decide (c<=o),k):=by
 unfold bK iZ;rw[b];show ((V_ k).bind _).bind _=_;rw[d];show ((dG k f).bind _).bind _=_;rw[e];show ((dG k z).bind _).bind _=_;rw[a];show ((if decide (h<=c)=V then _ else _):Option (ai×aY)).bind _=_;cases decide (h<=c) with
 |false=>rfl
 |true=>
  rw[aF rfl];show ((WG k).bind _).bind _=_;rw[g];show ((dG k z).bind _).bind _=_;rw[a];show ((dG k i).bind _).bind _=_;rw[j];rfl
structure nS(l:Int)(M:List ax):Prop where
 ne:M≠[]
 aq:M.Nodup
 len:(M.length:Int)<=l
 lZ:∀c∈M,0<=c.1/\c.1<=29/\0<=c.2/\c.2<=29
 par:∀h∈M,∀c∈M,(h.1-c.1)%2=0/\(h.2-c.2)%2=0
 con:∀m:ax->ax,(∀h∈M,∀c∈M,(c=(h.1,h.2+2)\/c=(h.1+2,h.2))->m h=m c)->∀h∈M,∀c∈M,m h=m c
def mG:List ax:=([(0,2),(2,0),(0,-2),(-2,0)])
def nS.add{l:Int}{M:List ax}(L:nS l M){o v:ax}(n:o∈M)(hd:v∈mG)(q:(o.1+v.1,o.2+v.2)∉M)(x:(M.length:Int)<l)(r:0<=o.1+v.1/\o.1+v.1<=29/\0<=o.2+v.2/\o.2+v.2<=29):nS l (M++[(o.1+v.1,o.2+v.2)]):=by
 have V8:v.1%2=0/\v.2%2=0:=by
  simp only[mG,cm,fW,i0]at hd;rcases hd with e|e|e|e<;>subst e<;>exact⟨by decide,by decide⟩
 refine⟨by simp,cO.mpr ⟨L.aq,eB _ _,λf b z s d=>q (by rw[cb.mp s]at d;rw[<-d];exact b)⟩,by simp;lia,λc a=>?_,λh g c a=>?_,λm i h g c a=>?_⟩
 ·rcases du.mp a with e|e
  ·exact L.lZ c e
  ·rw[cb.mp e];exact r
 ·have Q:∀f∈M,(f.1-(o.1+v.1))%2=0/\(f.2-(o.2+v.2))%2=0:=λf b=>by
   have:=L.par f b o n;exact⟨⋯,⋯⟩
  rcases du.mp g with t|t<;>rcases du.mp a with A|A
  ·exact L.par h t c A
  ·rw[cb.mp A];exact Q h t
  ·rw[cb.mp t];have:=Q c A;exact⟨by show ((o.1+v.1)-c.1)%2=0;lia,by show ((o.2+v.2)-c.2)%2=0;lia⟩
  ·rw[cb.mp t,cb.mp A];exact⟨by simp,by simp⟩
 ·have u:=L.con m λh g c a=>i h (dW _ g) c (dW _ a);have j:o∈M++[(o.1+v.1,o.2+v.2)]:=dW _ n;have k:(o.1+v.1,o.2+v.2)∈M++[(o.1+v.1,o.2+v.2)]:=dy _ (.head _);have w:m o=m (o.1+v.1,o.2+v.2):=by
   simp only[mG,cm,fW,i0]at hd;rcases hd with e|e|e|e
   ·subst e;exact i _ j _ k (.inl (dQ ↥0 ↥0))
   ·subst e;exact i _ j _ k (.inr (dQ ↥0 ↥0))
   ·subst e;exact (i _ k _ j (.inl (dQ ↥0 (by simp;lia)))).symm
   ·subst e;exact (i _ k _ j (.inr (dQ (by simp;lia) ↥0))).symm
  have p:∀f∈M++[(o.1+v.1,o.2+v.2)],m f=m o:=λf b=>by
   rcases du.mp b with e|e
   ·exact u f e o n
   ·rw[cb.mp e];exact w.symm
  rw[p h g,p c a]
def pW{h:ax}:bz (ag h) (ag c)=V↔h.1<c.1\/(h.1=c.1/\h.2<c.2):=by
 let⟨f,z⟩:=h;let⟨J,u⟩:=c;show (if aa.beq (.int f) (.int J)=V then (if aa.beq (.int z) (.int u)=V then aA else decide (z<u)) else decide (f<J))=V↔_;have d:∀g r:Int,aa.beq (.int g) (.int r)=decide (g=r):=λg r=>by
  show (g==r)=_;by_cases e:g=r<;>simp[e]
 rw[d,d];by_cases t:f=J<;>by_cases A:z=u<;>simp[t,A]
def dk(I:List ax):Prop:=((I.map ag).Pairwise (λh c=>bz h c=V))
def vg{P:List ax}(aq:P.Nodup)(b:P.length<=1000):∃B:List ax,B.Perm P/\gB (P.map ag)=Z (aV B)/\dk B:=by
 have dA:=rH aq b;let⟨@B,VN,a⟩:=CT (i5<|P.map ag);refine⟨B,VN,?_,?_⟩
 ·unfold gB;rw[aF (m6.mpr dA),a]
 ·unfold dk;rw[<-a];exact qb dA.1.3 dA.1.2
theorem wO:∀{f:List aa},(∀v∈f,∃s,v=.tup s)->fa [.lst f]=gB f
 |[],_=>rfl
 |v::f,e=>by
  let⟨@s,rfl⟩:=e v (.head _);rfl
def HR{g:Nat}{P B:List ax}(a:k[g]?=Z (Z<|aV P))(e:gB (P.map ag)=Z (aV B)):bS fa (ar (ak g) aH) k=Z (aV B,k):=by
 have b:fa [aV P]=Z (aV B):=by
  rw[wO,e];intro v hd;let⟨@o,W,rfl⟩:=ep.mp hd;exact⟨_,rfl⟩
 simp -implicitDefEqProofs only[bS,ar,ak,tD,a,gH,lI,vW,vn,CD,qI,b]
def nd{f:List aa}(e:L k=Z (.lst f,Vu)):bS iF (ar (af L) aH) k=Z (.im<|.tup f,Vu):=by
 simp -implicitDefEqProofs only[bS,ar,af,tD,e,gH,lI,vW,vn,Ct,iF,jP]
def aP(d:a9):aa:=(.tup (eF d))
abbrev bj(S:List a9):ai:=.lst (S.map aP)
def sT:aa->a9
 |.tup [h,c]=>(od h,od c)
 |_=>((0,0),(0,0))
def uZ(d:a9):sT (aP d)=d:=rfl
def So{h c:a9}(e:aP h=aP c):h=c:=by rw[<-uZ h,e,uZ]
theorem BD:∀(I:List aa) (P:List a9),(∀f∈I,f∈P.map aP)->I=(I.map sT).map aP
 |[],_,_=>rfl
 |f::I,P,e=>by
  let⟨@m,W,d⟩:=ep.mp (e f<|.head _);rw[b4,b4,<-BD I P λz a=>e z<|.tail _ a,<-d,uZ]
def A_{P:List a9}(e:I.Perm (P.map aP)):∃B:List a9,B.Perm P/\I=B.map aP:=by
 refine⟨I.map sT,?_,BD I P λf a=>e.mem_iff.mp a⟩;have:=tB sT e;rw[fl]at this;have d:(sT ∘ aP:a9->a9)=id:=funext uZ;rw[d,DC]at this;exact this
def Gg{P:List a9}(aq:P.Nodup)(a:P.length<=1000):ja (P.map aP):=by
 refine⟨⟨by rw[a8];exact a,λh b c e=>?_,?_⟩,.inr λv hd=>?_⟩
 ·let⟨@f,W,rfl⟩:=ep.mp b;let⟨@z,W,rfl⟩:=ep.mp e;rfl
 ·exact G6 aP (λh c x d=>x<|So d) aq
 ·let⟨@f,W,rfl⟩:=ep.mp hd;rfl
def Qw{g:Nat}{P:List a9}(aq:P.Nodup)(b:P.length<=1000)(d:k[g]?=Z (Z<|bj P)):∃B:List a9,B.Perm P/\bS fa (ar (ak g) aH) k=Z (bj B,k)/\(B.map aP).Pairwise (λh c=>bz h c=V):=by
 have dA:=Gg aq b;let⟨@B,VN,a⟩:=A_ (i5<|P.map aP);refine⟨B,VN,?_,by rw[<-a];exact qb dA.1.3 dA.1.2⟩;have e:fa [bj P]=Z (bj B):=by
  rw[wO]
  ·unfold gB;rw[aF (m6.mpr dA),a]
  ·intro v hd;let⟨@o,W,rfl⟩:=ep.mp hd;exact⟨_,rfl⟩
 simp -implicitDefEqProofs only[bS,ar,ak,tD,d,gH,lI,vW,vn,CD,qI,e]
def fc(M:List ax)(c:ax):List a9:=(([(c.1,c.2+2),(c.1+2,c.2)].filter λn=>decide (n∈M)).map λn=>(c,n))
def ef(M:List ax):List a9:=(M.flatMap (fc M))
def yP{d:a9}:d∈ef M↔gP M d:=by
 unfold ef fc gP;simp only[r9,ep,n9,cm,fW,i0,we];constructor
 ·rintro⟨c,a,n,⟨b,A⟩,rfl⟩;exact⟨a,A,b⟩
 ·rintro⟨t,A,e⟩;exact⟨d.1,t,d.2,⟨e,A⟩,rfl⟩
def sP(M:List ax)(c:ax):(fc M c).length<=2:=by
 unfold fc;rw[a8];exact mq _ _
theorem xU(M:List ax):∀I:List ax,(I.flatMap<|fc M).length<=2*I.length
 |[]=>bD _
 |c::I=>by
  rw[nN,dd,dn];have:=xU M I;have:=sP M c;lia
def PH(aq:M.Nodup):(ef M).Nodup:=by
 refine wW aq (λc W=>?_) λh W c W f t A=>?_
 ·unfold fc;refine Aq (SE _ ?_) λh W c W d=>by injection d
  simp;lia
 ·unfold fc at t A;let⟨@n,W,rfl⟩:=ep.mp t;let⟨@V4,W,d⟩:=ep.mp A;injection d with a b;exact a.symm
def b2(M:List ax)(m:ax->ax):List (List aa×aa):=(M.map λc=>(b7 c,ag<|m c))
theorem Dw:∀(I a:List (List aa×aa)),((a++I).map (·.1)).Nodup->I.foldl (λh m=>fL h m.1 m.2) a=a++I
 |[],a,_=>by simp
 |m::I,a,aq=>by
  have e:¬ (a.any λb=>decide (b.1=m.1))=V:=λi=>by
   let⟨@p,c,d⟩:=j4.mp i;have d:=fE d;rw[fi,cO]at aq;exact aq.2.2 p.1 (vO c) m.1 ↥0 d
  rw[jT,show fL a m.1 m.2=a++[m] by unfold fL;rw[aJ e],Dw I (a++[m]) (by rw[bk];exact aq),bk];rfl
def UB(aq:M.Nodup)(m:ax->ax):nt (b2 M m)=b2 M m:=by
 unfold nt;rw[Dw _ [] ?_,gp];unfold b2;rw[gp,fl];exact Aq aq λh W c W d=>kL d
def KA(m:ax->ax){o:ax}(e:o∈M):en (b2 M m) (b7 o)=Z (ag<|m o):=by
 induction M with
 |nil=>cases e
 |cons c M a=>
  unfold en b2;rw[b4,jl];by_cases d:c=o
  ·subst d;simp
  ·rw[show decide (((b7 c,ag<|m c):List aa×aa).1=b7 o)=aA from dU λi=>d<|kL i];exact a ((cm.mp e).resolve_left λi=>d i.symm)
def Nh(M:List ax)(m:ax->ax):o2 (M.map λc=>.tup [ag c,ag<|m c])=Z (b2 M m):=by
 unfold b2;induction M with
 |nil=>rfl
 |cons o s a=>
  rw[b4,ti,o2,a];rfl
def Qk(M:List ax)(m:ax->ax):((b2 M m).all λp=>aa.keys 7 p.1)=V:=by
 unfold b2;rw[y0,jC];intro o W;rfl
def SF(aq:M.Nodup)(a:M.length<=1000)(e:L k=Z (.lst<|M.map λc=>.tup [ag c,ag<|m c],Vu)):bS oI (ar (af L) aH) k=Z (.aw<|b2 M m,Vu):=by
 have I:(b2 M m).length<=1000:=by unfold b2;rw[a8];exact a
 have n:=Qk M m;have F:=UB aq m;have s:=Nh M m;simp -implicitDefEqProofs only[bS,ar,af,e,tD,gH,lI,vW,Ct,vn,oI,s,n,I,F,and_self,iQ]
inductive l_ (M:List ax):List a9->(ax->ax)->Prop where
 |nil:l_ M [] λc=>c
 |add {Wd:List a9}{m:ax->ax}{d:a9}:l_ M Wd m->gP M d->m d.1≠m d.2->l_ M (Wd++[d]) λc=>if m c=m d.1 then m d.2 else m c
def l_.O3(q:l_ M Wd m):∀d∈Wd,gP M d:=by
 induction q with
 |nil=>intro d e;cases e
 |add q t A a=>
  intro d e;rcases du.mp e with e|e
  ·exact a d e
  ·rw[cb.mp e];exact t
structure kU(M:List ax)(V7 Wd:List a9)(m:ax->ax):Prop where
 lK:l_ M Wd m
 aq:(Wd++V7).Nodup
 len:Wd.length+V7.length<=80
 mf:∀d∈V7,gP M d
 zb:∀d,gP M d->d∈V7\/m d.1=m d.2
def kU.drop(R:kU M V7 Wd m){r:Nat}{d:a9}(b:V7[r]?=Z d)(c:m d.1=m d.2):kU M (V7.eraseIdx r) Wd m:=by
 let⟨@h,j⟩:=eX.mp b;refine⟨R.lK,R.aq.sublist<|RN (x7 _ _) _,?_,λf a=>R.mf f<|xv a,λf a=>?_⟩
 ·have:=R.len;rw[xZ,aF h];lia
 ·rcases R.zb f a with e|e
  ·by_cases i:f=d
   ·rw[i];exact .inr c
   ·left;rw[List.mem_eraseIdx_iff_getElem?];let⟨@g,Vl⟩:=List.mem_iff_getElem?.mp e;exact⟨g,λp=>i (by rw[p,b]at Vl;exact (Option.some.inj Vl).symm),Vl⟩
  ·exact .inr e
theorem pz{VM:Type}:∀{I:List VM}{r:Nat} (e:r<I.length),(I[r]::I.eraseIdx r).Perm I
 |h::I,0,_=>List.Perm.refl _
 |h::I,r+1,e=>(List.Perm.swap _ _ _).trans (.cons h<|pz<|x5 e)
def kU.take(R:kU M V7 Wd m){r:Nat}{d:a9}(b:V7[r]?=Z d)(j:m d.1≠m d.2):kU M (V7.eraseIdx r) (Wd++[d]) (λc=>if m c=m d.1 then m d.2 else m c):=by
 let⟨@g,k⟩:=eX.mp b;have h:(d::V7.eraseIdx r).Perm V7:=by
  rw[<-k];exact pz g
 refine⟨.add R.lK (R.mf d<|eC b) j,?_,?_,λf a=>R.mf f<|xv a,λf a=>?_⟩
 ·rw[bk];exact (dZ Wd h).nodup_iff.mpr R.aq
 ·have:=R.len;rw[xZ,aF g,dd,iJ];omega
 ·by_cases i:f=d
  ·right;subst i;show (if m f.1=m f.1 then _ else _)=(if m f.2=m f.1 then _ else _);rw[aF rfl];split<;>rfl
  ·rcases R.zb f a with e|e
   ·left;rcases cm.mp (h.mem_iff.mpr e) with e|e
    ·exact absurd e i
    ·exact e
   ·right;show (if m f.1=m d.1 then _ else _)=(if m f.2=m d.1 then _ else _);rw[e]
def yl(h c:ax):gq (.im<|ag h) (.im<|ag c)=Z (.im<|.av<|!decide (h=c)):=by
 have e:=m2 h c;show (if aa.aZ 8 (ag h)=V then Z (ai.im<|.av<|!cn (ag h) (ag c)) else X)=_;rw[aF (sl h),e]
def Ed(h c:ax):fb (.im<|ag h) (.im<|ag c)=Z (.im<|.av<|decide (h=c)):=by
 have e:=m2 h c;show (if aa.aZ 8 (ag h)=V then Z (ai.im<|.av<|cn (ag h)<|ag c) else X)=_;rw[aF (sl h),e]
def ov(m:ax->ax){o:ax}(e:o∈M):a7 (.aw<|b2 M m) (.im<|ag o)=Z (.im<|ag<|m o):=by
 have L:=KA m e;show (if aa.keys 7 (b7 o)=V then (en (b2 M m)<|b7 o).map ai.im else X)=_;rw[aF (pL o),L];rfl
def CA(M:List a9):dC [bj M]=Z (aK (M.length:Int)):=by
 show Z (aK ((M.map aP).length:Int))=_;rw[a8]
def pF(P:ct)(g r y V2 a b:Int):Prop:=(∃h f z,uw P.cM P.lP [.int g,.int r]=Z h/\jA P.kt h 0=Z (.fn f)/\jA P.kt h 1=Z (.fn z)/\jA P.kt f 0=Z (.int y)/\jA P.kt f 1=Z (.int V2)/\jA P.kt z 0=Z (.int a)/\jA P.kt z 1=Z (.int b))
structure n7(P:ct):Prop where
 gi:pF P 0 0 (-1) 0 0 1
 cp:pF P 0 1 0 1 1 0
 cv:pF P 1 1 1 0 0 (-1)
 de:pF P 1 0 0 (-1) (-1) 0
def zF{P:ct}{f:aj}(a:jA P.kt f 0=Z (.int y))(t:jA P.kt f 1=Z (.int V2))(h:0<=l)(i:l<10):kh P [.im (ag o),.im<|.fn f,aK l]=Z (.im<|ag (o.1+y*l,o.2+V2*l),[.im (ag o),.im<|.fn f,aK l]):=by
 have b:iz y l=V:=lu ⋯ ⋯;have c:iz V2 l=V:=lu ⋯ ⋯;have WC:d8 P.kt P.cM (.im<|ag o) (aK 0)=Z (aK o.1):=rfl;have d:d8 P.kt P.cM (.im<|ag o) (aK 1)=Z (aK o.2):=rfl;have e:d8 P.kt P.cM (.im<|.fn f) (aK 0)=Z (aK y):=congrArg (Option.map ai.im) a;have g:d8 P.kt P.cM (.im<|.fn f) (aK 1)=Z (aK V2):=congrArg (Option.map ai.im) t;unfold kh zA;exact nv [Z (.im<|ag o),Z<|.im<|.fn f,Z<|aK l] rfl (dx<|kp (bU (aT<|bX (aT<|cL WC) (aT<|bX (aT<|cL e) rfl rfl rfl<|jS b) rfl rfl rfl)<|bU (aT<|bX (aT<|cL d) (aT<|bX (aT<|cL g) rfl rfl rfl<|jS c) rfl rfl rfl) rfl) rfl (g8 rfl) rfl) rfl
def vR(c:ah[0]?=Z n):iq [aE ah,.im<|ag o]=Z (.im<|ag<|av n o,[aE ah,.im<|ag o]):=by
 have D:fP (ah.map ag) 0=Z (ag n):=pB ∅ ⇑c;have a:a7 (.im<|ag o) (aK 0)=Z (aK o.1):=rfl;have b:a7 (.im<|ag o) (aK 1)=Z (aK o.2):=rfl;have d:a7 (.im<|ag n) (aK 0)=Z (aK n.1):=rfl;have cE:a7 (.im<|ag n) (aK 1)=Z (aK n.2):=rfl;have V1:a7 (aE ah) (aK 0)=Z (.im<|ag n):=by
  show (fP (ah.map ag) 0).map ai.im=_;rw[D];rfl
 unfold iq AP;exact nv [Z (aE ah),Z<|.im<|ag o] rfl (dx (kp (bU (aT (bX (aT<|cL a) (aT (bX (aT<|bX (aT<|cL a) (aT<|bX (aT<|cL V1) rfl rfl rfl d) rfl rfl rfl) rfl rfl rfl (jG ∅))) rfl rfl rfl)) (bU (aT (bX (aT<|cL b) (aT (bX (aT<|bX (aT<|cL b) (aT<|bX (aT<|cL V1) rfl rfl rfl cE) rfl rfl rfl) rfl rfl rfl (jG ∅))) rfl rfl rfl)) rfl)) rfl (g8 rfl) rfl)) rfl
def Cb(d:a9):aa.aZ 8 (aP d)=V:=rfl
theorem Du:∀Vw:List a9,aa.dj 8 (Vw.map aP)=V
 |[]=>rfl
 |m::s=>by rw[b4,aa.dj,Cb,Du s];rfl
def ET(h c:a9):cn (aP h) (aP c)=decide (h=c):=by
 show (cn (ag h.1) (ag c.1)&&(cn (ag h.2) (ag c.2)&&V))=_;rw[m2,m2];let⟨a,Wt⟩:=h;let⟨cE,cQ⟩:=c;by_cases t:a=cE<;>by_cases A:Wt=cQ<;>simp[t,A]
def KZ(Vw:List a9)(d:a9):fj (aP d) (.im<|.tup<|Vw.map aP)=Z (decide (d∈Vw)):=by
 rw[Eb,Cb,Du,oU];show (if (V&&V)=V then _ else _)=_;rw[aF (show (V&&V)=V from rfl)];congr 1;rw[k5,j4,gD];constructor
 ·rintro⟨f,a,e⟩;have:decide (f=d)=V:=by rw[<-ET];exact e
  rw[<-fE this];exact a
 ·intro e;refine⟨d,e,?_⟩;show cn (aP d) (aP d)=V;rw[ET];exact di rfl
def pa(Vv:List a9):Prop:=(∀d∈Vv,d.1.1<d.2.1\/(d.1.1=d.2.1/\d.1.2<d.2.2))
def pa.of(e:∀d∈Vv,gP M d):pa Vv:=λd a=>by
 have:=(e d a).2.2;rcases this with e|e
 ·rw[e];exact .inr ⟨rfl,by show d.1.2<d.1.2+2;lia⟩
 ·rw[e];exact .inl (by show d.1.1<d.1.1+2;lia)
def O9(a:pa Vv)(h c:ax):decide (h9 h c∈Vv)=i1 Vv h c:=by
 unfold i1;rw[k5,gD,gD];by_cases t:bz (ag h) (ag c)=V
 ·have b:=pW.mp t;have A:¬ bz (ag c) (ag h)=V:=λi=>by have:=pW.mp i;lia
  have d:h9 h c=(h,c):=by unfold h9;rw[aF t,aJ A]
  rw[d];constructor
  ·exact .inl
  ·rintro (e|e)
   ·exact e
   ·have:=a _ e;simp only at this;lia
 ·by_cases A:bz (ag c) (ag h)=V
  ·have f:=pW.mp A;have d:h9 h c=(c,h):=by unfold h9;rw[aJ t,aF A]
   rw[d];constructor
   ·exact .inr
   ·rintro (e|e)
    ·have:=a _ e;simp only at this;lia
    ·exact e
  ·have b:=λi=>t (pW.mpr i);have f:=λi=>A (pW.mpr i);have d:h=c:=dQ ⋯ ⋯;subst d;have d:h9 h h=(h,h):=by unfold h9;rw[aJ t]
   rw[d];exact⟨.inl,λe=>e.elim id id⟩
def LU{P:ct}{r d e:Int}(u:pF P g r y V2 d e)(w:ah[0]?=Z n)(x:av n o=c)(t:o.1-c.1=g)(A:o.2-c.2=r)(B:pa Vv):
  lC P [aE ah,.im<|.tup<|Vv.map aP,.im<|ag o]=Z (.im<|ag<|if i1 Vv c (c.1+y*2,c.2+V2*2)=V then (o.1+y*1,o.2+V2*1) else (o.1+d*1,o.2+e*1),[aE ah,.im<|.tup<|Vv.map aP,.im<|ag o]):=by
 let⟨h,f,@z,gi,cp,cv,de,j,C,D⟩:=u;have m:=vR (o:=o) w;rw[x]at m;have E:=zF (o:=c) (l:=2) de j ∅ ∅;have F:=zF (o:=o) (l:=1) de j ∅ ∅;have H:=zF (o:=o) (l:=1) C D ∅ ∅;have I:d8 P.kt P.cM (.im<|ag o) (aK 0)=Z (aK o.1):=rfl;have J:d8 P.kt P.cM (.im<|ag o) (aK 1)=Z (aK o.2):=rfl;have L:d8 P.kt P.cM (.im<|ag c) (aK 0)=Z (aK c.1):=rfl;have cE:d8 P.kt P.cM (.im<|ag c) (aK 1)=Z (aK c.2):=rfl;have a_:d8 P.kt P.cM (.im<|.fn P.lP) (.im<|.tup [.int g,.int r])=Z (.im<|.fn h):=by
  show (if aa.keys 7 [.int g,.int r]=V then (uw P.cM P.lP [.int g,.int r]).map λv=>ai.im (.fn v) else X)=_;rw[aF (show aa.keys 7 [.int g,.int r]=V from rfl),gi];rfl
 have p:d8 P.kt P.cM (.im<|.fn h) (aK 0)=Z (.im<|.fn f):=by
  show (jA P.kt h 0).map ai.im=_;rw[cp];rfl
 have M:d8 P.kt P.cM (.im<|.fn h) (aK 1)=Z (.im<|.fn z):=by
  show (jA P.kt h 1).map ai.im=_;rw[cv];rfl
 have le:=PJ c (c.1+y*2,c.2+V2*2);have q:=KZ Vv (h9 c (c.1+y*2,c.2+V2*2));rw[O9 B]at q;have N:e5 (.im<|.tup<|eF<|h9 c (c.1+y*2,c.2+V2*2)) (.im<|.tup<|Vv.map aP)=Z (.im<|.av<|i1 Vv c (c.1+y*2,c.2+V2*2)):=by
  show (fj (aP<|h9 c (c.1+y*2,c.2+V2*2))<|.im<|.tup<|Vv.map aP).map (λs=>ai.im<|.av s)=_;rw[q];rfl
 unfold lC zT;obtain⟨k,a⟩:∃k:aY,k=[Z (aE ah),Z<|.im<|.tup<|Vv.map aP,Z<|.im<|ag o,Z<|.im<|ag c,Z<|.im<|.fn h]:=⟨_,rfl⟩;have O:bZ 3 (bF 2 G.iq<|ar (ak 0)<|ar (ak 2) aH) [Z (aE ah),Z<|.im<|.tup<|Vv.map aP,Z<|.im<|ag o,X,X]=Z (.aX,[Z (aE ah),Z<|.im<|.tup<|Vv.map aP,Z<|.im<|ag o,Z<|.im<|ag c,X]):=by
  exact ix (ey rfl rfl rfl m) (show 3<5 by decide) rfl
 have R:bZ 4 (aC (d8 P.kt P.cM) (af<|aG<|.fn P.lP)<|af<|dp<|ar (af<|aC gs (af<|aC (d8 P.kt P.cM) (ak 2)<|af<|aG<|.int 0)<|af<|aC (d8 P.kt P.cM) (ak 3)<|af<|aG<|.int 0)<|ar (af<|aC gs (af<|aC (d8 P.kt P.cM) (ak 2)<|af<|aG<|.int 1)<|af<|aC (d8 P.kt P.cM) (ak 3)<|af<|aG<|.int 1) aH) [Z (aE ah),Z<|.im<|.tup<|Vv.map aP,Z<|.im<|ag o,Z<|.im<|ag c,X]=Z (.aX,k):=by
  rw[a];subst t;subst A;exact fG (bX rfl (aT<|kp (bU (aT<|bX (aT<|cL I) (aT<|cL L) rfl rfl rfl)<|bU (aT<|bX (aT<|cL J) (aT<|cL cE) rfl rfl rfl) rfl) rfl (g8 rfl) rfl) rfl rfl a_) (show 4<5 by decide) rfl
 have b:bK (aC e5 (af<|bF 2 G.p8<|ar (ak 3)<|ar (af<|bF 3 (G.kh P)<|ar (ak 3)<|ar (af<|aC (d8 P.kt P.cM) (ak 4)<|af<|aG<|.int 0)<|ar (af<|aG<|.int 2) aH) aH)<|ak 1) k=Z (i1 Vv c (c.1+y*2,c.2+V2*2),k):=by
  rw[a];exact y2 (iB (c3<|ey (dH rfl<|dH (c3<|ey (dH rfl<|dH (c3<|iB rfl rfl rfl rfl p) rfl) rfl rfl E) rfl) rfl rfl le) rfl rfl rfl N)
 have S:cw (bF 3 (G.kh P)<|ar (ak 2)<|ar (af<|aC (d8 P.kt P.cM) (ak 4)<|af<|aG<|.int 0)<|ar (af<|aG<|.int 1) aH) k=Z (.ej<|.im<|ag (o.1+y*1,o.2+V2*1),k):=by
  rw[a];exact dx (eG (bU rfl<|bU (aT<|cL p) rfl) rfl rfl F rfl)
 have T:cw (bF 3 (G.kh P)<|ar (ak 2)<|ar (af<|aC (d8 P.kt P.cM) (ak 4)<|af<|aG<|.int 1)<|ar (af<|aG<|.int 1) aH) k=Z (.ej<|.im<|ag (o.1+d*1,o.2+e*1),k):=by
  rw[a];exact dx (eG (bU rfl<|bU (aT<|cL M) rfl) rfl rfl H rfl)
 refine nv k rfl ((ee O).trans<|(ee R).trans ?_) (by rw[a];rfl);by_cases i:i1 Vv c (c.1+y*2,c.2+V2*2)=V
 ·rw[aF i];rw[i]at b;exact vY ((uJ b).trans S)
 ·rw[aJ i];rw[Bool.not_eq_true]at i;rw[i]at b;exact (ee<|vw b).trans T
def Y(c:ax):Nat->ax
 |0=>(c.1-1,c.2)
 |1=>(c.1,c.2+1)
 |2=>(c.1+1,c.2)
 |_=>(c.1,c.2-1)
def N7(Vv:List a9)(c:ax){q:Nat}(a:q<4):gK (aX Vv (c,q))=if i1 Vv c (hO c q)=V then Y (cl c q) q else cl c ((q+1)%4):=by
 unfold aX;dsimp only;split
 ·match q,a with
  |0,_=>simp[gK,cl,hO,Y];lia
  |1,_=>simp[gK,cl,hO,Y];lia
  |2,_=>simp[gK,cl,hO,Y];lia
  |3,_=>simp[gK,cl,hO,Y];lia
 ·rfl
def NH{P:ct}(d:n7 P){M ah:List ax}{Vv:List a9}{c n:ax}{q:Nat}(VE:er M)(g:ah[0]?=Z n)(h:n∈M)(i:c∈M)(e:q<4)(j:pa Vv):
  lC P [aE ah,.im<|.tup<|Vv.map aP,.im<|ag<|cl c q]=Z (.im<|ag<|gK<|aX Vv (c,q),[aE ah,.im<|.tup<|Vv.map aP,.im<|ag<|cl c q]):=by
 have f:=VE.par c i n h;have k:=(Gt f.1 f.2 e).1;rw[N7 Vv c e];have fin:∀{y V2 a b:Int},pF P ((cl c q).1-c.1) ((cl c q).2-c.2) y V2 a b->(c.1+y*2,c.2+V2*2)=hO c q->((cl c q).1+y*1,(cl c q).2+V2*1)=Y (cl c q) q->((cl c q).1+a*1,(cl c q).2+b*1)=cl c ((q+1)%4)->
   lC P [aE ah,.im<|.tup<|Vv.map aP,.im<|ag<|cl c q]=Z (.im<|ag<|if i1 Vv c (hO c q)=V then Y (cl c q) q else cl c ((q+1)%4),[aE ah,.im<|.tup<|Vv.map aP,.im<|ag<|cl c q]):=λH l m o=>by
  rw[LU H g k rfl rfl j,l,m,o]
 match q,e with
 |0,_=>
  refine fin (y := -1) (V2:=0) (a:=0) (b:=1) ?_ (dQ ?_ ?_) (dQ ?_ ?_) (dQ ?_ ?_)
  ·rw[show (cl c 0).1-c.1=0 by simp[cl],show (cl c 0).2-c.2=0 by simp[cl]];exact d.gi
  all_goals (simp[cl,hO,Y];try lia)
 |1,_=>
  refine fin (y:=0) (V2:=1) (a:=1) (b:=0) ?_ (dQ ?_ ?_) (dQ ?_ ?_) (dQ ?_ ?_)
  ·rw[show (cl c 1).1-c.1=0 by simp[cl],show (cl c 1).2-c.2=1 by simp[cl];lia];exact d.cp
  all_goals (simp[cl,hO,Y])
 |2,_=>
  refine fin (y:=1) (V2:=0) (a:=0) (b := -1) ?_ (dQ ?_ ?_) (dQ ?_ ?_) (dQ ?_ ?_)
  ·rw[show (cl c 2).1-c.1=1 by simp[cl];lia,show (cl c 2).2-c.2=1 by simp[cl];lia];exact d.cv
  all_goals (simp[cl,hO,Y];try lia)
 |3,_=>
  refine fin (y:=0) (V2 := -1) (a := -1) (b:=0) ?_ (dQ ?_ ?_) (dQ ?_ ?_) (dQ ?_ ?_)
  ·rw[show (cl c 3).1-c.1=1 by simp[cl];lia,show (cl c 3).2-c.2=0 by simp[cl]];exact d.de
  all_goals (simp[cl,hO,Y];try lia)
def tS(VE:er M)(VN:ah.Perm (cells M))(V7:dk ah):∃n,ah[0]?=Z n/\n∈M:=by
 cases ah with
 |nil=>
  have t:=VN.length_eq;rw[kE]at t;have:=oj.mpr VE.ne;simp at t;lia
 |cons n s=>
  refine⟨n,rfl,?_⟩;let⟨@c,a,⟨@q,b,d⟩⟩:=kc.mp (VN.mem_iff.mp<|.head _);have e:c∈n::s:=VN.mem_iff.mpr (kc.mpr ⟨c,a,0,by decide,rfl⟩);by_cases i:c=n
  ·rw[<-i];exact a
  ·have f:c∈s:=(cm.mp e).resolve_left i;unfold dk at V7;rw[b4,hq]at V7;have lt:=pW.mp (V7.1 _<|vO f);have F:=vu.mp (ly c b);rw[<-d]at F;lia
end G
namespace G
section
variable{VM:Type}[DecidableEq VM]
theorem Gh:∀{I l:List VM},I.Nodup->(∀f∈I,f∈l)->I.length<=l.length
 |[],l,_,_=>hl _
 |f::I,l,aq,j=>by
  have b:=j f (.head _);let@⟨c,Wu⟩:=gd.mp aq;have m:=List.perm_cons_erase b;have:=Gh Wu (l:=l.erase f) λz a=>(yS (λd=>c (by rw[<-d];exact a))).mpr (j z<|.tail _ a);have p:=m.length_eq;rw[dn]at p ⊢;lia
def BW(F:VM->VM)(j:VM):Nat->VM
 |0=>j
 |x+1=>F (BW F j x)
variable{F L:VM->VM}{a:List VM}
inductive ht (F:VM->VM) (a:List VM):VM->VM->Prop where
 | step {f:VM}:f∈a->ht F a f (F f)
 | refl {f:VM}:ht F a f f
 | symm {f z:VM}:ht F a f z->ht F a z f
 | trans {f z i:VM}:ht F a f z->ht F a z i->ht F a f i
end
def sd(M:List ax):List (ax×Nat):=(M.flatMap λc=>[(c,0),(c,1),(c,2),(c,3)])
end G
namespace G
open L2
def i_(Vv:List a9)(n:ax)(x:Nat):List ax:=((range x).map λg=>gK (BW (aX Vv) (n,0) g))
def i9(g:Int):Int:=(if g<0 then -g else g)
end G
namespace L2
open Spec PyProof.Rows
end L2
namespace G
open L2
variable{L:ay ai}{N:cj}{s e v:ai}{k:aY}{w ah U M:List ax}{f o c:ax}{p m:ax->ax}{Wd V7:List a9}{Wl VZ:Option ai}{x:Nat}
def G3:bu:=((cw<|fX<|eR (bK<|qt "int"<|ak 0)<|bK<|fX<|hz<|bK<|qt "bool"<|ak 0))
def vj:cj:=(cJ 1 1 [0] G3)
def EY:bu:=((cw<|fX<|eR (bK<|qt "tuple"<|ak 0)<|eR (bK<|aC fb (af<|bS dC<|ar (ak 0) aH)<|af<|aG<|.int 2)<|eR (bK<|bF 1 G.vj<|ar (af<|aC a7 (ak 0)<|af<|aG<|.int 0) aH)<|bK<|bF 1 G.vj<|ar (af<|aC a7 (ak 0)<|af<|aG<|.int 1) aH))
def uS:cj:=(cJ 1 1 [0] EY)
def kK:bu:=((fR (aG<|.av V)<|iY 1 (dB 2) eP))
def v9:bu:=((bf (bZ 1 lR)<|bf (dT (cc<|ak 0) (bx 2) G.kK)<|cw<|dB 1))
def qj:cj:=(cJ 1 3 [0] v9)
def DQ:bu:=((bf (bZ 1<|aC a7 (ak 0)<|af<|aG<|.int 0)<|bf (bZ 2<|aC a7 (ak 0)<|af<|aG<|.int 1)<|cw<|fp<|ar (af<|dp<|ar (af<|aC gs (ak 1)<|af<|aG<|.int 1)<|ar (ak 2) aH)<|ar (af<|dp<|ar (ak 1)<|ar (af<|aC gs (ak 2)<|af<|aG<|.int 1) aH)<|ar (af<|dp<|ar (ak 1)<|ar (af<|aC dg (ak 2)<|af<|aG<|.int 1) aH)<|ar (af<|dp<|ar (af<|aC dg (ak 1)<|af<|aG<|.int 1)<|ar (ak 2) aH) aH))
def t6:cj:=(cJ 1 3 [0] DQ)
def zj:bu:=((cw<|fp<|ar (af<|dp<|ar (af<|aC gs (af<|aC a7 (ak 0)<|af<|aG<|.int 0)<|af<|aG<|.int 2)<|ar (af<|aC a7 (ak 0)<|af<|aG<|.int 1) aH)<|ar (af<|dp<|ar (af<|aC a7 (ak 0)<|af<|aG<|.int 0)<|ar (af<|aC gs (af<|aC a7 (ak 0)<|af<|aG<|.int 1)<|af<|aG<|.int 2) aH)<|ar (af<|dp<|ar (af<|aC a7 (ak 0)<|af<|aG<|.int 0)<|ar (af<|aC dg (af<|aC a7 (ak 0)<|af<|aG<|.int 1)<|af<|aG<|.int 2) aH)<|ar (af<|dp<|ar (af<|aC dg (af<|aC a7 (ak 0)<|af<|aG<|.int 0)<|af<|aG<|.int 2)<|ar (af<|aC a7 (ak 0)<|af<|aG<|.int 1) aH) aH))
def jH:cj:=(cJ 1 1 [0] zj)
def su:bu:=((bf (bZ 6<|aC a7 (af<|bF 1 G.jH<|ar (af<|aC a7 (ak 4)<|af<|bF 2 G.dV<|ar (ak 0)<|ar (af<|bS dC<|ar (ak 4) aH) aH) aH)<|af<|bF 2 G.dV<|ar (ak 0)<|ar (af<|aG<|.int 4) aH)<|eg (eR (bK<|aC ig (ak 6)<|ak 4)<|eR (bK<|iZ gj gj (af<|aG<|.int 0) (af<|aC a7 (ak 6)<|af<|aG<|.int 0)<|af<|aG<|.int 28)<|bK<|iZ gj gj (af<|aG<|.int 0) (af<|aC a7 (ak 6)<|af<|aG<|.int 1)<|af<|aG<|.int 28) (gh<|eI g4 4 gW<|ar (ak 6) aH) fH))
def yA:bu:=((bf (n6 2 3<|ar (af<|bF 2 G.dV<|ar (ak 0)<|ar (af<|aG<|.int 2) aH)<|ar (af<|bF 2 G.dV<|ar (ak 0)<|ar (af<|aG<|.int 2) aH) aH)<|bf (bZ 4<|fp<|ar (af<|dp<|ar (af<|aC dg (af<|aG<|.int 8)<|ak 2)<|ar (af<|aC dg (af<|aG<|.int 8)<|ak 3) aH) aH)<|bf (dT (i8<|ar (af<|bF 2 G.dV<|ar (ak 0)<|ar (ak 1) aH) aH) (bx 5) G.su)<|cw<|bS fa<|ar (ak 4) aH))
def ta:cj:=(cJ 2 7 [0,1] yA)
def yD(r:aj):bu:=((bf (gL r 0 0 "first"<|dB 1)<|bf (gL r 0 1 "ground"<|dB 1)<|bf (gL r 0 2 "branches"<|dB 2)<|bf (gL r 0 3 "place"<|dB 3)<|bf (gL r 0 4 "over"<|uT (dB 3)<|aG<|.av V)<|gL r 0 5 "taken" lR))
def sF(r:aj):cj:=(cJ 4 4 [0,1,2,3] (yD r))
def rd:bu:=((gh<|eI g4 1 kI<|ar (af<|fp<|ar (af<|dp<|ar (ak 2)<|ar (ak 3) aH)<|ar (af<|dp<|ar (ak 2)<|ar (af<|aC dg (ak 3)<|af<|aG<|.int 1) aH)<|ar (af<|dp<|ar (af<|aC dg (ak 2)<|af<|aG<|.int 1)<|ar (ak 3) aH)<|ar (af<|dp<|ar (af<|aC dg (ak 2)<|af<|aG<|.int 1)<|ar (af<|aC dg (ak 3)<|af<|aG<|.int 1) aH) aH) aH))
def Ag:bu:=((bf (bZ 1<|fp aH)<|bf (dT (cc<|ak 0) (jU 2<|gF (bx 2)<|gF (bx 3) ki) G.rd)<|cw<|bS iF<|ar (af<|bS fa<|ar (ak 1) aH) aH))
def sk:cj:=(cJ 1 4 [0] Ag)
def zt:ay ai:=((dp<|ar (ak 2)<|ar (ak 0) aH))
def wu:ay Bool:=((bK<|aC e5 (ak 0)<|ak 1))
def ql:bu:=((gh<|eI g4 2 kI<|ar (af<|dv 1 [1,3] (cc<|af<|ma (af<|bF 1 G.jH<|ar (ak 3) aH) (nA<|aG<|.int 2) mZ) (bx 0) G.wu G.zt) aH))
def uG:ay ai:=((dp<|ar (ak 0)<|ar (ak 0) aH))
def oi:bu:=((fR (kB (bK<|aC fb (af<|aC a7 (ak 4)<|ak 3)<|ak 9) (aC a7 (ak 4)<|ak 7)<|aC a7 (ak 4)<|ak 3)<|iY 4 (dB 3) eP))
def rZ:bu:=((bf (fR (eI g4 2 k7<|ar (af<|bF 2 G.dV<|ar (ak 0)<|ar (af<|bS dC<|ar (ak 2) aH) aH) aH)<|jU 2<|gF (bx 7)<|gF (bx 8) ki)<|eg (bK<|aC gq (af<|aC a7 (ak 4)<|ak 7)<|af<|aC a7 (ak 4)<|ak 8) (bf (bZ 9<|aC a7 (ak 4)<|ak 8)<|bf (dT (cc<|ak 1) (bx 3) G.oi)<|gh<|eI g4 5 gW<|ar (af<|dp<|ar (ak 7)<|ar (ak 8) aH) aH) fH))
def zN:bu:=((bf (bZ 2<|fp aH)<|bf (uM 1 (bx 3) G.ql)<|bf (bZ 4<|bS oI<|ar (af<|dv 1 [] (cc<|ak 1) (bx 0) g5 G.uG) aH)<|bf (bZ 5<|fp aH)<|bf (dT (i8<|ar (af<|bS dC<|ar (ak 2) aH) aH) (bx 6) G.rZ)<|cw<|bS iF<|ar (af<|bS fa<|ar (ak 5) aH) aH))
def sA:cj:=(cJ 2 10 [0,1] zN)
def yg(r:aj):bu:=((cw<|dI r 0 3 "place"))
def nu(r:aj):cj:=(cJ 1 1 [0] (yg r))
def zI(r:aj):bu:=((cw<|bS iF<|ar (af<|sq fa r 0 4 "over") aH))
def ni(r:aj):cj:=(cJ 1 1 [0] (zI r))
def kQ:bu:=((fR (aG<|.av V)<|iY 1 (dB 2) eP))
def qB:bu:=((bf (bZ 1 lR)<|bf (dT (i7 (cc<|ak 0)<|nr<|ak 0) (bx 2) G.kQ)<|cw<|dB 1))
def fJ:cj:=(cJ 1 3 [0] qB)
def qn:ay ai:=((dB 0))
def qP:ay Bool:=((bK<|aC ig (ak 0)<|ak 1))
def rO:bu:=((bf (bZ 2<|bF 1 G.fJ<|ar (ak 1) aH)<|cw<|dv 1 [2] (cc<|ak 0) (bx 0) G.qP G.qn))
def hx:cj:=(cJ 2 3 [0,1] rO)
def x2(r:aj):bu:=((cw<|bS iF<|ar (af<|qR G.hx (af<|dI r 0 1 "ground") r 0 4 "over") aH))
def m8(r:aj):cj:=(cJ 1 1 [0] (x2 r))
def x6(r:aj):bu:=((cw<|dI r 0 1 "ground"))
def k2(r:aj):cj:=(cJ 1 1 [0] (x6 r))
def zL(r:aj)(P:ct):bu:=((bf (gL r 0 3 "place"<|bF 3 (G.lC P)<|ar (af<|dI r 0 1 "ground")<|ar (af<|dI r 0 2 "branches")<|ar (af<|dI r 0 3 "place") aH)<|bf (fR (aG<|.av V)<|n2 r 0 4 "over" 3 "place" eP)<|cw<|dI r 0 3 "place"))
def oD(r:aj)(P:ct):cj:=(cJ 1 1 [0] (zL r P))
def zS(r:aj):bu:=((cw<|bS iF<|ar (af<|bF 2 G.hx<|ar (af<|qR G.hx (af<|dI r 0 0 "first") r 0 4 "over")<|ar (af<|dI r 0 1 "ground") aH) aH))
def mm(r:aj):cj:=(cJ 1 1 [0] (zS r))
def qh(c:ax):List ax:=([(c.1-2,c.2),(c.1,c.2-2),(c.1,c.2+2),(c.1+2,c.2)])
def F_(m:ax):jH [.im (ag m)]=Z (aV<|qh m,[.im (ag m)]):=by
 have a:fP [aa.int m.1,.int m.2] 0=Z (.int m.1):=rfl;have b:fP [aa.int m.1,.int m.2] 1=Z (.int m.2):=rfl;simp -implicitDefEqProofs [jH,zj,ag,qh,a,b]
def Nb{v:ax}(e:v∈qh c):∃j∈mG,v=(c.1+j.1,c.2+j.2):=by
 simp only[qh,cm,fW,i0]at e;rcases e with e|e|e|e
 ·exact⟨(-2,0),by simp[mG],by rw[e];exact dQ (by show c.1-2=c.1 + -2;omega) (by show c.2=c.2+0;omega)⟩
 ·exact⟨(0,-2),by simp[mG],by rw[e];exact dQ (by show c.1=c.1+0;omega) (by show c.2-2=c.2 + -2;omega)⟩
 ·exact⟨(0,2),by simp[mG],by rw[e];exact dQ (by show c.1=c.1+0;omega) (by show c.2+2=c.2+2;omega)⟩
 ·exact⟨(2,0),by simp[mG],by rw[e];exact dQ (by show c.1+2=c.1+2;omega) (by show c.2=c.2+0;omega)⟩
abbrev mV(e:ai)(l VW VZ:Option ai)(M:List ax)(a Wl:Option ai):aY:=[Z e,l,VW,VZ,Z<|aV M,a,Wl]
def Lb{l VW d:Option ai}(b:e0 (x+2) e)(L:nS 40 M)(an:M.length<40):
  ∃Vk f D,su (mV e l VW VZ M d Wl)=Z (.aX,mV Vk l VW VZ f d D)/\e0 x Vk/\nS 40 f/\f.length<=M.length+1:=by
 have ap:=oj.mpr L.ne;let⟨q,@t,E,F,Wt,Vt⟩:=iG (x:=x+1) (l:=(M.length:Int)) b ⋯ ⋯;obtain⟨o,r⟩:∃o,M[q.toNat]?=Z o:=⟨M[q.toNat]'⋯,by simp⟩;let⟨g,@as,H,V2,V8,h⟩:=iG (x:=x) (l:=4) Vt ⋯ ⋯;obtain⟨n,hd⟩:∃v,(qh o)[g.toNat]?=Z v:=⟨(qh o)[g.toNat]'(by show g.toNat<4;lia),by simp⟩;have I:=pB F r;have J:=pB V2 hd;let⟨@N,rfl⟩:=b.lst;let⟨@a1,rfl⟩:=Vt.lst;let⟨@j,rfl⟩:=h.lst;let⟨@v,O,P⟩:=Nb (eC hd);have aX:=F_ o;obtain⟨k,a⟩:∃k:aY,k=mV (.lst j) l VW VZ M d (Z<|.im<|ag n):=⟨_,rfl⟩;have u:bZ 6 (aC a7 (af<|bF 1 G.jH<|ar (af<|aC a7 (ak 4)<|af<|bF 2 G.dV<|ar (ak 0)<|ar (af<|bS dC<|ar (ak 4) aH) aH) aH)<|af<|bF 2 G.dV<|ar (ak 0)<|ar (af<|aG<|.int 4) aH) (mV (.lst N) l VW VZ M d Wl)=Z (.aX,k):=by
  rw[a];refine ix (iB (c3<|ey (dH (c3<|iB rfl (c3<|ey (dH rfl<|dH (c3<|mA rfl rfl<|TN M) rfl) rfl rfl E) rfl rfl<|congrArg (Option.map ai.im) I) rfl) rfl rfl aX) (c3<|ey rfl rfl rfl H) rfl rfl<|congrArg (Option.map ai.im) J) (show 6<7 by decide) rfl
 have R:=EI M n;have S:bK (aC ig (ak 6)<|ak 4) k=Z (!decide (n∈M),k):=by
  rw[a];show (((fj (ag n)<|aV M).map λs=>ai.im<|.av<|!s).map λv=>(v,_)).bind (λm=>(kW m.1).map λc=>(c,m.2))=_;rw[R];rfl
 have Wu:bK (iZ gj gj (af<|aG<|.int 0) (af<|aC a7 (ak 6)<|af<|aG<|.int 0)<|af<|aG<|.int 28) k=Z (decide (0<=n.1)&&decide (n.1<=28),k):=by
  rw[a];exact Ds rfl rfl rfl rfl rfl
 have T:bK (iZ gj gj (af<|aG<|.int 0) (af<|aC a7 (ak 6)<|af<|aG<|.int 1)<|af<|aG<|.int 28) k=Z (decide (0<=n.2)&&decide (n.2<=28),k):=by
  rw[a];exact Ds rfl rfl rfl rfl rfl
 have fin:∀c:Bool,c=(!decide (n∈M)&&((decide (0<=n.1)&&decide (n.1<=28))&&(decide (0<=n.2)&&decide (n.2<=28))))->
   eR (bK<|aC ig (ak 6)<|ak 4) (eR (bK<|iZ gj gj (af<|aG<|.int 0) (af<|aC a7 (ak 6)<|af<|aG<|.int 0)<|af<|aG<|.int 28)<|bK<|iZ gj gj (af<|aG<|.int 0) (af<|aC a7 (ak 6)<|af<|aG<|.int 1)<|af<|aG<|.int 28) k=Z (c,k):=by
  intro c U;rw[U];simp -implicitDefEqProofs only[eR,S,Wu,T,gH];generalize (decide (0<=n.1)&&decide (n.1<=28))=z;generalize (decide (0<=n.2)&&decide (n.2<=28))=i;cases decide (n∈M)<;>cases z<;>rfl
 unfold su;by_cases p:n∉M/\0<=n.1/\n.1<=28/\0<=n.2/\n.2<=28
 ·have bI:=fin V (by simp[p]);refine⟨.lst j,M++[n],Z<|.im<|ag n,(ee u).trans<|(uJ bI).trans ?_,h,?_,by simp⟩
  ·have al:M.length<100000:=⋯
   rw[a];exact jn (ka rfl rfl rfl rfl rfl (NF al) rfl)
  ·let@⟨w,y,A,B,C⟩:=p;rw[P]at w y A B C ⊢;exact L.add (eC r) O w ⋯ ⟨y,by dsimp only at A ⊢;lia,B,by dsimp only at C ⊢;lia⟩
 ·have am:=fin aA (by
   cases i:(!decide (n∈M)&&((decide (0<=n.1)&&decide (n.1<=28))&&(decide (0<=n.2)&&decide (n.2<=28)))) with
   |false=>rfl
   |true=>
    simp at i;exact absurd ⟨i.1,i.2.1.1,i.2.1.2,i.2.2.1,i.2.2.2⟩ p)
  exact⟨.lst j,M,Z<|.im<|ag n,(ee u).trans ((vw am).trans (by rw[a];rfl)),h,L,⋯⟩
def sj(c:ax):List ax:=([c,(c.1,c.2+1),(c.1+1,c.2),(c.1+1,c.2+1)])
def QH(c:ax):(sj c).Perm (e6 c):=.cons _ (.cons _<|.swap _ _ _)
def fM(M:List ax):List ax:=(M.flatMap sj)
theorem zm:∀M:List ax,(fM M).Perm (cells M)
 |[]=>.refl _
 |c::M=>by
  unfold fM cells;rw[nN,nN];exact (QH c).append (zm M)
theorem DW:∀(M done:List ax) (C VW VZ:Option ai),4*(done.length+M.length)<=1000->∃a b,dr (jU 2<|gF (bx 2)<|gF (bx 3) ki) rd (M.map ag) [C,Z<|aV<|fM done,VW,VZ]=Z (.aX,[C,Z<|aV<|fM<|done++M,a,b])
 |[],done,C,VW,VZ,_=>⟨VW,VZ,by rw[bQ];rfl⟩
 |c::M,done,C,VW,VZ,d=>by
  rw[dn]at d;let⟨a,@b,e⟩:=DW M (done++[c]) C (Z<|aK c.1) (Z<|aK c.2) (by rw[dd,iJ];lia);refine⟨a,b,?_⟩;have cl:(fM done).length=4*done.length:=by rw[(zm done).length_eq,kE]
  have f:(fM done).map ag++(sj c).map ag=(fM<|done++[c]).map ag:=by
   unfold fM;rw[List.flatMap_append];simp
  have g:(fM done).length+(sj c).length<=100000:=by show (fM done).length+4<=_;lia
  rw[b4,dr];dsimp only;rw[show jU 2 (gF (bx 2)<|gF (bx 3) ki) (.im<|ag c) [C,Z<|aV<|fM done,VW,VZ]=Z [C,Z<|aV<|fM done,Z<|aK c.1,Z<|aK c.2] from rfl];show (rd _).bind _=_;have h:kI (aV<|fM done) [aV (sj c)]=Z (.im .a3,aV<|fM<|done++[c]):=by
   show _=Z (ai.im .a3,ai.lst<|(fM<|done++[c]).map ag);rw[<-f];exact aF (by rw[a8,a8];exact g)
  rw[show rd [C,Z<|aV<|fM done,Z<|aK c.1,Z<|aK c.2]=Z (.aX,[C,Z<|aV<|fM<|done++[c],Z<|aK c.1,Z<|aK c.2]) from jn (ka rfl rfl rfl rfl rfl h (by rfl))];rw[show done++c::M=done++[c]++M by simp];exact e
def OK(VE:er M):∃ah,sk [aV M]=Z (aE ah,[aV M])/\ah.Perm (cells M)/\dk ah:=by
 have c:=VE.len;have a:=zm M;have cl:(fM M).length=4*M.length:=by rw[a.length_eq,kE]
 let⟨VW,@VZ,b⟩:=DW M [] (Z<|.dK) X X (by simp;lia);let⟨@ah,VN,S,V7⟩:=vg (a.nodup_iff.mpr VE.Aa) ⋯;refine⟨ah,?_,VN.trans a,V7⟩;unfold sk Ag;refine nv [Z (aV M),Z<|aV<|fM M,VW,VZ] rfl ((ee (Vu:=[Z (aV M),Z<|aV<|fM [],X,X]) rfl).trans<|(ee<|(oy (n:=Z (0,aV M)) (w:=M.map ag) (Vu:=[Z .dK,Z<|aV<|fM [],X,X]) rfl b).trans rfl).trans<|dx ?_) rfl;exact nd (HR (k:=[Z (aV M),Z<|aV<|fM M,VW,VZ]) (g:=1) rfl S)
def IL{Vw:List a9}{s:aY}(h:Vw.length<=1000):ql (Z e::Z (aV M)::Z (bj Vw)::Z (.im<|ag c)::s)=Z (.aX,Z e::Z (aV M)::Z (bj<|Vw++fc M c)::Z (.im<|ag c)::s):=by
 obtain⟨k,a⟩:∃k:aY,k=Z e::Z (aV M)::Z (bj Vw)::Z (.im<|ag c)::s:=⟨_,rfl⟩;have bo:ma (af<|bF 1 G.jH<|ar (ak 3) aH) (nA<|aG<|.int 2) mZ k=Z (aV [(c.1,c.2+2),(c.1+2,c.2)],k):=by
  rw[a];exact LG (c3<|ey rfl rfl rfl<|F_ c) rfl rfl rfl rfl
 have Vr:cc (af<|ma (af<|bF 1 G.jH<|ar (ak 3) aH) (nA<|aG<|.int 2) mZ) k=Z ((([(c.1,c.2+2),(c.1+2,c.2)]:List ax).map ag,X),k):=by
  have:=aT bo;unfold cc;rw[this];rfl
 have b:dv 1 [1,3] (cc<|af<|ma (af<|bF 1 G.jH<|ar (ak 3) aH) (nA<|aG<|.int 2) mZ) (bx 0) G.wu G.zt k=Z (bj<|fc M c,k):=by
  rw[a]at Vr ⊢;refine (r_ Vr (kr _ (λn=>decide (n∈M)) (λn=>aP (c,n)) [(c.1,c.2+2),(c.1+2,c.2)] [] (λn i=>?_) (by show 0+2<=100000;decide))).trans ?_
  ·refine⟨[Z (.im<|ag n),Z<|aV M,Z<|.im<|ag c],[Z (.im<|ag n),Z<|aV M,Z<|.im<|ag c],rfl,?_,λ_=>rfl,λ_=>⟨_,rfl,rfl⟩⟩;have d:=EI M n;show (((fj (ag n)<|aV M).map λs=>ai.im<|.av s).map λv=>(v,_)).bind (λm=>(kW m.1).map λc=>(c,m.2))=_;rw[d];rfl
  ·show Z (ai.lst _,_)=Z (ai.lst<|(fc M c).map aP,_);unfold fc;rw[fl];rfl
 have aZ:=sP M c;have f:(Vw.map aP).length+((fc M c).map aP).length<=100000:=by rw[a8,a8];lia
 have g:kI (bj Vw) [bj (fc M c)]=Z (.im .a3,bj<|Vw++fc M c):=by
  show (if _ then _ else _)=_;rw[aF f,<-fi]
 rw[a]at b;unfold ql;exact jn (ka rfl rfl (bU (aT b) rfl) rfl rfl g rfl)
def E9(M:List ax)(e:Option ai)(s:aY):nG (e::Z (aV M)::s) 1 (M.map ag)=V:=by
 unfold nG;simp
theorem Hs{e:ai}{M:List ax}{s:aY}:∀(a:List ax) (Vw:List a9) (VZ:Option ai),Vw.length+2*a.length<=1000->∃b,k3 1 (M.map ag) (bx 3) ql (a.map ag) (Z e::Z (aV M)::Z (bj Vw)::VZ::s)=Z (.aX,Z e::Z (aV M)::Z (bj<|Vw++a.flatMap (fc M))::b::s)
 |[],Vw,VZ,_=>⟨VZ,by
  rw[Ck,k3];dsimp only;rw[aF (E9 M _ _),FE,bQ]⟩
 |c::a,Vw,VZ,d=>by
  rw[dn]at d;have aZ:=sP M c;let⟨b,f⟩:=Hs a (Vw++fc M c) (Z<|.im<|ag c) (by rw[dd];lia);refine⟨b,?_⟩;rw[b4,k3];dsimp only;rw[aF (E9 M _ _),show bx 3 (.im<|ag c) (Z e::Z (aV M)::Z (bj Vw)::VZ::s)=Z (Z e::Z (aV M)::Z (bj Vw)::Z (.im<|ag c)::s) by simp];show (ql _).bind _=_;rw[IL ⋯,nN,<-bk];exact f
def fy(m:ax->ax)(n H:ax)(done:List ax)(f:ax):ax:=(if f∈done then (if m f=n then H else m f) else m f)
def KL{F:ax->ax}{u:ax}(a:c∈M)(b:M.length<100000):eP (.aw<|b2 M F) (.im<|ag c) (.im<|ag u)=Z (.aw<|b2 M λf=>if f=c then u else F f):=by
 have h:((b2 M F).any λe=>decide (e.1=b7 c))=V:=by
  unfold b2;rw[oU,j4];exact⟨c,a,by simp⟩
 show (if aa.keys 7 (b7 c)=V/\(b2 M F).length<100000 then Z (ai.aw<|fL (b2 M F) (b7 c)<|ag u) else X)=_;rw[aF ⟨pL c,by unfold b2;rw[a8];exact b⟩];unfold fL;rw[aF h];unfold b2;rw[fl];refine congrArg (λI=>Z<|ai.aw I) (lD λf W=>?_);show (if b7 f=b7 c then (b7 f,ag u) else (b7 f,ag<|F f))=(b7 f,ag<|if f=c then u else F f);by_cases i:f=c
 ·rw[aF i,aF (by rw[i])]
 ·rw[aJ i,aJ λd=>i<|kL d]
abbrev mC(e:ai)(VG:Option ai)(V7:List a9)(VZ:Option ai)(M:List ax)(F:ax->ax)(Wd:List a9)(Wl:Option ai)(d:a9)(n:ax):aY:=[Z e,VG,Z<|bj V7,VZ,Z<|.aw<|b2 M F,Z<|bj Wd,Wl,Z<|.im<|ag d.1,Z<|.im<|ag d.2,Z<|.im<|ag n]
def Qi{VG:Option ai}{done:List ax}{d:a9}(n:M.length<1000)(a:c∈M)(g:c∉done)(t:d.1∈M)(h:m d.1≠m d.2):
  oi (mC e VG V7 (Z<|.im<|ag c) M (fy m (m d.2) (m d.1) done) Wd Wl d<|m d.2)=Z (.aX,mC e VG V7 (Z<|.im<|ag c) M (fy m (m d.2) (m d.1)<|done++[c]) Wd Wl d<|m d.2):=by
 have j:fy m (m d.2) (m d.1) done c=m c:=aJ g;have k:fy m (m d.2) (m d.1) done d.1=m d.1:=by
  unfold fy;rw[aJ h];split<;>rfl
 have f:=ov (fy m (m d.2) (m d.1) done) a;have b:=ov (fy m (m d.2) (m d.1) done) t;rw[j]at f;rw[k]at b;have p:=Ed (m c) (m d.2);have Wb:=KL (F:=fy m (m d.2) (m d.1) done) (u:=if m c=m d.2 then m d.1 else m c) a ⋯;have l:(λf=>if f=c then (if m c=m d.2 then m d.1 else m c) else fy m (m d.2) (m d.1) done f)=fy m (m d.2) (m d.1) (done++[c]):=by
  funext f;unfold fy;by_cases i:f=c
  ·subst i;rw[aF rfl,aF<|dy _<|.head _]
  ·rw[aJ i];by_cases z:f∈done
   ·rw[aF z,aF<|dW _ z]
   ·rw[aJ z,aJ (by simp[z,i])]
 rw[l]at Wb;have h8:kB (bK<|aC fb (af<|aC a7 (ak 4)<|ak 3)<|ak 9) (aC a7 (ak 4)<|ak 7) (aC a7 (ak 4)<|ak 3) (mC e VG V7 (Z<|.im<|ag c) M (fy m (m d.2) (m d.1) done) Wd Wl d<|m d.2)=Z (.im<|ag<|if m c=m d.2 then m d.1 else m c,mC e VG V7 (Z<|.im<|ag c) M (fy m (m d.2) (m d.1) done) Wd Wl d<|m d.2):=by
  by_cases i:m c=m d.2
  ·rw[di i]at p;rw[aF i];exact Gs (d7<|bX (aT<|cL f) rfl rfl rfl p) (cL b)
  ·rw[dU i]at p;rw[aJ i];exact Hl (d7<|bX (aT<|cL f) rfl rfl rfl p) (cL f)
 unfold oi;refine ih h8 ?_;show ((eP (.aw<|b2 M<|fy m (m d.2) (m d.1) done) (.im<|ag c)<|.im<|ag<|if m c=m d.2 then m d.1 else m c).map λV9=>_)=_;rw[Wb];rfl
theorem H8{e:ai}{VG Wl:Option ai}{V7 Wd:List a9}{M:List ax}{m:ax->ax}{d:a9}(g:M.length<1000)(t:d.1∈M)(h:m d.1≠m d.2):∀(a done:List ax) (VZ:Option ai),(done++a).Nodup->(∀c∈a,c∈M)->
  ∃b,dr (bx 3) oi (a.map ag) (mC e VG V7 VZ M (fy m (m d.2) (m d.1) done) Wd Wl d<|m d.2)=Z (.aX,mC e VG V7 b M (fy m (m d.2) (m d.1)<|done++a) Wd Wl d<|m d.2)
 |[],done,VZ,_,_=>⟨VZ,by rw[bQ];rfl⟩
 |c::a,done,VZ,aq,Vy=>by
  let⟨b,i⟩:=H8 g t h a (done++[c]) (Z<|.im<|ag c) (by rw[bk];exact aq) λf j=>Vy f (.tail _ j);refine⟨b,?_⟩;have k:c∉done:=λl=>(cO.mp aq).2.2 c l c (.head _) rfl;rw[b4,dr];dsimp only;rw[show bx 3 (.im<|ag c) (mC e VG V7 VZ M (fy m (m d.2) (m d.1) done) Wd Wl d<|m d.2)=Z (mC e VG V7 (Z<|.im<|ag c) M (fy m (m d.2) (m d.1) done) Wd Wl d<|m d.2) from rfl];show (oi _).bind _=_;rw[Qi g (Vy c<|.head _) k t h];rw[show done++c::a=done++[c]++a by simp];exact i
def MD(M:List ax)(m:ax->ax)(n H:ax):b2 M (fy m n H M)=b2 M λf=>if m f=n then H else m f:=by
 unfold b2;refine lD λf a=>?_;unfold fy;rw[aF a]
def RK(m:ax->ax)(n H:ax):fy m n H []=m:=by
 funext f;exact aJ ↥0
def LM(e:∀h c,m h=m c↔p h=p c){J u:ax}(h c:ax):(if m h=m J then m u else m h)=(if m c=m J then m u else m c)↔(if p h=p u then p J else p h)=(if p c=p u then p J else p c):=by
 have t:=e h J;have A:=e c J;have a:=e h u;have b:=e c u;have d:=e h c;have f:=e J u;generalize m h=bT at *;generalize m c=kD at *;generalize m J=g at *;generalize m u=e_ at *;generalize p h=vd at *;generalize p c=uq at *;generalize p J=i at *;generalize p u=j at *;grind
abbrev hE(e:ai)(M:List ax)(V7:List a9)(VZ:Option ai)(p:ax->ax)(Wd:List a9)(Wl a b c:Option ai):aY:=[Z e,Z<|aV M,Z<|bj V7,VZ,Z<|.aw<|b2 M p,Z<|bj Wd,Wl,a,b,c]
def UN{D E g:Option ai}(VE:er M)(b:e0 (x+1) e)(R:kU M V7 Wd m)(j:∀h c,m h=m c↔p h=p c)(N:V7≠[]):
  ∃Vk s F v y O P S T,rZ (hE e M V7 VZ p Wd Wl D E g)=Z (.aX,hE Vk M s O y F Wl P S T)/\e0 x Vk/\kU M s F v/\(∀h c,v h=v c↔y h=y c)/\s.length+1=V7.length:=by
 have be:=oj.mpr N;have bi:=R.len;have av:=VE.len;let⟨u,@t,U,al,Wt,Vt⟩:=iG (x:=x) (l:=(V7.length:Int)) b (by omega) (by omega);obtain⟨d,o⟩:∃d,V7[u.toNat]?=Z d:=⟨V7[u.toNat]'(by omega),by simp⟩;let⟨@am,rfl⟩:=b.lst;let⟨@a,rfl⟩:=Vt.lst;have z:=R.mf d (eC o);have A:fR (eI g4 2 k7<|ar (af<|bF 2 G.dV<|ar (ak 0)<|ar (af<|bS dC<|ar (ak 2) aH) aH) aH) (jU 2<|gF (bx 7)<|gF (bx 8) ki) (hE (.lst am) M V7 VZ p Wd Wl D E g)=Z (.aX,hE (.lst a) M (V7.eraseIdx u.toNat) VZ p Wd Wl (Z<|.im<|ag d.1) (Z<|.im<|ag d.2) g):=by
  have an:(V7.map aP)[u.toNat]?=Z (aP d):=by rw[d3,o];rfl
  have ap:(0<=u/\u<((V7.map aP).length:Int)):=⟨al,by rw[a8];exact Wt⟩;have as:=zU aP V7 u.toNat;have B:k7 (bj V7) [aK u]=Z (.im<|aP d,bj<|V7.eraseIdx u.toNat):=by
   show (if 0<=u/\u<((V7.map aP).length:Int) then _ else X)=_;rw[aF ap,an,as];rfl
  exact ih (ka rfl rfl (dH (c3<|ey (dH rfl<|dH (c3<|mA rfl rfl<|CA V7) rfl) rfl rfl U) rfl) rfl rfl B (by rfl)) (by rfl)
 have H:(V7.eraseIdx u.toNat).length+1=V7.length:=by rw[xZ,aF (by omega)];omega
 have a1:=ov p z.1;have I:=ov p z.2.1;have a2:=yl (p d.1) (p d.2);obtain⟨k,q⟩:∃k:aY,k=hE (.lst a) M (V7.eraseIdx u.toNat) VZ p Wd Wl (Z<|.im<|ag d.1) (Z<|.im<|ag d.2) g:=⟨_,rfl⟩;have r:bK (aC gq (af<|aC a7 (ak 4)<|ak 7)<|af<|aC a7 (ak 4)<|ak 8) k=Z (!decide (p d.1=p d.2),k):=by
  rw[q];exact d7 (bX (aT<|cL a1) (aT<|cL I) rfl rfl a2)
 rw[<-q]at A;unfold rZ;by_cases i:p d.1=p d.2
 ·rw[di i]at r;exact⟨.lst a,_,Wd,m,p,VZ,Z<|.im<|ag d.1,Z<|.im<|ag d.2,g,(ee A).trans ((vw r).trans (by rw[q];rfl)),Vt,R.drop o<|(j _ _).mpr i,j,H⟩
 ·rw[dU i]at r;let⟨@C,J⟩:=H8 (e:=.lst a) (VG:=Z .dK) (Wl:=Wl) (V7:=V7.eraseIdx u.toNat) (Wd:=Wd) (M:=M) (m:=p) (d:=d) ⋯ z.1 i M [] VZ (by rw[gp];exact VE.aq) λ_ e=>e;rw[gp,RK]at J;refine⟨.lst a,_,Wd++[d],_,λf=>if p f=p d.2 then p d.1 else p f,C,Z<|.im<|ag d.1,Z<|.im<|ag d.2,Z<|.im<|ag<|p d.2,(ee A).trans<|(uJ r).trans<|(ee (Vu:=hE (.lst a) M (V7.eraseIdx u.toNat) VZ p Wd Wl (Z<|.im<|ag d.1) (Z<|.im<|ag d.2) (Z<|.im<|ag<|p d.2)) ?_).trans<|(ee (Vu:=hE (.lst a) M (V7.eraseIdx u.toNat) C (λf=>if p f=p d.2 then p d.1 else p f) Wd Wl (Z<|.im<|ag d.1) (Z<|.im<|ag d.2) (Z<|.im<|ag<|p d.2)) ?_).trans ?_,Vt,R.take o<|λe=>i<|(j _ _).mp e,λh c=>LM j h c,H⟩
  ·rw[q];exact fG (cL I) (show 9<10 by decide) rfl
  ·have:=(oy (VR:=bx 3) (c:=oi) (n:=Z (1,aV M)) (w:=M.map ag) (k:=hE (.lst a) M (V7.eraseIdx u.toNat) VZ p Wd Wl (Z<|.im<|ag d.1) (Z<|.im<|ag d.2) (Z<|.im<|ag<|p d.2)) (L:=cc (ak 1)) rfl J).trans rfl;refine this.trans ?_;have Wv:=MD M p (p d.2) (p d.1);show Z (kH.aX,hE (.lst a) M (V7.eraseIdx u.toNat) C (fy p (p d.2) (p d.1) M) Wd Wl (Z<|.im<|ag d.1) (Z<|.im<|ag d.2)<|Z<|.im<|ag<|p d.2)=_;unfold hE;rw[Wv]
  ·have bd:Wd.length<100000:=by omega
   have B:gW (bj Wd) [.im (aP d)]=Z (.im .a3,bj<|Wd++[d]):=by
    have:gW (bj Wd) [.im (aP d)]=Z (.im .a3,.lst<|Wd.map aP++[aP d]):=wc (by rw[a8];exact bd);rw[this];simp
   exact jn (ka rfl rfl rfl rfl rfl B rfl)
def SG(VE:er M)(b:e0 (x+100) e):∃(Vk:ai) (Vv Wd:List a9) (m:ax->ax),sA [e,aV M]=Z (.im<|.tup<|Vv.map aP,[Vk,aV M])/\e0 x Vk/\Vv.Perm Wd/\l_ M Wd m/\∀d,gP M d->m d.1=m d.2:=by
 have av:=VE.len;have aZ:(ef M).length<=2*M.length:=xU M M;have H:kU M (ef M) [] (λc=>c):=⟨.nil,by rw[gp];exact PH VE.aq,by
  rw[l1];lia,λd q=>yP.mp q,λd q=>.inl<|yP.mpr q⟩
 let⟨@a,rfl⟩:=b.lst;let⟨@j,y⟩:=Hs (e:=.lst a) (M:=M) (s:=[X,X,X,X,X,X]) M [] X (by simp;lia);rw[gp]at y;have J:dv 1 [] (cc<|ak 1) (bx 0) g5 G.uG [Z (.lst a),Z<|aV M,Z<|bj<|ef M,j,X,X,X,X,X,X]=Z (.lst<|M.map λc=>.tup [ag c,ag c],[Z (.lst a),Z<|aV M,Z<|bj<|ef M,j,X,X,X,X,X,X]):=by
  refine (r_ (w:=M.map ag) (n:=Z (1,aV M)) (Vu:=[Z (.lst a),Z .dK,Z<|bj<|ef M,j,X,X,X,X,X,X]) rfl (n0 _ (λo=>.tup [ag o,ag o]) _ (λo bi=>?_) ⋯)).trans rfl;exact⟨[Z (.im<|ag o)],_,[Z (.im<|ag o)],rfl,rfl,rfl,rfl⟩
 have L:bZ 4 (bS oI<|ar (af<|dv 1 [] (cc<|ak 1) (bx 0) g5 G.uG) aH) [Z (.lst a),Z<|aV M,Z<|bj<|ef M,j,X,X,X,X,X,X]=Z (.aX,[Z (.lst a),Z<|aV M,Z<|bj<|ef M,j,Z<|.aw<|b2 M λc=>c,X,X,X,X,X]):=
  (E3 (SF (m:=λc=>c) VE.aq ⋯ J) (show 4<10 by decide)).trans rfl;have z:(gX 0 (ef M).length).length=(ef M).length:=by rw[gX,a8,j1]
 let⟨VL,N,Vk,V7,Wd,m,p,A,B,C,D,E,rfl,T,l,bm,v⟩:=ts (VR:=bx 6) (c:=rZ) (w:=gX 0 (ef M).length) (λg k=>∃e V7 Wd m p VZ Wl r t u,k=hE e M V7 VZ p Wd Wl r t u/\e0 (x+100-g) e/\kU M V7 Wd m/\(∀h c,m h=m c↔p h=p c)/\V7.length+g=(ef M).length) (k:=hE (.lst a) M (ef M) j (λc=>c) [] X X X X) ⟨.lst a,ef M,[],_,_,j,X,X,X,X,rfl,b,H,λ_ W=>Iff.rfl,rfl⟩
  (λg f k O fe=>by
   let⟨e,V7,Wd,m,p,VZ,Wl,r,t,u,rfl,P,R,S,v⟩:=fe;have Vl:g<(ef M).length:=by
    have:=(eX.mp O).1
    rwa [z]at this
   let⟨Vk,U,al,am,an,bn,bs,bv,ca,d,T,l,ap,I⟩:=UN (x:=x+100-(g+1)) (VZ:=VZ) (Wl:=Z (.im f)) (D:=r) (E:=t) (g:=u) VE (P.mono ⋯) R S (λi=>by rw[i]at v;simp at v;lia);exact⟨hE e M V7 VZ p Wd (Z<|.im f) r t u,.aX,_,rfl,d,.inl rfl,Vk,U,al,am,an,_,_,_,_,_,rfl,T,l,ap,⋯⟩)
 rw[z]at T v;have i:V7=[]:=List.length_eq_zero_iff.mp ⋯;subst i;have F:=l.aq;have as:=l.len;rw[bQ]at F;rw[l1]at as;let⟨Vv,a1,cF,cd⟩:=Qw (k:=hE Vk M [] A p Wd B C D E) (g:=5) F ⋯ rfl;refine⟨Vk,Vv,Wd,m,?_,T.mono ⋯,a1,l.lK,λd q=>(l.zb d q).resolve_left ↥0⟩;let⟨@a2,rfl⟩:=T.lst;have bd:oW ((ef M).length:Int):=⟨⋯,⋯⟩;have be:=CA (ef M);unfold sA zN;refine nv (hE (.lst a2) M [] A p Wd B C D E) rfl ((ee (Vu:=[Z (.lst a),Z<|aV M,Z<|bj [],X,X,X,X,X,X,X]) rfl).trans<|(ee (Vu:=[Z (.lst a),Z<|aV M,Z<|bj<|ef M,j,X,X,X,X,X,X]) ?_).trans<|(ee L).trans<|(ee (Vu:=hE (.lst a) M (ef M) j (λc=>c) [] X X X X) rfl).trans<|(ee<|jt (tJ (bU (aT<|gu rfl rfl be) rfl) rfl bd) N rfl).trans<|dx<|nd cF) rfl;exact y
def a0(U:List ax):List (List aa×aa):=(U.map λo=>(b7 o,.av V))
def gU(U:List ax)(o:ax):List ax:=(if o∈U then U else U++[o])
def yV:f∈gU U o↔f∈U\/f=o:=by
 unfold gU;split
 ·rename_i e;exact⟨.inl,λi=>i.elim id λd=>by rw[d];exact e⟩
 ·simp
def J9(aq:U.Nodup)(o:ax):(gU U o).Nodup:=by
 unfold gU;split
 ·exact aq
 ·rename_i e;rw[cO];exact⟨aq,by simp,λh a c b d=>e (by rw[<-cb.mp b,<-d];exact a)⟩
def CS:((a0 U).any λa=>decide (a.1=b7 o))=decide (o∈U):=by
 rw[k5,gD];unfold a0;rw[oU,j4];constructor
 ·rintro⟨f,b,d⟩;rw[<-kL (fE d)];exact b
 ·exact λe=>⟨o,e,by simp⟩
def xM(a:U.length<1000):eP (.aw<|a0 U) (.im<|ag o) (.im<|.av V)=Z (.aw<|a0<|gU U o):=by
 show (if aa.keys 7 (b7 o)=V/\(a0 U).length<100000 then Z (ai.aw<|fL (a0 U) (b7 o)<|.av V) else X)=_;rw[aF ⟨pL o,by unfold a0;rw[a8];omega⟩];unfold fL gU;rw[CS];by_cases e:o∈U
 ·rw[aF (di e),aF e];refine congrArg (λI=>Z<|ai.aw I) ?_;unfold a0;rw[fl];refine lD λf W=>?_;show (if b7 f=b7 o then (b7 f,aa.av V) else (b7 f,.av V))=_;split<;>rfl
 ·rw[aJ (by simp[e]),aJ e];unfold a0;rw[fi];rfl
def yE(U:List ax)(o:ax):fj (ag o) (.aw<|a0 U)=Z (decide (o∈U)):=by
 have h:=CS (U:=U) (o:=o);have d:(en (a0 U)<|b7 o).isSome=decide (o∈U):=by
  rw[<-h];unfold en;rw[qH,k5,CV,j4]
 show (if aa.keys 7 (b7 o)=V then Z (en (a0 U)<|b7 o).isSome else X)=_;rw[aF (pL o),d]
def Jw(U:List ax):((a0 U).map λa=>aa.tup a.1)=U.map ag:=by
 unfold a0;rw[fl];rfl
theorem AF:∀(U done:List ax) (C VW:Option ai),(done++U).Nodup->(done++U).length<1000->∃a,dr (bx 2) kQ (U.map ag) [C,Z<|.aw<|a0 done,VW]=Z (.aX,[C,Z<|.aw<|a0<|done++U,a])
 |[],done,C,VW,_,_=>⟨VW,by rw[bQ];rfl⟩
 |c::U,done,C,VW,aq,b=>by
  let⟨@a,d⟩:=AF U (done++[c]) C (Z<|.im<|ag c) (by rw[bk];exact aq) (by rw[bk];exact b);refine⟨a,?_⟩;have e:c∉done:=λf=>(cO.mp aq).2.2 c f c (.head _) rfl;have Wb:=xM (U:=done) (o:=c) (by rw[dd]at b;omega);rw[show gU done c=done++[c] from aJ e]at Wb;rw[b4,dr];dsimp only;rw[show bx 2 (.im<|ag c) [C,Z<|.aw<|a0 done,VW]=Z [C,Z<|.aw<|a0 done,Z<|.im<|ag c] from rfl];show (kQ _).bind _=_;rw[show kQ [C,Z<|.aw<|a0 done,Z<|.im<|ag c]=Z (.aX,[C,Z<|.aw<|a0<|done++[c],Z<|.im<|ag c]) from ih rfl (by
   show ((eP (.aw<|a0 done) (.im<|ag c)<|.im<|.av V).map λV9=>_)=_;rw[Wb];rfl)]
  rw[show done++c::U=done++[c]++U by simp];exact d
def Me(aq:ah.Nodup)(b:ah.length<1000):fJ [aE ah]=Z (.aw<|a0 ah,[aE ah]):=by
 let⟨@VW,a⟩:=AF ah [] (Z<|aE ah) X aq b;rw[gp]at a;unfold fJ qB;refine dY rfl ((ee (Vu:=[Z (aE ah),Z<|.aw<|a0 [],X]) rfl).trans<|(ee<|(oy (n:=X) (w:=ah.map ag) (Vu:=[Z (aE ah),Z<|.aw<|a0 [],X]) rfl a).trans rfl).trans<|dx rfl) rfl
def Q_(aq:U.Nodup)(b:U.length<1000):fJ [.fu (a0 U)]=Z (.aw<|a0 U,[.fu (a0 U)]):=by
 let⟨@VW,a⟩:=AF U [] (Z<|.fu<|a0 U) X aq b;rw[gp]at a;have c:=Jw U;unfold fJ qB;refine dY rfl ((ee (Vu:=[Z (.fu<|a0 U),Z<|.aw<|a0 [],X]) rfl).trans<|(ee<|(oy (n:=X) (w:=U.map ag) (Vu:=[Z (.fu<|a0 U),Z<|.aw<|a0 [],X]) ?_ a).trans rfl).trans<|dx rfl) rfl;rw[<-c];rfl
def outs(w U:List ax):List ax:=(w.filter λo=>decide (o∉U))
def Gi{n:Option (Nat×ai)}{Vu:aY}(Vl:cc (ak 0) k=Z ((w.map ag,n),Vu))(A:jM [2] Vu=[Z (.aw<|a0 U)])(a:la n (iD [2] [Z (.aw<|a0 U)] Vu)=k)(f:w.length<=1000):
  dv 1 [2] (cc<|ak 0) (bx 0) G.qP G.qn k=Z (aV<|outs w U,k):=by
 have e:=kr (own:=1) (VR:=bx 0) (o:=G.qP) (d:=G.qn) (ab:=[Z (.aw<|a0 U)]) ag (λo=>decide (o∉U)) ag w [] (λo W=>by
  have b:=yE U o;refine⟨[Z (.im<|ag o),Z<|.aw<|a0 U],[Z (.im<|ag o),Z<|.aw<|a0 U],rfl,?_,λ_=>rfl,λ_=>⟨_,rfl,rfl⟩⟩;show (((fj (ag o)<|.aw<|a0 U).map λs=>ai.im<|.av<|!s).map λv=>(v,_)).bind (λm=>(kW m.1).map λc=>(c,m.2))=_;rw[b];have:(!decide (o∈U))=decide (o∉U):=by by_cases e:o∈U<;>simp[e]
  rw[<-this];rfl) (by show 0+w.length<=100000;omega)
 rw[<-A]at e;refine (r_ Vl e).trans ?_;rw[A,a];rfl
def Cx(aq:U.Nodup)(a:U.length<1000)(b:ah.length<=1000):hx [aE ah,.fu<|a0 U]=Z (aV<|outs ah U,[aE ah,.fu<|a0 U]):=by
 have lk:=Q_ aq a;have c:bZ 2 (bF 1 G.fJ<|ar (ak 1) aH) [Z (aE ah),Z<|.fu<|a0 U,X]=Z (.aX,[Z (aE ah),Z<|.fu<|a0 U,Z<|.aw<|a0 U]):=ix (ey rfl rfl rfl lk) (show 2<3 by decide) rfl;unfold hx rO;exact nv [Z (aE ah),Z<|.fu<|a0 U,Z<|.aw<|a0 U] rfl ((ee c).trans<|dx<|Gi (n:=X) (Vu:=[Z (aE ah),Z<|.fu<|a0 U,Z<|.aw<|a0 U]) rfl rfl rfl b) rfl
def Qv(aq:ah.Nodup)(a:ah.length<1000)(b:w.length<=1000):hx [aV w,aE ah]=Z (aV<|outs w ah,[aV w,aE ah]):=by
 have lk:=Me aq a;have c:bZ 2 (bF 1 G.fJ<|ar (ak 1) aH) [Z (aV w),Z<|aE ah,X]=Z (.aX,[Z (aV w),Z<|aE ah,Z<|.aw<|a0 ah]):=ix (ey rfl rfl rfl lk) (show 2<3 by decide) rfl;unfold hx rO;exact nv [Z (aV w),Z<|aE ah,Z<|.aw<|a0 ah] rfl ((ee c).trans<|dx<|Gi (n:=Z (0,aV w)) (Vu:=[Z .dK,Z<|aE ah,Z<|.aw<|a0 ah]) rfl rfl rfl b) rfl
section
variable{ab:aj}{P:List az}{E:List ai}{F:az}{k Vu VY:aY}{g r:Nat}
def ux(a:k[g]?=Z (Z<|.aQ ab P E))(e:P[r]?=Z F)(hd:E[r]?=Z v):lr ab g r F k=Z v:=by
 unfold lr;rw[a];show si ab r F (.aQ ab P E)=Z v;unfold si;dsimp only;rw[aF ⟨rfl,e⟩];exact hd
def kM{v:aa}(a:k[g]?=Z (Z<|.aQ ab P E))(e:P[r]?=Z F)(hd:E[r]?=Z (.im v)):dI ab g r F k=Z (.im v,k):=by
 unfold dI;rw[ux a e hd];rfl
def Pm{Wa:List ai->Option ai}(a:k[g]?=Z (Z<|.aQ ab P E))(e:P[r]?=Z F)(hd:E[r]?=Z v)(b:Wa [v]=Z s):sq Wa ab g r F k=Z (s,k):=by
 unfold sq;rw[ux a e hd];show (Wa [v]).map _=_;rw[b];rfl
def Hm{L:ay bN}{f:bN}{V2:aa}{Vx:List (List aa×aa)}{I:List aa}{VG VW:ai}(a:L k=Z (f,Vu))(b:dG Vu f=Z (.im V2))(c:Vu[g]?=Z (Z<|.aQ ab P E))(e:P[r]?=Z F)(hd:E[r]?=Z (.aw Vx))(d:N [.im V2,.fu Vx]=Z (.lst I,[VG,VW]))(h:aa.keys 7 I=V):
  qR N L ab g r F k=Z (.lst I,Vu):=by
 unfold qR;rw[a];dsimp only[gH];rw[b];dsimp only[gH];rw[ux c e hd];dsimp only;rw[d];dsimp only;rw[aF h]
def xD(a:L k=Z (v,Vu))(b:Vu[g]?=Z (Z<|.aQ ab P E))(c:P.length<900)(e:P[r]?=Z F)(d:r<E.length)(f:Vu.set g (Z<|.aQ ab P<|E.set r v)=VY):gL ab g r F L k=Z (.aX,VY):=by
 unfold gL;rw[a];dsimp only[gH];rw[b];dsimp only;rw[aF ⟨rfl,c⟩,aF ⟨e,d⟩,f]
def K1(a:L k=Z (v,Vu))(b:Vu[g]?=Z (Z<|.aQ ab P E))(c:P.length<900)(e:P[r]?≠Z F)(d:P.contains F=aA)(f:Vu.set g (Z<|.aQ ab (P++[F])<|E++[v])=VY):gL ab g r F L k=Z (.aX,VY):=by
 unfold gL;rw[a];dsimp only[gH];rw[b];dsimp only;rw[aF ⟨rfl,c⟩,aJ λi=>e i.1,aF d,f]
def NO{Wb:ai->ai->ai->Option ai}{a:Nat}{b:az}{v q:aa}{WC V9:ai}(c:k[g]?=Z (Z<|.aQ ab P E))(e:P[r]?=Z F)(A:P[a]?=Z b)(hd:E[r]?=Z WC)(d:E[a]?=Z (.im q))(f:Wb WC (.im q) (.im v)=Z V9)(h:k.set g (Z<|.aQ ab P<|E.set r V9)=VY):n2 ab g r F a b Wb (.im v) k=Z VY:=by
 unfold n2;rw[c];dsimp only;rw[aF ⟨rfl,e,A⟩,hd];dsimp only[gH];rw[d];dsimp only;rw[f,<-h];rfl
def vx{l:az}{a:ai}(b:k[g]?=Z (Z<|.aQ ab P E))(c:P.contains l=aA)(d:N [.aQ ab P E]=Z (s,[a]))(e:k.set g (Z a)=Vu):eO ab g l N k=Z (s,Vu):=by
 unfold eO;rw[b];dsimp only;rw[aF ⟨rfl,c⟩,d];dsimp only;rw[e]
def Pq{L:ay (List bN)}{VI:List bN}{Vj outs:List ai}{n:ai}{y:aY}(a:L k=Z (VI,Vu))(b:VI.length=x)(c:ei VI Vu=Z (Vj,VY))(d:N (.aQ ab [] []::Vj)=Z (.im .a3,n::outs))(e:hh VI outs VY=y):p4 ab N x L k=Z (n,y):=by
 unfold p4;rw[a];dsimp only[gH];rw[aF b,c];dsimp only[gH];rw[d];dsimp only;rw[e]
end
def My{l:Nat}{VV:List Nat}{L:bu}{E outs:List ai}(a:E.length=x)(d:L (E.map Z++List.replicate (l-x) X)=Z (.aX,k))(b:iW VV E k 0=outs):cJ x l VV L E=Z (.im .a3,outs):=by
 unfold cJ;rw[aF a,d];dsimp only;rw[b]
abbrev es:List az:=["first","ground","branches","place","over","taken"]
abbrev Sh(ab:aj)(ah:List ax)(D:aa)(m:ax)(U:List ax):ai:=.aQ ab es [aE ah,aE ah,.im D,.im<|ag m,.aw<|a0 U,.aw []]
section
variable{ab:aj}{ah U:List ax}{D:aa}{m:ax}
def LB:sF ab [.aQ ab [] [],aE ah,.im D,.im<|ag m]=Z (.im .a3,[Sh ab ah D m [m],aE ah,.im D,.im<|ag m]):=by
 unfold sF yD;have j (P:List az) (E:List ai):∀(r:Nat) (F:az) (L:ay ai) (v:ai),L [Z (.aQ ab P E),Z<|aE ah,Z<|.im D,Z<|.im<|ag m]=Z (v,[Z (.aQ ab P E),Z<|aE ah,Z<|.im D,Z<|.im<|ag m])->P.length<900->P[r]?≠Z F->P.contains F=aA->gL ab 0 r F L [Z (.aQ ab P E),Z<|aE ah,Z<|.im D,Z<|.im<|ag m]=Z (.aX,[Z (.aQ ab (P++[F])<|E++[v]),Z<|aE ah,Z<|.im D,Z<|.im<|ag m]):=λr F L v t A a b=>K1 t rfl A a b rfl;refine My rfl ((ee (j [] [] 0 "first" _ (aE ah) rfl ∅ ∅ ∅)).trans ((ee (j ["first"] [aE ah] 1 "ground" _ (aE ah) rfl ∅ ∅ ∅)).trans ((ee (j ["first","ground"] [aE ah,aE ah] 2 "branches" _ (.im D) rfl ∅ ∅ ∅)).trans ((ee (j ["first","ground","branches"] [aE ah,aE ah,.im D] 3 "place" _ (.im<|ag m) rfl ∅ ∅ ∅)).trans ((ee (j ["first","ground","branches","place"] [aE ah,aE ah,.im D,.im<|ag m] 4 "over" _ (.aw<|a0 [m]) rfl ∅ ∅ ∅)).trans (j ["first","ground","branches","place","over"] [aE ah,aE ah,.im D,.im<|ag m,.aw<|a0 [m]] 5 "taken" _ (.aw []) rfl ∅ ∅ ∅)))))) rfl
theorem xc:∀I:List ax,aa.keys 7 (I.map ag)=V
 |[]=>rfl
 |o::s=>by
  have:=xc s;rw[b4,aa.keys,this];rfl
end
theorem HP:∀a:List ax,pM (a.map ag)=Z (a.map b7)
 |[]=>rfl
 |o::a=>by
  rw[b4,ti,pM,HP a];rfl
def RH(U:List ax):(U.map b7).map aa.tup=U.map ag:=by
 rw[fl];rfl
def UH{v:aa}(e:aa.aZ 8 v=V)(d:cn v v=V):gq (.im v) (.im v)=Z (.im<|.av aA):=by
 show (if (aa.aZ 8 v&&aa.aZ 8 v)=V then Z (ai.im<|.av<|!cn v v) else X)=_;rw[e,d];rfl
theorem s_:∀I:List ax,fg (I.map ag) (I.map ag)=V
 |[]=>rfl
 |o::s=>by rw[b4,fg,s_ s,m2,di rfl];rfl
def gy(m:ax->ax)(d:a9):ax->ax:=(λc=>if m c=m d.2 then m d.1 else m c)
def b1(j:(ax->ax)×List a9)(d:a9):(ax->ax)×List a9:=(if j.1 d.1=j.1 d.2 then j else (gy j.1 d,j.2++[d]))
def iu(S:List a9)(j:(ax->ax)×List a9):(ax->ax)×List a9:=(S.foldl b1 j)
structure ml(M:List ax)(j:(ax->ax)×List a9):Prop where
 wL:∀c∈M,j.1 c∈M
 fix:∀c∈M,j.1 (j.1 c)=j.1 c
 cnt:M.countP (λc=>decide (j.1 c=c))+j.2.length=M.length
 gen:∀p:ax->ax,(∀d∈j.2,p d.1=p d.2)->∀c∈M,p (j.1 c)=p c
def ml.start(M:List ax):ml M (λc=>c,[]):=⟨λc e=>e,λ_ W=>rfl,by show M.countP (λc=>decide (c=c))+0=_;simp,λ_ W W W=>rfl⟩
def MX{m:ax->Bool}(aq:M.Nodup)(a:f∈M)(b:m f=V):M.countP m=M.countP (λc=>m c && !decide (c=f))+1:=by
 induction M with
 |nil=>cases a
 |cons h s e=>
  let@⟨g,Wu⟩:=gd.mp aq;by_cases d:h=f
  ·subst d;rw[List.countP_cons_of_pos b,List.countP_cons_of_neg ↥0];congr 1;refine GP λc j=>?_;have:c≠h:=λi=>g (i ▸ j);simp[this]
  ·have k:f∈s:=(cm.mp a).resolve_left λi=>d i.symm;have:=e Wu k;rw[uf,uf,this];simp[d];lia
def ml.step{M:List ax}{j:(ax->ax)×List a9}(Wk:ml M j)(aq:M.Nodup){d:a9}(t:d.1∈M)(A:d.2∈M):ml M (b1 j d):=by
 unfold b1;split
 ·exact Wk
 ·rename_i ne;let⟨m,Wd⟩:=j;have ne:m d.1≠m d.2:=ne;have b:m (m d.1)=m d.1:=Wk.fix _ t;have h:m (m d.2)=m d.2:=Wk.fix _ A;refine⟨λc a=>?_,λc a=>?_,?_,λp g c a=>?_⟩
  ·show (if m c=m d.2 then m d.1 else m c)∈M;split
   ·exact Wk.wL _ t
   ·exact Wk.wL _ a
  ·show gy m d (gy m d c)=gy m d c;have k:m (m c)=m c:=Wk.fix c a;unfold gy;by_cases i:m c=m d.2
   ·rw[aF i,b,aJ ne]
   ·rw[aJ i,k,aJ i]
  ·have o:=Wk.cnt;have n:=MX (m:=λc=>decide (m c=c)) aq (Wk.wL _ A) (di h);have l:M.countP (λc=>decide (gy m d c=c))=M.countP (λc=>decide (m c=c) && !decide (c=m d.2)):=by
    refine GP λc a=>?_;unfold gy;by_cases i:m c=m d.2
    ·rw[aF i];constructor
     ·intro e;have e:=fE e;rw[<-e,b]at i;exact absurd i ne
     ·intro e;simp at e;exact absurd (e.1.symm.trans i) e.2
    ·rw[aJ i];have:m c=c->c≠m d.2:=λe H=>i (e.trans H);simp;exact this
   show M.countP (λc=>decide (gy m d c=c))+(Wd++[d]).length=_;rw[l,dd,iJ];dsimp only at o;lia
  ·have L:=Wk.gen p λf q=>g f (dW _ q);have r:p d.1=p d.2:=g d (dy _<|.head _);show p (if m c=m d.2 then m d.1 else m c)=p c;split
   ·rename_i i;rw[L _ t,r,<-L _ A];show p (m d.2)=_;rw[<-i];exact L _ a
   ·exact L _ a
theorem Em{M:List ax}(aq:M.Nodup):∀(S:List a9) (j:(ax->ax)×List a9),ml M j->(∀d∈S,d.1∈M/\d.2∈M)->ml M (iu S j)/\(∃VH,(iu S j).2=j.2++VH/\VH.Sublist S)/\(∀d∈S,(iu S j).1 d.1=(iu S j).1 d.2)/\∀f z,j.1 f=j.1 z->(iu S j).1 f=(iu S j).1 z
 |[],j,Wk,_=>⟨Wk,⟨[],(bQ _).symm,.slnil⟩,(λ_ i=>nomatch i),λ_ W i=>i⟩
 |d::S,j,Wk,e=>by
  have b:=Wk.step aq (e d<|.head _).1 (e d<|.head _).2;let@⟨h,⟨@VH,cE,cQ⟩,o,v⟩:=Em aq S (b1 j d) b λf a=>e f (.tail _ a);have c:∀f z,j.1 f=j.1 z->(b1 j d).1 f=(b1 j d).1 z:=λf z i=>by
   unfold b1;split
   ·exact i
   ·show gy j.1 d f=gy j.1 d z;unfold gy;rw[i]
  have g:(b1 j d).1 d.1=(b1 j d).1 d.2:=by
   unfold b1;split
   ·rename_i i;exact i
   ·rename_i i;show gy j.1 d d.1=gy j.1 d d.2;unfold gy;rw[aJ i,aF rfl]
  refine⟨h,?_,λf a=>?_,λf z i=>v f z<|c f z i⟩
  ·show ∃VH,(iu S<|b1 j d).2=_/\_;rw[cE];unfold b1;split
   ·exact⟨VH,rfl,cQ.cons d⟩
   ·exact⟨d::VH,by rw[bk];rfl,cQ.cons₂ d⟩
  ·rcases cm.mp a with i|i
   ·rw[i];exact v _ _ g
   ·exact o f i
def JI{v:ax}(e:o∈M):fL (b2 M p) (b7 o) (ag v)=b2 M (λc=>if c=o then v else p c):=by
 have a:((b2 M p).any λb=>decide (b.1=b7 o))=V:=j4.mpr ⟨(b7 o,ag<|p o),ep.mpr ⟨o,e,rfl⟩,di rfl⟩;unfold fL;rw[aF a];unfold b2;rw[fl];refine lD λc W=>?_;show (if b7 c=b7 o then (b7 c,ag v) else (b7 c,ag<|p c))=(b7 c,ag<|if c=o then v else p c);by_cases i:c=o
 ·rw[aF (congrArg b7 i),aF i]
 ·rw[aJ λH=>i<|kL H,aJ i]
def UI(e:∀c∈M,m c=p c):b2 M m=b2 M p:=lD λc a=>by rw[e c a]
def yx{VM:Type}{o v:Prop}[Decidable o][Decidable v]{h c:VM}(e:o↔v):(if o then h else c)=if v then h else c:=by
 by_cases i:o
 ·rw[aF i,aF<|e.mp i]
 ·rw[aJ i,aJ λH=>i<|e.mpr H]
def ji(u J:ax)(p:ax->ax)(o:ax):ax->ax:=(λc=>if c=o/\p o=u then J else p c)
theorem Fz{u J:ax}(ne:J≠u):∀(a:List ax) (p:ax->ax) (c:ax),a.foldl (ji u J) p c=if c∈a/\p c=u then J else p c
 |[],p,c=>by rw[aJ λi=>nomatch i.1];rfl
 |o::a,p,c=>by
  rw[jT,Fz ne a];by_cases i:c=o
  ·subst i;by_cases H:p c=u
   ·have d:ji u J p c c=J:=aF ⟨rfl,H⟩;rw[d,aJ λz=>ne z.2,aF ⟨.head _,H⟩]
   ·have d:ji u J p c c=p c:=aJ λz=>H z.2;rw[d,aJ λz=>H z.2,aJ λz=>H z.2]
  ·have d:ji u J p o c=p c:=aJ λz=>i z.1;rw[d];refine yx ?_;rw[cm];exact⟨λz=>⟨.inr z.1,z.2⟩,λz=>⟨z.1.resolve_left i,z.2⟩⟩
def I8{v:ax}(e:o∈M)(a:M.length<=1000):eP (.aw<|b2 M p) (.im<|ag o) (.im<|ag v)=Z (.aw<|b2 M<|λc=>if c=o then v else p c):=by
 rw[<-JI e];exact aF ⟨rfl,by unfold b2;rw[a8];lia⟩
end G
namespace L2
open Spec PyProof.Rows
end L2
namespace L2
open Spec PySem.Calls PyProof.Rows
section
variable{a:aL}
def isFn(d:aj):ai->Bool
 |.im (.fn h)=>decide (h=d)
 |_=>aA
end
end L2
namespace L2
open Spec PyProof.Rows
abbrev wq:=aY->Option aY
end L2
namespace L2
open Spec PySem.Calls PyProof.Rows PySem.W
end L2
namespace L2
open Spec PySem.Calls PyProof.Rows
end L2
namespace L2
open Spec PyProof.Rows
end L2
namespace L2
open Spec PyProof.Rows PySem.W
end L2
namespace G
open L2
end G
namespace dP
def h8{VM:Type}:List VM->List VM
 |[]=>[]
 |[h]=>[h]
 |h::_::s=>h::h8 s
open Spec PyProof.Rows
end dP
namespace L2
open Spec PyProof.Rows
end L2
namespace G
open L2
variable{VG Wi C:Option ai}{M ah:List ax}{VM:Type}{c n:ax}{Vu k:aY}{w:List aa}
def pY:bu:=((eg (eR (bK<|aC e5 (ak 4)<|ak 0)<|bK<|aC ig (ak 4)<|ak 2) (bf (fR (aG<|.av V)<|iY 2 (dB 4) eP)<|gh<|eI g4 3 gW<|ar (ak 4) aH) fH))
def Ak:ay Bool:=((jg<|ak 3))
def rL:bu:=((dT (cc<|af<|bF 1 G.t6<|ar (af<|eI g4 3 v3 aH) aH) (bx 4) G.pY))
def wA:bu:=((bf (bZ 2<|uT (dB 1)<|aG<|.av V)<|bf (bZ 3<|fp<|ar (ak 1) aH)<|bf (kG G.Ak G.rL 1000000)<|cw<|bS iF<|ar (af<|bS fa<|ar (ak 2) aH) aH))
def pN:cj:=(cJ 2 5 [0,1] wA)
def Ax:ay ai:=((dp<|ar (ak 2)<|ar (ak 0) aH))
def yo:ay Bool:=((bK<|aC e5 (ak 0)<|ak 1))
def tk:bu:=((bf (bZ 4<|fp<|ar (af<|dp<|ar (af<|aC a7 (ak 3)<|af<|aG<|.int 0)<|ar (af<|aC dg (af<|aC a7 (ak 3)<|af<|aG<|.int 1)<|af<|aG<|.int 2) aH)<|ar (af<|dp<|ar (af<|aC dg (af<|aC a7 (ak 3)<|af<|aG<|.int 0)<|af<|aG<|.int 2)<|ar (af<|aC a7 (ak 3)<|af<|aG<|.int 1) aH) aH)<|gh<|eI g4 2 kI<|ar (af<|dv 1 [1,3] (cc<|ak 4) (bx 0) G.yo G.Ax) aH))
def p5:bu:=((fR (dB 3)<|iY 2 (dB 3) eP))
def qL:bu:=((eg (bK<|aC fb (af<|aC a7 (ak 2)<|ak 3)<|ak 7) (fR (dB 6)<|iY 2 (dB 3) eP) fH))
def pG:bu:=((bf (bZ 6<|aC a7 (ak 2)<|af<|aC a7 (ak 5)<|af<|aG<|.int 0)<|bf (bZ 7<|aC a7 (ak 2)<|af<|aC a7 (ak 5)<|af<|aG<|.int 1)<|eg (bK<|aC gq (ak 6)<|ak 7) (bf (gh<|eI g4 4 gW<|ar (ak 5) aH)<|dT (cc<|ak 0) (bx 3) G.qL) fH))
def wY:bu:=((bf (bZ 2 lR)<|bf (dT (cc<|ak 0) (bx 3) G.p5)<|bf (bZ 4<|fp aH)<|bf (dT (cc<|ak 1) (bx 5) G.pG)<|cw<|bS iF<|ar (af<|bS fa<|ar (ak 4) aH) aH))
def sO:cj:=(cJ 2 8 [0,1] wY)
def Hp(h:ax):h∈e6 h:=.head _
def JO(n:ax)(VE:List ax):Prop:=(∀c∈VE,(c.1-n.1)%2=0/\(c.2-n.2)%2=0)
abbrev hd(v j D:Int):ai:=.lst [.int v,.int j,.int D]
def eU{x l:Nat}(e:Nat.ble (x+1) l=V):x<l:=g8 e
def ua{VR:eW}{c:bu}{f:aa}{VY:aY}{s:Option (kH×aY)}(a:VR (.im f) k=Z Vu)(b:c Vu=Z (.aX,VY))(q:dr VR c w VY=s):dr VR c (f::w) k=s:=by
 rw[dr];show (VR (.im f) k).bind _=_;rw[a];show (c Vu).bind _=_;rw[b];exact q
abbrev kq(c:Bool):ai:=.im (.av c)
def f3(P:List (Int×Int))(o:Int×Int):List (Int×Int):=(if o∈P then P else P++[o])
def EO(P:List (Int×Int))(o:Int×Int):fL (bc P) (b7 o) (.av V)=bc (f3 P o):=by
 unfold f3;by_cases e:o∈P
 ·rw[aF e];unfold fL;rw[aF (by rw[xW];simpa using e)];unfold bc;rw[fl];refine lD λf W=>?_;show (if b7 f=b7 o then (b7 f,aa.av V) else (b7 f,aa.av V))=_;split<;>rfl
 ·rw[aJ e];exact IZ e
abbrev AD(e:ai)(VG:Option ai)(a b c d f:Int)(P:List (Int×Int))(g h i j k l:Option ai):aY:=[Z e,VG,Z<|aK a,Z<|aK b,Z<|aK c,Z<|aK d,Z<|aK f,Z<|.aw<|bc P,g,h,i,j,k,l]
def ia(U:List (Int×Int)):Prop:=(U.Pairwise λh c=>bz (ag h) (ag c)=V)
def Ll{P:List (Int×Int)}(aq:P.Nodup)(a:P.length<=1000):∃U:List (Int×Int),gE bz (P.map ag)=U.map ag/\U.Perm P/\ia U:=by
 have n:=rH aq a;let⟨@U,t,A⟩:=CT (i5<|P.map ag);refine⟨U,A,t,?_⟩;have:=qb n.ord.aq n.ord.iO;rw[A]at this;exact p1.mp this
abbrev cD:=Int×Int
variable{H F U:List cD}{j o:cD}{m:List cD×List cD}
theorem xA(C:Option ai):∀(U P:List cD) (VW:Option ai),P.length+U.length<100000->∃a,dr (bx 2) kK (U.map ag) [C,Z<|.aw<|bc P,VW]=Z (.aX,[C,Z<|.aw<|bc<|U.foldl f3 P,a])
 |[],P,VW,_=>⟨VW,rfl⟩
 |o::U,P,VW,b=>by
  have c:eP (.aw<|bc P) (.im<|.tup<|b7 o) (kq V)=Z (.aw<|bc<|f3 P o):=by
   rw[<-EO];exact aF ⟨rfl,by unfold bc;rw[a8];rw[dn]at b;lia⟩
  have i:(f3 P o).length<=P.length+1:=by
   unfold f3;split
   ·lia
   ·rw[dd];exact bD _
  let⟨@a,e⟩:=xA C U (f3 P o) (Z<|.im<|ag o) (by rw[dn]at b;lia);refine⟨a,?_⟩;have d:kK [C,Z<|.aw<|bc P,Z<|.im<|ag o]=Z (.aX,[C,Z<|.aw<|bc<|f3 P o,Z<|.im<|ag o]):=by
   unfold kK;refine ih rfl ?_;show (eP (.aw<|bc P) (.im<|.tup<|b7 o)<|kq V).map _=_;rw[c];rfl
  rw[b4,dr];show (kK [C,Z<|.aw<|bc P,Z<|.im<|ag o]).bind _=_;rw[d];exact e
theorem xV:∀(U P:List cD),(P++U).Nodup->U.foldl f3 P=P++U
 |[],P,_=>by rw[bQ];rfl
 |o::U,P,aq=>by
  have a:o∉P:=λe=>by
   have:=(cO.mp aq).2.2 o e o (.head _);exact this rfl
  rw[jT,f3,aJ a,xV U (P++[o]) (by rw[bk];exact aq),bk];rfl
def DG(aq:U.Nodup)(b:U.length<10000):qj [aE U]=Z (.aw<|bc U,[aE U]):=by
 let⟨@n,a⟩:=xA (Z<|aE U) U [] X (by show 0+_<_;lia);rw[xV U [] aq]at a;unfold qj v9;refine dY (k:=[Z (aE U),Z .dK,n]) rfl (bV (Vu:=[Z (aE U),Z<|.aw [],X]) rfl<|bV (jt (n:=X) rfl a rfl) rfl) rfl
def hZ(o:cD):List cD:=([(o.1-1,o.2),(o.1,o.2-1),(o.1,o.2+1),(o.1+1,o.2)])
def KU(o:cD):t6 [.im (ag o)]=Z (aV<|hZ o,[.im (ag o)]):=rfl
def o1(P:List cD)(o:cD):e5 (.im<|ag o) (.aw<|bc P)=Z (kq<|decide (o∈P)):=by
 rw[<-NL];rfl
theorem Ae:∀(I P:List ax),P.Nodup->(I.foldl f3 P).Nodup/\∀o,o∈I.foldl f3 P↔o∈P\/o∈I
 |[],P,aq=>⟨aq,λo=>by simp⟩
 |f::I,P,aq=>by
  have t:(f3 P f).Nodup/\∀o,o∈f3 P f↔o∈P\/o=f:=by
   unfold f3;split
   ·rename_i e;exact⟨aq,λo=>⟨.inl,λi=>i.elim id λd=>by rw[d];exact e⟩⟩
   ·rename_i e;refine⟨cO.mpr ⟨aq,by simp,λh a c b=>?_⟩,λo=>by simp⟩;rw[cb.mp b];exact λd=>e (d ▸ a)
  let@⟨h,c⟩:=Ae I (f3 P f) t.1;refine⟨h,λo=>?_⟩;rw[jT,c o,t.2 o,cm,or_assoc]
def d0(n:ax)(ah:List ax):List ax:=((ah.map<|av n).foldl f3 [])
theorem w6(n:ax)(ah:List ax):(d0 n ah).Nodup:=(Ae _ [] .nil).1
def C6:c∈d0 n ah↔∃o∈ah,av n o=c:=by
 unfold d0;rw[(Ae _ [] .nil).2 c,ep];simp
def xr(n o:ax):o∈e6 (av n o):=by
 rw[vu];unfold av;dsimp only;lia
def pI{o:ax}(e:(c.1-n.1)%2=0/\(c.2-n.2)%2=0)(a:o∈e6 c):av n o=c:=by
 have:=vu.mp a;unfold av;exact dQ (by dsimp only;omega) (by dsimp only;omega)
def HD{VD:List ax}(m:ah.Perm (cells VD))(aq:VD.Nodup)(h8:JO n VD):(d0 n ah).Perm VD:=by
 refine (uP (w6 n ah) aq).mpr λc=>?_;rw[C6];constructor
 ·rintro⟨o,b,rfl⟩;let⟨@j,Vy,d⟩:=r9.mp (m.mem_iff.mp b);rw[pI (h8 j Vy) d];exact Vy
 ·exact λa=>⟨c,m.mem_iff.mpr<|r9.mpr ⟨c,a,Hp c⟩,pI (h8 c a)<|Hp c⟩
def yU{U:List ax}(b:U.length<10000):qj [aV U]=Z (.aw<|bc<|U.foldl f3 [],[aV U]):=by
 let⟨@n,a⟩:=xA (Z .dK) U [] X (by show 0+_<_;lia);unfold qj v9;refine dY (k:=[Z (aV U),Z .dK,n]) rfl (bV (Vu:=[Z (aV U),Z<|.aw [],X]) rfl<|bV (jt (n:=Z (0,aV U)) (Vu:=[Z .dK,Z<|.aw [],X]) rfl a rfl) rfl) rfl
def TF(P:List ax):p_ [.aw (bc P)]=Z (aK (P.length:Int)):=by
 show Z (aK (((bc P).length:Nat):Int))=_;rw[bc,a8]
def Sa(n:ax)(ah:List ax):(d0 n ah).length<=ah.length:=by
 have j:∀c∈d0 n ah,c∈ah.map (av n):=λc a=>by
  let⟨@o,b,d⟩:=C6.mp a;exact ep.mpr ⟨o,b,d⟩
 have:=(w6 n ah).length_le_of_subset j
 rwa [a8]at this
def NB{P:List ax}(t:ah.length<=1000)(A:P.length<=1000):
  bK (aC gq (af<|bS dC<|ar (ak 0) aH)<|af<|aC gZ (af<|aC gZ (af<|bS p_<|ar (ak 1) aH)<|af<|aG<|.int 2)<|af<|aG<|.int 2) [Z (aE ah),Z<|.aw<|bc P]=Z (!decide (ah.length=4*P.length),[Z (aE ah),Z<|.aw<|bc P]):=by
 have d:decide ((ah.length:Int)=(P.length:Int)*2*2)=decide (ah.length=4*P.length):=by
  rw[s9];lia
 rw[<-d];exact d7 (bX (aT<|gu (bU rfl rfl) rfl<|z3 ah) (aT (bX (aT (bX (aT<|gu (bU rfl rfl) rfl<|TF P) rfl rfl rfl (jS (lu ∅ ∅)))) rfl rfl rfl (jS (lu ∅ ∅)))) rfl rfl<|Oe _ _)
theorem zo{VM:Type}(F:VM->Bool):∀w:List VM,lA (w.map λs=>.av<|F s)=Z (w.map F)
 |[]=>rfl
 |f::s=>by rw[b4,lA,zo F s];rfl
def En(F:VM->Bool)(w:List VM):qG [.lst (w.map λs=>.av<|F s)]=Z (kq<|w.all F):=by
 show (lA _).map _=_;rw[zo,lI,y0];rfl
def I0(F:VM->Bool)(w:List VM):q_ [.lst (w.map λs=>.av<|F s)]=Z (kq<|w.any F):=by
 show (lA _).map _=_;rw[zo,lI,oU];rfl
def nG:aa->Bool
 |.int g=>decide (0<=g)&&decide (g<31)
 |_=>aA
def R8{U:List (Int×Int)}(e:ia U):U.Nodup:=e.imp λ{h c} d i=>by rw[i,rF]at d;cases d
def QC{L:ay ai}{v:ai}(d:L k=Z (v,Vu))(q:jP v=Z w):cc (af L) k=Z ((w,X),Vu):=by
 unfold cc;rw[c3 d];show (jP v).map _=_;rw[q];rfl
def oE(h c:cD):Bool:=(decide ((if h.1-c.1<0 then -(h.1-c.1) else h.1-c.1)+(if h.2-c.2<0 then -(h.2-c.2) else h.2-c.2)=1))
def vc{h c:cD}:oE h c=V↔c∈hZ h:=by
 let⟨a,Wt⟩:=h;let⟨cE,cQ⟩:=c;unfold oE hZ;rw[gD];simp only[cm,fW,i0,BH];lia
def EC(I:List a9):Prop:=((I.map aP).Pairwise (λh c=>bz h c=V))
def S8(P:List a9):fa [bj P]=gB (P.map aP):=wO λv hd=>by
 let⟨@o,W,rfl⟩:=ep.mp hd;exact⟨_,rfl⟩
def Nj{P:List a9}(aq:P.Nodup)(b:P.length<=1000):∃B:List a9,B.Perm P/\fa [bj P]=Z (bj B)/\EC B:=by
 have dA:=Gg aq b;let⟨@B,VN,a⟩:=A_ (i5<|P.map aP);refine⟨B,VN,?_,?_⟩
 ·rw[S8];unfold gB;rw[aF (m6.mpr dA),a]
 ·unfold EC;rw[<-a];exact qb dA.1.3 dA.1.2
def RM{Vw:List a9}(g:Vw.length<=1000):tk [C,Z<|.aw<|bc M,Z<|bj Vw,Z<|.im<|ag c,Wi]=Z (.aX,[C,Z<|.aw<|bc M,Z<|bj<|Vw++fc M c,Z<|.im<|ag c,Z<|aV [(c.1,c.2+2),(c.1+2,c.2)]]):=by
 have a:a7 (.im<|ag c) (aK 0)=Z (aK c.1):=rfl;have b:a7 (.im<|ag c) (aK 1)=Z (aK c.2):=rfl;have e:dv 1 [1,3] (cc<|ak 4) (bx 0) G.yo G.Ax [C,Z<|.aw<|bc M,Z<|bj Vw,Z<|.im<|ag c,Z<|aV [(c.1,c.2+2),(c.1+2,c.2)]]=Z (bj<|fc M c,[C,Z<|.aw<|bc M,Z<|bj Vw,Z<|.im<|ag c,Z<|aV [(c.1,c.2+2),(c.1+2,c.2)]]):=by
  have q:=kr (own:=1) (VR:=bx 0) (o:=G.yo) (d:=G.Ax) (ab:=[Z (.aw<|bc M),Z<|.im<|ag c]) ag (λn=>decide (n∈M)) (λn=>aP (c,n)) [(c.1,c.2+2),(c.1+2,c.2)] [] (λn h=>?_) (by show 0+2<=100000;decide)
  ·rw[gp,show (([(c.1,c.2+2),(c.1+2,c.2)].filter λn=>decide (n∈M)).map λn=>aP (c,n))=(fc M c).map aP by unfold fc;rw[fl];rfl]at q;exact kg (w:=[(c.1,c.2+2),(c.1+2,c.2)].map ag) (n:=Z (4,aV [(c.1,c.2+2),(c.1+2,c.2)])) (Vu:=[C,Z<|.aw<|bc M,Z<|bj Vw,Z<|.im<|ag c,Z .dK]) rfl q rfl
  ·exact⟨[Z (.im<|ag n),Z<|.aw<|bc M,Z<|.im<|ag c],[Z (.im<|ag n),Z<|.aw<|bc M,Z<|.im<|ag c],rfl,d7<|cL<|o1 M n,λ_=>rfl,λ_=>⟨[Z (.im<|ag n),Z<|.aw<|bc M,Z<|.im<|ag c],kp (bU rfl<|bU rfl rfl) rfl (g8 rfl) rfl,rfl⟩⟩
 have aZ:=sP M c;have f:kI (bj Vw) [bj (fc M c)]=Z (.im .a3,bj<|Vw++fc M c):=by
  show (if _ then _ else _)=_;rw[aF (by rw[a8,a8];lia),<-fi]
 unfold tk;exact bV (Vu:=[C,Z<|.aw<|bc M,Z<|bj Vw,Z<|.im<|ag c,Z<|aV [(c.1,c.2+2),(c.1+2,c.2)]]) (fG (Gb (bU (aT<|kp (bU (aT<|cL a)<|bU (aT<|bX (aT<|cL b) rfl rfl rfl rfl) rfl) rfl (g8 rfl) rfl)<|bU (aT<|kp (bU (aT<|bX (aT<|cL a) rfl rfl rfl rfl)<|bU (aT<|cL b) rfl) rfl (g8 rfl) rfl) rfl) rfl (g8 rfl) rfl) (eU rfl) rfl) (jn<|ka rfl rfl (bU (aT e) rfl) rfl rfl f rfl)
theorem BB{M:List ax}{C:Option ai}:∀(a:List ax) (Vw:List a9) (VZ Wi:Option ai),Vw.length+2*a.length<=1000->∃b d,dr (bx 3) tk (a.map ag) [C,Z<|.aw<|bc M,Z<|bj Vw,VZ,Wi]=Z (.aX,[C,Z<|.aw<|bc M,Z<|bj<|Vw++a.flatMap (fc M),b,d])
 |[],Vw,VZ,Wi,_=>⟨VZ,Wi,by rw[FE,bQ];rfl⟩
 |c::a,Vw,VZ,Wi,e=>by
  rw[dn]at e;have aZ:=sP M c;let⟨b,@d,f⟩:=BB (M:=M) (C:=C) a (Vw++fc M c) (Z<|.im<|ag c) (Z<|aV [(c.1,c.2+2),(c.1+2,c.2)]) (by rw[dd];lia);refine⟨b,d,?_⟩;rw[b4,dr];show (tk [C,Z<|.aw<|bc M,Z<|bj Vw,Z<|.im<|ag c,Wi]).bind _=_;rw[RM ⋯,nN,<-bk];exact f
def Jz{p:ax->ax}{o J u:ax}{a:Option ai}(e:o∈M)(b:M.length<=1000):qL [C,VG,Z<|.aw<|b2 M p,Z<|.im<|ag o,Wi,a,Z<|.im<|ag J,Z<|.im<|ag u]=Z (.aX,[C,VG,Z<|.aw<|b2 M<|ji u J p o,Z<|.im<|ag o,Wi,a,Z<|.im<|ag J,Z<|.im<|ag u]):=by
 have D:bK (aC fb (af<|aC a7 (ak 2)<|ak 3)<|ak 7) [C,VG,Z<|.aw<|b2 M p,Z<|.im<|ag o,Wi,a,Z<|.im<|ag J,Z<|.im<|ag u]=Z (decide (p o=u),[C,VG,Z<|.aw<|b2 M p,Z<|.im<|ag o,Wi,a,Z<|.im<|ag J,Z<|.im<|ag u]):=d7 (bX (aT<|cL<|ov p e) rfl rfl rfl<|Ed _ _);unfold qL;by_cases i:p o=u
 ·rw[di i]at D;have d:ji u J p o=λc=>if c=o then J else p c:=funext λc=>by
   unfold ji;exact yx ⟨λz=>z.1,λz=>⟨z,i⟩⟩
  rw[d];refine ll D (ih rfl ?_);show (eP (.aw<|b2 M p) (.im<|ag o)<|.im<|ag J).map _=_;rw[I8 e b];rfl
 ·rw[dU i]at D;have d:ji u J p o=p:=funext λc=>by
   unfold ji;exact aJ λz=>i z.2
  rw[d];exact gg D rfl
theorem FY{M:List ax}{J u:ax}{C VG Wi a:Option ai}(d:M.length<=1000):∀(b:List ax) (p:ax->ax) (VZ:Option ai),(∀o∈b,o∈M)->∃c,dr (bx 3) qL (b.map ag) [C,VG,Z<|.aw<|b2 M p,VZ,Wi,a,Z<|.im<|ag J,Z<|.im<|ag u]=Z (.aX,[C,VG,Z<|.aw<|b2 M<|b.foldl (ji u J) p,c,Wi,a,Z<|.im<|ag J,Z<|.im<|ag u])
 |[],p,VZ,_=>⟨VZ,rfl⟩
 |o::b,p,VZ,e=>by
  let⟨@c,g⟩:=FY (M:=M) (J:=J) (u:=u) (C:=C) (VG:=VG) (Wi:=Wi) (a:=a) d b (ji u J p o) (Z<|.im<|ag o) λf h=>e f (.tail _ h);refine⟨c,?_⟩;rw[b4,dr];show (qL [C,VG,Z<|.aw<|b2 M p,Z<|.im<|ag o,Wi,a,Z<|.im<|ag J,Z<|.im<|ag u]).bind _=_;rw[Jz (e o<|.head _) d];exact g
def T7{j:(ax->ax)×List a9}{d:a9}{VZ Wl a:Option ai}(h:M.length<=1000)(bI:j.2.length<=1000)(t:d.1∈M)(A:d.2∈M):∃b k l,pG [Z (aE M),VG,Z<|.aw<|b2 M j.1,VZ,Z<|bj j.2,Z<|.im<|aP d,Wl,a]=Z (.aX,[Z (aE M),VG,Z<|.aw<|b2 M (b1 j d).1,b,Z<|bj (b1 j d).2,Z<|.im<|aP d,k,l]):=by
 let⟨m,Wd⟩:=j;have o:a7 (.im<|aP d) (aK 0)=Z (.im<|ag d.1):=rfl;have p:a7 (.im<|aP d) (aK 1)=Z (.im<|ag d.2):=rfl;have e:bZ 6 (aC a7 (ak 2)<|af<|aC a7 (ak 5)<|af<|aG<|.int 0) [Z (aE M),VG,Z<|.aw<|b2 M m,VZ,Z<|bj Wd,Z<|.im<|aP d,Wl,a]=Z (.aX,[Z (aE M),VG,Z<|.aw<|b2 M m,VZ,Z<|bj Wd,Z<|.im<|aP d,Z<|.im<|ag<|m d.1,a]):=fG (bX rfl (aT<|cL o) rfl rfl<|ov m t) (eU rfl) rfl;have f:bZ 7 (aC a7 (ak 2)<|af<|aC a7 (ak 5)<|af<|aG<|.int 1) [Z (aE M),VG,Z<|.aw<|b2 M m,VZ,Z<|bj Wd,Z<|.im<|aP d,Z<|.im<|ag<|m d.1,a]=Z (.aX,[Z (aE M),VG,Z<|.aw<|b2 M m,VZ,Z<|bj Wd,Z<|.im<|aP d,Z<|.im<|ag<|m d.1,Z<|.im<|ag<|m d.2]):=fG (bX rfl (aT<|cL p) rfl rfl<|ov m A) (eU rfl) rfl;have D:bK (aC gq (ak 6)<|ak 7) [Z (aE M),VG,Z<|.aw<|b2 M m,VZ,Z<|bj Wd,Z<|.im<|aP d,Z<|.im<|ag<|m d.1,Z<|.im<|ag<|m d.2]=Z (!decide (m d.1=m d.2),[Z (aE M),VG,Z<|.aw<|b2 M m,VZ,Z<|bj Wd,Z<|.im<|aP d,Z<|.im<|ag<|m d.1,Z<|.im<|ag<|m d.2]):=d7 (cL<|yl _ _);unfold pG;by_cases i:m d.1=m d.2
 ·rw[di i]at D;rw[show b1 (m,Wd) d=(m,Wd) from aF i];exact⟨_,_,_,bV e<|bV f<|gg D rfl⟩
 ·rw[dU i]at D;rw[show b1 (m,Wd) d=(gy m d,Wd++[d]) from aJ i];let⟨@b,g⟩:=FY (M:=M) (J:=m d.1) (u:=m d.2) (C:=Z (aE M)) (VG:=VG) (Wi:=Z (bj<|Wd++[d])) (a:=Z (.im<|aP d)) h M m VZ λ_ i=>i;have q:b2 M (M.foldl (ji (m d.2)<|m d.1) m)=b2 M (gy m d):=UI λc r=>by
   rw[Fz i];exact yx ⟨λz=>z.2,λz=>⟨r,z⟩⟩
  rw[q]at g;have s:gW (bj Wd) [.im (aP d)]=Z (.im .a3,bj<|Wd++[d]):=by
   have:gW (bj Wd) [.im (aP d)]=Z (.im .a3,.lst<|Wd.map aP++[aP d]):=wc (by rw[a8];dsimp only at bI;lia);rw[this];simp
  exact⟨_,_,_,bV e<|bV f<|ll D<|bV (jn<|ka rfl rfl (bU rfl rfl) rfl rfl s rfl)<|jt (n:=X) rfl g rfl⟩
theorem Ff{M:List ax}{VG:Option ai}(k:M.length<=1000):∀(S:List a9) (j:(ax->ax)×List a9) (VZ b Wl a:Option ai),j.2.length+S.length<=1000->(∀d∈S,d.1∈M/\d.2∈M)->∃c g h i,dr (bx 5) pG (S.map aP) [Z (aE M),VG,Z<|.aw<|b2 M j.1,VZ,Z<|bj j.2,b,Wl,a]=Z (.aX,[Z (aE M),VG,Z<|.aw<|b2 M (iu S j).1,c,Z<|bj (iu S j).2,g,h,i])
 |[],j,VZ,b,Wl,a,_,_=>⟨VZ,b,Wl,a,rfl⟩
 |d::S,j,VZ,b,Wl,a,Vy,e=>by
  rw[dn]at Vy;let⟨l,m,@n,Y⟩:=T7 (VG:=VG) (VZ:=VZ) (Wl:=Wl) (a:=a) (j:=j) k ⋯ (e d<|.head _).1 (e d<|.head _).2;have q:(b1 j d).2.length<=j.2.length+1:=by
   unfold b1;split
   ·lia
   ·rw[dd];exact bD _
  let⟨c,g,h,@i,o⟩:=Ff (M:=M) (VG:=VG) k S (b1 j d) l (Z<|.im<|aP d) m n ⋯ λf p=>e f (.tail _ p);refine⟨c,g,h,i,?_⟩;rw[b4,dr];show (pG [Z (aE M),VG,Z<|.aw<|b2 M j.1,VZ,Z<|bj j.2,Z<|.im<|aP d,Wl,a]).bind _=_;rw[Y];exact o
theorem Es{M:List ax}{C VG:Option ai}(f:M.length<=1000):∀(a done:List ax) (VZ:Option ai),(done++a)=M->M.Nodup->∃b,dr (bx 3) p5 (a.map ag) [C,VG,Z<|.aw<|b2 done λc=>c,VZ,X,X,X,X]=Z (.aX,[C,VG,Z<|.aw<|b2 M λc=>c,b,X,X,X,X])
 |[],done,VZ,d,_=>⟨VZ,by rw[bQ]at d;rw[d];rfl⟩
 |o::a,done,VZ,d,aq=>by
  have g:o∉done:=λi=>by
   rw[<-d]at aq;exact (cO.mp aq).2.2 o i o (.head _) rfl
  let⟨@b,h⟩:=Es (M:=M) (C:=C) (VG:=VG) f a (done++[o]) (Z<|.im<|ag o) (by rw[bk];exact d) aq;refine⟨b,?_⟩;have ld:done.length<=M.length:=by rw[<-d,dd];lia
  have j:eP (.aw<|b2 done λc=>c) (.im<|ag o) (.im<|ag o)=Z (.aw<|b2 (done++[o]) λc=>c):=by
   have:fL (b2 done λc=>c) (b7 o) (ag o)=b2 (done++[o]) λc=>c:=by
    unfold fL;rw[aJ λi=>by
     let⟨@p,k,e⟩:=j4.mp i;let⟨@c,l,rfl⟩:=ep.mp k;exact g (kL (fE e) ▸ l)]
    unfold b2;rw[fi];rfl
   rw[<-this];exact aF ⟨rfl,by unfold b2;rw[a8];lia⟩
  have Y:p5 [C,VG,Z<|.aw<|b2 done λc=>c,Z<|.im<|ag o,X,X,X,X]=Z (.aX,[C,VG,Z<|.aw<|b2 (done++[o]) λc=>c,Z<|.im<|ag o,X,X,X,X]):=by
   unfold p5;refine ih rfl ?_;show (eP (.aw<|b2 done λc=>c) (.im<|ag o)<|.im<|ag o).map _=_;rw[j];rfl
  rw[b4,dr];show (p5 [C,VG,Z<|.aw<|b2 done λc=>c,Z<|.im<|ag o,X,X,X,X]).bind _=_;rw[Y];exact h
def Ol{S B:List a9}(aq:M.Nodup)(b:M.length<=1000)(Vy:S.length<=1000)(e:∀d∈S,d.1∈M/\d.2∈M)(f:fa [bj (iu S (λc=>c,[])).2]=Z (bj B)):sO [aE M,bj S]=Z (.im<|.tup<|B.map aP,[aE M,bj S]):=by
 let⟨@a,L⟩:=Es (M:=M) (C:=Z (aE M)) (VG:=Z (bj S)) b M [] X rfl aq;let⟨g,h,i,@j,I⟩:=Ff (M:=M) (VG:=Z .dK) b S (λc=>c,[]) a X X X (by show 0+_<=_;lia) e;unfold sO wY;exact dY (k:=[Z (aE M),Z<|bj S,Z<|.aw<|b2 M (iu S (λc=>c,[])).1,g,Z<|bj (iu S (λc=>c,[])).2,h,i,j]) rfl (bV (Vu:=[Z (aE M),Z<|bj S,Z<|.aw<|b2 [] λc=>c,X,X,X,X,X]) rfl (bV (jt (n:=X) rfl L rfl)<|bV (Vu:=[Z (aE M),Z<|bj S,Z<|.aw<|b2 M λc=>c,a,Z<|bj [],X,X,X]) rfl<|bV (jt (n:=Z (1,bj S)) (Vu:=[Z (aE M),Z .dK,Z<|.aw<|b2 M λc=>c,a,Z<|bj [],X,X,X]) rfl I rfl)<|dx<|nd<|gu (bU rfl rfl) rfl f) ) rfl
inductive m5 (U:List cD) (j:cD):cD->Prop
 | self:m5 U j j
 | step {h c:cD}:m5 U j h->c∈U->oE h c=V->m5 U j c
def Nu(P:List cD)(o:cD):ig (.im<|ag o) (.aw<|bc P)=Z (kq<|!decide (o∈P)):=by
 have:=o1 P o;show (fj (ag o)<|.aw<|bc P).map (λs=>ai.im<|.av<|!s)=_;have A:(fj (ag o)<|.aw<|bc P).map (λs=>ai.im<|.av s)=Z (kq<|decide (o∈P)):=this;let⟨@s,a,b⟩:=b9.mp A;rw[a];cases b;rfl
theorem DI{VM:Type}[DecidableEq VM]:∀{I l:List VM},I.Nodup->(∀f∈I,f∈l)->I.length<=l.length
 |[],_,_,_=>hl _
 |f::I,l,aq,e=>by
  have aX:=gd.mp aq;have:=DI (l:=l.erase f) aX.2 λz a=>(yS (λd=>aX.1 (by rw[<-d];exact a))).mpr (e z<|.tail _ a);have d:=Al (e f<|.head _);have m:=r1 (e f<|.head _);rw[dn];lia
def dX(U:List cD)(m:List cD×List cD)(o:cD):List cD×List cD:=(if o∈U/\o∉m.1 then (m.1++[o],m.2++[o]) else m)
abbrev hj(VG:Option ai)(U:List cD)(m:List cD×List cD)(Wi:Option ai):aY:=[Z (.aw<|bc U),VG,Z<|.aw<|bc m.1,Z<|aV m.2,Wi]
def I9(t:m.1.length<10000)(A:m.2.length<10000):pY (hj VG U m<|Z<|.im<|ag o)=Z (.aX,hj VG U (dX U m o)<|Z<|.im<|ag o):=by
 have a:bK (aC e5 (ak 4)<|ak 0) (hj VG U m<|Z<|.im<|ag o)=Z (decide (o∈U),hj VG U m<|Z<|.im<|ag o):=d7 (cL<|o1 U o);have b:bK (aC ig (ak 4)<|ak 2) (hj VG U m<|Z<|.im<|ag o)=Z (!decide (o∈m.1),hj VG U m<|Z<|.im<|ag o):=d7 (cL<|Nu m.1 o);unfold pY dX;by_cases h:o∈U
 ·rw[di h]at a;by_cases c:o∈m.1
  ·rw[di c]at b;rw[aJ λi=>i.2 c];exact gg (lW a b) rfl
  ·rw[dU c]at b;rw[aF ⟨h,c⟩];have e:eP (.aw<|bc m.1) (.im<|.tup<|b7 o) (kq V)=Z (.aw<|bc<|m.1++[o]):=by
    have d:f3 m.1 o=m.1++[o]:=by unfold f3;rw[aJ c]
    rw[<-d,<-EO];exact aF ⟨rfl,by unfold bc;rw[a8];lia⟩
   refine ll (lW a b) (bV (Vu:=[Z (.aw<|bc U),VG,Z<|.aw<|bc<|m.1++[o],Z<|aV m.2,Z<|.im<|ag o]) ?_ ?_)
   ·refine ih rfl ?_;show (eP (.aw<|bc m.1) (.im<|.tup<|b7 o)<|kq V).map _=_;rw[e];rfl
   ·refine jn (ka rfl rfl (bU rfl rfl) rfl rfl (wc (by rw[a8];lia)) ?_);show _=[Z (.aw<|bc U),VG,Z<|.aw<|bc<|m.1++[o],Z<|aV<|m.2++[o],Z<|.im<|ag o];unfold aV;rw[fi];rfl
 ·rw[dU h]at a;rw[aJ λi=>h i.1];exact gg (wQ a) rfl
def P1(U:List cD)(m:List cD×List cD)(o:cD):(dX U m o).1.length<=m.1.length+1/\(dX U m o).2.length<=m.2.length+1:=by
 unfold dX;split
 ·rw[dd,dd];exact⟨bD _,bD _⟩
 ·exact⟨⋯,⋯⟩
theorem Bf{VG:Option ai}{U:List cD}:∀(w:List cD) (m:List cD×List cD) (Wi:Option ai),m.1.length+w.length<10000->m.2.length+w.length<10000->∃a,dr (bx 4) pY (w.map ag) (hj VG U m Wi)=Z (.aX,hj VG U (w.foldl (dX U) m) a)
 |[],m,Wi,_,_=>⟨Wi,rfl⟩
 |o::w,m,Wi,t,A=>by
  rw[dn]at t A;have I:=P1 U m o;let⟨a,b⟩:=Bf (VG:=VG) w (dX U m o) (Z<|.im<|ag o) ⋯ ⋯;refine⟨a,?_⟩;rw[b4,dr];show (pY<|hj VG U m<|Z<|.im<|ag o).bind _=_;rw[I9 ⋯ ⋯];exact b
structure nj(U:List cD)(j:cD)(m:List cD×List cD):Prop where
 aq:m.1.Nodup
 z_:j∈m.1
 con:∀f∈m.1,m5 U j f
 sub:∀f∈m.1,f=j\/f∈U
 zx:∀f∈m.2,f∈m.1
def nj.step{U:List cD}{j f:cD}{m:List cD×List cD}(Vz:nj U j m)(b:f∈m.1){o:cD}(g:o∈hZ f):nj U j (dX U m o):=by
 unfold dX;split
 ·rename_i e;refine⟨?_,dW _ Vz.z_,λz a=>?_,λz a=>?_,λz a=>?_⟩
  ·rw[cO];exact⟨Vz.aq,eB _ _,λh k c l d=>e.2 (by rw[<-cb.mp l,<-d];exact k)⟩
  ·rcases du.mp a with i|i
   ·exact Vz.con z i
   ·rw[cb.mp i];exact .step (Vz.con f b) e.1 (vc.mpr g)
  ·rcases du.mp a with i|i
   ·exact Vz.sub z i
   ·rw[cb.mp i];exact .inr e.1
  ·rcases du.mp a with i|i
   ·exact dW _ (Vz.zx z i)
   ·exact dy _ i
 ·exact Vz
def I1{z:cD}:(z∈m.1->z∈(dX U m o).1)/\(z∈m.2->z∈(dX U m o).2)/\(z∈(dX U m o).1->z∈m.1\/z∈(dX U m o).2)/\(o∈U->o∈(dX U m o).1):=by
 unfold dX;split
 ·rename_i e;refine⟨λi=>dW _ i,λi=>dW _ i,λi=>?_,λ_=>dy _<|.head _⟩;rcases du.mp i with i|i
  ·exact .inl i
  ·exact .inr (dy _ i)
 ·rename_i e;refine⟨λi=>i,λi=>i,.inl,λi=>?_⟩;by_cases p:o∈m.1
  ·exact p
  ·exact absurd ⟨i,p⟩ e
theorem De{U:List cD}{j f:cD}:∀(w:List cD) (m:List cD×List cD),(∀o∈w,o∈hZ f)->f∈m.1->nj U j m->nj U j (w.foldl (dX U) m)/\(∀z,z∈m.1->z∈(w.foldl (dX U) m).1)/\(∀z,z∈m.2->z∈(w.foldl (dX U) m).2)/\(∀z,z∈(w.foldl (dX U) m).1->z∈m.1\/z∈(w.foldl (dX U) m).2)/\(∀o∈w,o∈U->o∈(w.foldl (dX U) m).1)/\(w.foldl (dX U) m).1.length+m.2.length=(w.foldl (dX U) m).2.length+m.1.length
 |[],m,_,_,Vz=>⟨Vz,λ_ e=>e,λ_ e=>e,λ_ e=>.inl e,λo e=>(by cases e),uN _ _⟩
 |o::w,m,a,b,Vz=>by
  have l:=λz=>I1 (U:=U) (m:=m) (o:=o) (z:=z);let@⟨g,WJ,c,h,k,n⟩:=De w (dX U m o) (λv hd=>a v<|.tail _ hd) ((l f).1 b) (Vz.step b<|a o<|.head _);refine⟨g,λz e=>WJ z<|(l z).1 e,λz e=>c z<|(l z).2.1 e,λz e=>?_,λv hd e=>?_,?_⟩
  ·rcases h z e with i|i
   ·rcases (l z).2.2.1 i with H|H
    ·exact .inl H
    ·exact .inr (c z H)
   ·exact .inr i
  ·rcases cm.mp hd with rfl|hd
   ·exact WJ v ((l v).2.2.2 e)
   ·exact k v hd e
  ·have d:(dX U m o).1.length+m.2.length=(dX U m o).2.length+m.1.length:=by
    unfold dX;split
    ·rw[dd,dd,iJ];lia
    ·exact uN _ _
   show (w.foldl (dX U)<|dX U m o).1.length+m.2.length=(w.foldl (dX U)<|dX U m o).2.length+m.1.length;lia
structure nq(U:List cD)(j:cD)(m:List cD×List cD):Prop where
 i:nj U j m
 done:∀h∈m.1,h∉m.2->∀c∈U,oE h c=V->c∈m.1
def nj.len(Vz:nj U j m):m.1.length<=U.length+1:=
 DI (l:=j::U) Vz.aq λf a=>by
  rcases Vz.sub f a with e|e
  ·rw[e];exact .head _
  ·exact .tail _ e
def nq.next{f:cD}(Vz:nq U j (F,H++[f])):nq U j ((hZ f).foldl (dX U) (F,H))/\((hZ f).foldl (dX U) (F,H)).1.length+H.length=((hZ f).foldl (dX U) (F,H)).2.length+F.length:=by
 have k:f∈F:=Vz.i.zx f (dy _<|.head _);let@⟨l,WJ,m,n,o,p⟩:=De (U:=U) (j:=j) (hZ f) (F,H) (λ_ e=>e) k ⟨Vz.i.aq,Vz.i.z_,Vz.i.con,Vz.i.sub,λz q=>Vz.i.zx z<|dW _ q⟩;refine⟨⟨l,λh r y c a d=>?_⟩,p⟩;have s:h∈F:=(n h r).resolve_right y;by_cases b:h=f
 ·subst b;exact o c (vc.mp d) a
 ·refine WJ c (Vz.done h s (λi=>?_) c a d);rcases du.mp i with i|i
  ·exact y (m h i)
  ·exact b (cb.mp i)
def nq.fin(Vz:nq U j (F,[]))(f:cD):f∈F↔m5 U j f:=by
 refine⟨Vz.i.con f,λe=>?_⟩;induction e with
 |self=>exact Vz.i.z_
 |step _ a d b=>exact Vz.done _ b (λi=>by cases i) _ a d
def Lv{j f:cD}(t:F.length<5000)(A:H.length<5000):∃a,rL (hj VG U (F,H++[f]) Wi)=Z (.aX,hj VG U ((hZ f).foldl (dX U) (F,H)) a):=by
 let⟨@a,b⟩:=Bf (VG:=VG) (U:=U) (hZ f) (F,H) Wi (by show _+4<_;lia) (by show _+4<_;lia);refine⟨a,?_⟩;unfold rL;refine jt (n:=X) (Vu:=hj VG U (F,H) Wi) (QC (v:=aV (hZ f)) (eG (dH (c3<|ka (o:=aV (H++[f])) (V9:=aV H) rfl rfl rfl rfl rfl ?_ rfl) rfl) rfl rfl (KU f) rfl) rfl) b rfl;show (((H++[f]).map ag).getLast?).map (λv=>(ai.im v,ai.lst ((H++[f]).map ag).dropLast))=Z (.im<|ag f,aV H);rw[fi,List.map_singleton,List.getLast?_concat,List.dropLast_concat];rfl
def Qq(C:U.length<=900):∃Wb,pN [.aw (bc U),.im<|ag j]=Z (aE Wb,[.aw (bc U),.im<|ag j])/\ia Wb/\(∀f,f∈Wb↔m5 U j f):=by
 have r:nq U j ([j],[j]):=⟨⟨eB _ _,.head _,λf a=>by rw[cb.mp a];exact .self,λf a=>.inl<|cb.mp a,λf a=>a⟩,λh s y=>absurd s y⟩;let⟨@VL,cp,⟨F,@Wi,rfl,Vz⟩⟩:=Tb (o:=Ak) (c:=rL) (λl k=>∃F H Wi,k=hj (Z<|.im<|ag j) U (F,H) Wi/\nq U j (F,H)/\H.length<=F.length/\l+F.length=U.length+1+H.length) (λk=>∃F Wi,k=hj (Z<|.im<|ag j) U (F,[]) Wi/\nq U j (F,[])) (λl k ⟨F,H,Wi,d,Vz,t,u⟩=>by
  subst d;have aW:=Vz.i.len;rcases List.eq_nil_or_concat H with rfl|⟨H,f,rfl⟩
  ·exact⟨aA,_,nK rfl rfl rfl,λe=>(by cases e),λ_=>⟨F,Wi,rfl,Vz⟩⟩
  ·rw[List.concat_eq_append] at *;refine⟨V,_,nK (v:=aV (H++[f])) rfl rfl ?_,λ_=>?_,λe=>by cases e⟩
   ·show Z (!((H++[f]).map ag).isEmpty)=Z V;rw[fi,List.isEmpty_eq_false_iff.mpr ↥0];rfl
   ·rw[dd,iJ]at t u;let⟨@w,b⟩:=Lv (U:=U) (j:=j) (f:=f) (F:=F) (H:=H) (VG:=Z (.im<|ag j)) (Wi:=Wi) (by show _<_;dsimp only at aW;lia) (by dsimp only at aW;lia);let@⟨VS,W4⟩:=Vz.next;have n:=VS.i.len;generalize (hZ f).foldl (dX U) (F,H)=m at b VS W4 n;let⟨x,Wj⟩:=m;dsimp only at aW n W4;exact⟨.aX,_,b,.inl rfl,l-1,by omega,x,Wj,w,rfl,VS,by omega,by omega⟩) 1000000 (U.length+1) (hj (Z<|.im<|ag j) U ([j],[j]) X) ⟨[j],[j],X,rfl,r,bD _,by show _=U.length+1+1;rfl⟩ ⋯
 have p:=Vz.i.aq;have q:=Vz.i.len;let⟨@Wb,z,A,B⟩:=Ll p (by dsimp only at q ⊢;lia);refine⟨Wb,?_,B,λf=>A.mem_iff.trans<|Vz.fin f⟩;have Vy:fa [.aw (bc F)]=Z (aV Wb):=by
  show gB ((bc F).map λm=>.tup m.1)=_;have d:((bc F).map λm=>aa.tup m.1)=F.map ag:=by unfold bc;rw[fl];rfl
  rw[d];unfold gB;rw[aF (m6.mpr (rH p (by dsimp only at q ⊢;lia))),z]
 unfold pN wA;refine dY (k:=hj (Z<|.im<|ag j) U (F,[]) Wi) rfl (bV (Vu:=[Z (.aw<|bc U),Z<|.im<|ag j,Z<|.aw<|bc [j],X,X]) rfl<|bV (Vu:=hj (Z<|.im<|ag j) U ([j],[j]) X) rfl<|bV cp ?_) rfl;exact (dx<|gu (bU (aT<|gu (bU rfl rfl) rfl Vy) rfl) rfl rfl)
end G
namespace L2
open Spec PyProof.Rows
end L2
namespace G
open L2
def vG:bu:=((cw<|fX<|eR (bK<|bF 1 G.uS<|ar (ak 1) aH)<|bK<|aC e5 (ak 1)<|ak 0))
def k_:cj:=(cJ 2 2 [0,1] vG)
end G
namespace L2
open Spec PyProof.Rows PySem.W
section
variable{a:aL}
def fe(g:Int):Int:=(hashInt g)
def Eo(o:Int×Int):Int:=(yn (bH.Tuple.tupleHashOf [fe o.1,fe o.2]))
def pK(o:Int×Int):List aa:=([.int o.1,.int o.2])
end
theorem zy{VM Wm:Type}(F:VM->Wm):∀(I:List VM) (r:Nat),(I.map F).eraseIdx r=(I.eraseIdx r).map F
 |[],_=>rfl
 |h::I,0=>rfl
 |h::I,r+1=>by
  show F h::(I.map F).eraseIdx r=F h::(I.eraseIdx r).map F;rw[zy F I r]
theorem zP{VM Wm:Type}{N:VM->Wm->Prop}:∀{I:List VM}{l:List Wm},dE N I l->∀r:Nat,dE N (I.eraseIdx r) (l.eraseIdx r)
 |_,_,.nil,_=>.nil
 |_,_,.cons _ D,0=>D
 |_,_,.cons s D,r+1=>.cons s (zP D r)
section
variable{Vs:bE}{H:bg}{R:Type}[DecidableEq R]{s:zg Vs H R}{O:bq}{Vo:ae->ao->Prop}{j:ao}
def Js{v h:aj}{w:List (R×aj×ae)}{q:R}{C:Option qV->ao->Prop}(e:s.room O)(g:s.is j.heap q h)(l:j.heap.DictOfH s v w)(A:w.length<=sizeLine)(o:q∈w.map (·.1))(p:∀(r:Nat) m,w[r]?=Z (q,m)->∀Vk,Vk.DictOfH s v (w.eraseIdx r)->a4.SameBut v j.heap Vk->∀Vq,C (Z<|xY s (q,m)) {j with heap:=Vk,toks:=Vq}):wpAny (aO Vs H) O (bH.Dict.takeOut v<|.ref h) C Vo j:=by
 let⟨n,S,@VU,a,t,hd,b,i,k⟩:=l;unfold bH.Dict.takeOut;try with_reducible refine f9 ?_
 refine aB (s.pyHash e g ?_);refine aB (wpAny_dictFind_heap (s:={j with toks:=j.toks+s.draws q}) e g a hd b i k ?_ ?_)
 ·intro u;exact absurd o (not_mem_keys_of_get u)
 ·intro r m c;have x:S.size<=sizeLine:=by have d:=E2 b;omega
  dsimp only;refine aB (qv (s:={j with toks:=j.toks+s.draws q}) a hd ?_);rw[entry_at b r,c];have y:r<S.size:=by
   have d:=E2 b;have:=(eX.mp c).1;omega
  refine aB (wpAny_updateDictKeys (s:={j with toks:=j.toks+s.draws q}) a hd (aR<|p r m c _ ⟨_,_,VU+1,lE _ a<|ba.isFreed_of_dict<|F5 hd _,t.mapDictKeys _,F5 hd _,?_,?_,?_⟩ (lS ..) _) x (by
   rw[Array.eraseIdxIfInBounds];split
   ·rw[Array.size_eraseIdx];omega
   ·omega))
  ·rw[Array.eraseIdxIfInBounds,dif_pos y,Array.toList_eraseIdx,b,zy]
  ·intro f z;exact s.keeps (i f<|xv z) a hd (lS ..)
  ·rw[<-zy];exact KG (x7 _ _) k
end
section
variable{a:aL}
def Px(M:a.A.units+20<bW):vf a "dict.pop" (λf Vj b C=>∃(v c:aj) (Vx:List (List aa×au)) (q:List aa),f=.ref v/\Vj=[.ref c]/\b v=Z (.aw Vx)/\g6 b q c/\q∈Vx.map (·.1)/\
  ∀(r:Nat) (u:au),(Vx.map (·.1)).Nodup->Vx[r]?=Z (q,u)->C u (upd b v<|.aw<|Vx.eraseIdx r)):=by
 intro G j B b f Vj u VH C y P Q e;let⟨v,c,Vx,@q,rfl,rfl,hd,R,g,p⟩:=e;cases P;let⟨@J,rfl,T⟩:=Q.one;cases T;let@⟨i,U,⟨@w,Wf,d⟩⟩:=yR y.a5 hd;have h:j.TypeIs (.ref v) "dict" := by
  let⟨n,S,@VU,t,A,W⟩:=d;exact⟨n,t,A.1⟩
 have k:Vx.length=w.length:=dE.length Wf;have l:w.map (·.1)=Vx.map (·.1):=by
  clear p d i hd k g;induction Wf with
  |nil=>rfl
  |cons s _ al=>rw[b4,b4,al,s.1]
 refine iR xj h PySem.F.entry_dict_pop ?_ (PySem.F.args_dict_pop_2 _ _);unfold bH.«dict.pop»;refine aB ?_;unfold bH.Dict.keyAndDefault;refine aB (wz h ?_);show wpAny _ _ (pure (v,ae.ref c,X)) _ _ j;refine aR ?_;have am:∀{S:Array qV},S.toList=w.map (xY<|eh a.prog a.w)->S.isEmpty=aA:=λ{S} he=>by
  have an:0<(Vx.map (·.1)).length:=r1 g;have ap:=congrArg List.length he;rw[a8,df]at ap;rw[a8]at an;rw[Array.isEmpty];exact dU (by omega)
 have as:=d;let⟨n,S,@VU,VG,VW,VZ,Wi,ce,Wl⟩:=d;dsimp only;rw[aJ (show ¬ (keyPart<|ae.ref c).isSome=V from da)];refine aB (qv VG VZ<|aB<|aR ?_);rw[am Wi,aJ da];refine aB (Js (nU M) (kT y.a5 R) as (by omega) (by rw[l];exact g) λr m o Vk a1 cP Vq=>?_);dsimp only;rw[aJ ↥0];let⟨a2,@ch,bd,x,z,be,D⟩:=vM Wf r (by rw[k];exact (eX.mp o).1);rw[o]at x;cases x;let⟨dO,vQ⟩:=a2;dsimp only at z be D;subst z;have bi:aI a G B (upd b v<|.aw<|Vx.eraseIdx r) {j with heap:=Vk,toks:=Vq}:=by
  let⟨E,bm,@bn,I,A,bs,bv,W,ca⟩:=a1;have cd:(Vx.eraseIdx r).length<=sizeLine:=dc (List.length_eraseIdx_le _ _) i;refine vy (j:=j) y (by rw[hd];exact True.intro) cP ⟨E,I⟩ ⟨cd,U,_,e9.keeps (zP Wf r) λci VJ L=>?_,E,bm,bn,I,A,bs,bv,ca⟩;rw[cz (zQ L hd<|λi=>nomatch i)];exact L
 exact aB (pb<|aR ⟨_,rfl,vQ,_,bi,D,p r vQ (l ▸ Wl) bd⟩)
def nM:ai->List ai->Option (ai×ai):=(λo E=>match o,E with
 |.aw Vx,[.im (.tup q)]=>if aa.keys 7 q=V then (Vx.findIdx? λm=>decide (m.1=q)).bind λr=>(Vx[r]?).map λm=>(.im m.2,.aw<|Vx.eraseIdx r) else X
 |_,_=>X)
theorem DR{b:aD}:∀{I:List (List aa×aa)}{l:List (List aa×au)}{r:Nat}{m:List aa×au},ed b I l->l[r]?=Z m->∃v,I[r]?=Z (m.1,v)/\cC b v m.2
 |_,_,_,_,.nil,e=>by simp at e
 |_,_,0,_,@dE.cons _ _ _ h _ _ _ s D,e=>by
  cases e;let⟨c,Wt⟩:=h;let@⟨rfl,a⟩:=s;exact⟨Wt,rfl,a⟩
 |_,_,r+1,_,.cons s D,e=>DR (r:=r) D ⇑e
theorem yw{b:aD}:∀{c:List (List aa×aa)}{l:List (List aa×au)},ed b c l->l.map (·.1)=c.map (·.1)
 |_,_,.nil=>rfl
 |_,_,.cons s D=>by rw[b4,b4,yw D,s.1]
def Gm(w:a.A.units+20<bW):mM a "dict.pop" nM:=by
 intro G j B b f Vj u VH C y x F ⟨o,E,s,V9,Vp,VD,H,I,aq,d,p⟩;unfold nM at d;split at d
 ·rename_i Vx q;split at d
  ·rename_i J;let⟨@r,L,M⟩:=bB.mp d;let⟨@m,e,P⟩:=b9.mp M;cases P;let⟨v,@WQ,rfl,t,A,rfl⟩:=H;let⟨z,D,a1,@a2,rfl,@⟨⟨c,@VJ,rfl,Q,R⟩,rfl⟩,@⟨rfl,rfl⟩,rfl⟩:=I;have k:fx b v:=⟨_,t,(λ_ d=>by cases d),(λ_ W d=>by cases d)⟩;have l:m.1=q:=by
    let⟨@S,T,W⟩:=List.findIdx?_eq_some_iff_getElem.mp L;rw[dN S]at e;cases e;exact fE T
   refine Px w G j B b _ _ u VH C y x F ⟨v,c,WQ,q,rfl,rfl,t,⟨J,c,VJ,rfl,Q,R⟩,?_,λg al n am=>?_⟩
   ·rw[yw A,<-l];exact ep.mpr ⟨m,eC e,rfl⟩
   ·let⟨@bd,i,an⟩:=DR A am;have ap:g=r:=by
     rw[yw A]at n;have as:(Vx.map (·.1))[g]?=Z q:=by rw[d3,i];rfl
     have Wt:(Vx.map (·.1))[r]?=Z q:=by rw[d3,e,<-l];rfl
     let⟨@cE,cQ⟩:=eX.mp as;let⟨@oP,jy⟩:=eX.mp Wt;exact (yv n).mp (cQ.trans jy.symm)
    subst ap;rw[e]at i;cases i;have D:=(bb.chg (V4:=.aw (WQ.eraseIdx g)) (N:=[v]) (U:=[]) (.head _) k hn<|λf h=>nomatch h).tup;refine p al _ [] [v] ⟨an.mono D.tup,rfl⟩ ⟨v,_,rfl,d_,?_,rfl⟩ (bb.chg (.head _) k (eB _ _) λf h=>by
     rw[gp]at h;exact dW _ h)
    exact ed.mono D.tup (zP A g)
  ·cases d
 ·cases d
end
end L2
namespace L2
open Spec PyProof.Rows
section
variable{a:aL}
@[simp] def oe(ab:aj)(g r:Nat)(F:az)(WJ:Nat)(Wb:ai->ai->ai->Option ai):eW:=λv k=>match v,k[g]?,k[WJ]? with
 |.im v,Z<|Z<|.aQ o P E,Z (Z<|.im q)=>if o=ab/\P[r]?=Z F then (E[r]?).bind λWC=>(Wb WC (.im q)<|.im v).map λV9=>k.set g (Z<|.aQ o P<|E.set r V9)
  else X
 |_,_,_=>X
variable{ab:aj}{g:Nat}
def MJ{VV:List Nat}(r:Nat){F:az}{WJ:Nat}{Wb:ai->ai->ai->Option ai}{n VW:bl}{VC e:Pos}(s:pg a Wb)(o:fF a.K ab)(x:gz a.K ab F)(t:bG a n (fA g))(w:bG a VW (fA WJ))(y:hG n F a.env (bJ n a.env)=bJ n a.env:=by rfl)(z:∀u,i2 (.Subscript (.Attribute n F VC) VW e) a.env u=(do
   let d <-holding [u] (bJ (.Attribute n F VC) a.env)
   let f <-holding [u,d] (bJ VW a.env)
   standAt e
   holding [u,d,f] (p9 d f u)
   release [u,d,f] []):=by intro W;rfl):fO a VV (.Subscript (.Attribute n F VC) VW e) (oe ab g r F WJ Wb):=by
 refine r3 (yG (lg t y) w s z) λu B b C D=>?_;let⟨k,N,v,Vp,@VL,Y,l,aq,c,p⟩:=D;unfold oe at c;split at c
 ·rename_i v V9 P E q G I;split at c
  ·rename_i i;let@⟨rfl,i⟩:=i;let⟨@WC,hd,A⟩:=bB.mp c;let⟨@m,L,O⟩:=b9.mp A;cases O;obtain rfl:Vp=[]:=l.2;rw[bQ]at aq p;let⟨h,V6,M,J,@Q,S,U,al,am,an,W,ap⟩:=lL Y aq G i hd;let⟨@H,as,a1⟩:=Y.el I rfl;refine⟨_,S,h,V9,V6,M,J,rfl,U,o,x,al,_,as,WC,.im q,.im v,m,Q,[],am,a1,l,by rw[bQ];exact an,L,λT bR H j=>?_⟩;let⟨@V0,a2,Vm⟩:=ap T m bR [] H (by rw[bQ]at j ⊢;exact j);rw[bQ]at Vm;exact p B T V0 c4.refl a2 Vm
  ·cases c
 ·cases c
@[simp] def ow(ty:ai->Bool)(ab:aj)(g r:Nat)(F:az)(bc:ai->List ai->Option (ai×ai))(WJ:Nat):ay ai:=λk=>match k[g]?,k[WJ]? with
 |some (Z<|.aQ o P E),Z (Z<|.im q)=>if o=ab/\P[r]?=Z F then (E[r]?).bind λWC=>if ty WC=V then (bc WC [.im q]).map λs=>(s.1,k.set g<|Z<|.aQ o P<|E.set r s.2) else X else X
 |_,_=>X
def T3(r:Nat){F:az}{WJ:Nat}{Vv:String}{name:az}{id:String}{ty:ai->Bool}{bc:ai->List ai->Option (ai×ai)}{n d:bl}{WH e l:Pos}(y:∀b o f Vp,cq b o f Vp->ty o=V->kd a.K Vv f b)(bT:q7 Vv)(WB:nZ Vv name id)(bI:pe (.builtin id)=pure (.type "method_descriptor"))(z:mM a id bc)(o:fF a.K ab)(x:gz a.K ab F)(D:bG a n (fA g))(G:bG a d (fA WJ))(I:hG n F a.env (bJ n a.env)=bJ n a.env:=by rfl)(L:hG (.Attribute n F e) name a.env (bJ (.Attribute n F e) a.env)=bJ (.Attribute n F e) a.env:=by rfl)(O:((d9 l<|bP [d] a.env).all (λf=>!f.1)&&(m4 l<|nk [] a.env).all (λf=>f.1.isSome)
   && decide ([d].length+([]:List nT).length+(if ([]:List nT).isEmpty then 0 else 1)<30))=V:=by rfl)(Q:(WH.endLine==l.line)=V:=by rfl)(Vy:bP [d] a.env=(aA,bJ d a.env)::bP [] a.env:=by rfl)(S:(d9 l<|bP [] a.env).any (·.1)=aA:=by rfl):
  bh a (.Call (.Attribute (.Attribute n F e) name WH) [d] [] l) (ow ty ab g r F bc WJ):=by
 refine d6 (H3 bT WB bI z (lg D I) (lQ G o8 Vy) L O Q Vy S) λB b C U=>?_;let⟨k,N,s,@VL,Y,aq,c,p⟩:=U;unfold ow at c;split at c
 ·rename_i V9 P E q al am;split at c
  ·rename_i i;let@⟨rfl,i⟩:=i;let⟨@WC,hd,A⟩:=bB.mp c;split at A
   ·rename_i an;let⟨@⟨ap,m⟩,as,a1⟩:=b9.mp A;cases a1;let⟨h,V6,M,J,@t,a2,bd,be,v,bi,W,bm⟩:=lL Y aq al i hd;let⟨@H,bn,bs⟩:=Y.el am rfl;refine⟨_,a2,h,V9,V6,M,J,rfl,bd,o,x,be,y b WC J t v an,_,bn,WC,[.im q],ap,m,t,[],v,⟨H,[],[],[],rfl,bs,⟨rfl,rfl⟩,rfl⟩,by rw[bQ];exact bi,as,λu T w bR cp cv j=>?_⟩;rw[bQ]at j;let⟨@V0,bv,Vm⟩:=bm T m bR w cv (j.hK c6);exact p u T V0 w bv cp Vm
   ·cases A
  ·cases c
 ·cases c
@[simp] def px(Wa:ai->ai->Option ai)(Wv:ay bN)(ab:aj)(g r:Nat)(F:az):ay ai:=λk=>(Wv k).bind λm=>(dG m.2 m.1).bind λV2=>match V2 with
 |.im V2=>(lr ab g r F m.2).bind λV8=>(Wa (.im V2) V8).map λv=>(v,m.2)
 |_=>X
def IU{Wa:jI}{l:ai->ai->Option ai}(r:Nat){F:az}{h n:bl}{Wv:ay bN}{VC WN:Pos}(m:d2 a (e2 Wa) l)(q:eL a h Wv)(o:fF a.K ab)(x:gz a.K ab F)(w:bG a n (fA g))(y:hG n F a.env (bJ n a.env)=bJ n a.env:=by rfl)(D:oL Wa (.Attribute n F WN)=aA:=by rfl):
  fC a (.Compare h [Wa] [.Attribute n F WN] VC) (bK<|px l Wv ab g r F):=by
 refine sy (AU m q (lg w y) D) λB b C G=>?_;let⟨k,N,s,@VL,Y,aq,I,p⟩:=G;let⟨@⟨z,VY⟩,L,O⟩:=bB.mp I;let⟨@c,Q,S⟩:=b9.mp O;cases S;have d:=o5 Q;dsimp only at d;subst d;let⟨@⟨al,Vu⟩,t,A⟩:=bB.mp L;let⟨@V2,am,e⟩:=bB.mp A;dsimp only at e;split at e
 ·rename_i V2;let⟨@V8,an,ap⟩:=bB.mp e;let⟨@v,as,a1⟩:=b9.mp ap;cases a1;refine⟨k,N,al,_,Y,aq,t,λca Vt U cd f cp i=>?_⟩;let@⟨gi,rfl⟩:=B6 f cp am;let⟨P,@E,a2,bd,hd⟩:=tL an;let⟨h,V6,M,u,@Vp,be,bi,bm,bn,W⟩:=lL f (by rw[bQ]at i;exact i.aq) a2 bd hd;refine⟨_,be,h,ab,V6,M,u,rfl,bi,o,x,bm,.im V2,V8,_,⟨[],gi,rfl⟩,⟨Vp,bn⟩,as,λJ T bR j H bs bv=>⟨_,H.1,p T U (f.mono j.tupS λh W n d=>j h n d) ?_⟩⟩;have:=i.new j bs bv f.chg;rw[H.2,bQ]at this;exact this
 ·cases e
@[simp] def oJ(Q:cj)(ab:aj)(g r:Nat)(F:az)(WJ:Nat):ay ai:=λk=>match k[g]?,k[WJ]? with
 |some (Z<|.aQ o P E),Z (Z<|.im q)=>if o=ab/\P[r]?=Z F then (E[r]?).bind λV8=>match Q [V8,.im q] with
   |some (s,[a,_])=>Z (s,k.set g<|Z<|.aQ o P<|E.set r a)
   |_=>X
  else X
 |_,_=>X
variable{q:Nat}{Vw:List az}
def Kp{l:Nat}{Q:cj}{G:aj}{Y:cf}(r:Nat){WJ:Nat}{f F:az}{m VC WN:Pos}{d n:bl}(I:jW a.prog a.w a.K a.aU a.base q f Y G Vw 2 Q)(L:dt l a.A)(S:eu a f)(o:fF a.K ab)(x:gz a.K ab F)(U:bG a n (fA g))(al:bG a d (fA WJ))(am:hG n F a.env (bJ n a.env)=bJ n a.env:=by rfl)(an:q<=l:=by decide)(ap:(f==("__debug__" : az))=aA:=by decide)(t:bP [.Attribute n F WN,d] a.env=(aA,bJ (.Attribute n F WN) a.env)::bP [d] a.env:=by rfl)(as:bP [d] a.env=(aA,bJ d a.env)::bP [] a.env:=by rfl)(a1:(d9 VC<|bP [d] a.env).any (·.1)=aA:=by rfl):bh a (.Call (.Name f m) [.Attribute n F WN,d] [] VC) (oJ Q ab g r F WJ):=by
 let⟨@W,a2,c,WR,N⟩:=I;refine d6 (FW N (L.mono an) S WR a2.cI c .nil qK (lQ (lg U am) (lQ al o8 as) t) ap t a1) λB b C bd=>?_;let⟨k,N,s,@VL,Y,aq,e,p⟩:=bd;unfold oJ at e;split at e
 ·rename_i V9 P E q be bi;split at e
  ·rename_i i;let@⟨rfl,i⟩:=i;let⟨@V8,hd,j⟩:=bB.mp e;split at j
   ·rename_i Wh v VG bm;cases j;let⟨h,V6,M,u,@Vp,bn,bs,bv,ca,cd,W,ce⟩:=lL Y aq be i hd;let⟨@H,ch,ci⟩:=Y.el bi rfl;refine⟨_,bn,h,V9,V6,M,u,rfl,bs,o,x,bv,_,ch,rfl,[V8,.im q],Vp,s,[v,VG],⟨u,[H],Vp,[],rfl,ca,⟨H,[],[],[],rfl,ci,⟨rfl,rfl⟩,rfl⟩,by rw[bQ]⟩,cd,bm,λJ T z y cv de cl=>?_⟩;let⟨W,W,co,@W,cr,cs,⟨W,W,D,@W,db,dL,@⟨rfl,rfl⟩,rfl⟩,rfl⟩:=de;cases cr;cases db;let⟨@V0,ds,Vm⟩:=ce T v co (z++D) cs (cl.hK (by
     rw[kz];intro f;simp only[kj,List.count_nil];omega))
    exact p J T V0 z ds cv (Vm.less (ab:=D) (by rw[bk]))
   ·cases j
  ·cases e
 ·cases e
@[simp] def lT(ab:aj)(g:Nat)(l:az)(Q:cj)(x:Nat)(L:ay (List bN)):ay ai:=λk=>match k[g]? with
 |some (Z<|.aQ o P E)=>if o=ab/\P.contains l=aA then (L k).bind λm=>if m.1.length=x then (ei m.1 m.2).bind λp=>match p.2[g]? with
   |some (Z<|.aQ a b c)=>match Q (.aQ a b c::p.1) with
    |some (s,d::outs)=>Z (s,hh m.1 outs<|p.2.set g<|Z d)
    |_=>X
   |_=>X
  else X
  else X
 |_=>X
def LP{x WR:Nat}{F:aj}{l z:az}{Q:cj}{Y:cf}{n d:bl}{S:List bl}{L:ay (List bN)}{WH VC:Pos}{aZ:dD Bool}(o:fF a.K ab)(bn:sv (cX a.K ab l F) a.prog a.w a.K a.aU a.base q l z Y F Vw (x+1) Q)(bs:dt WR a.A)(bv:bG a n (fA g))(ca:fV a (d::S) L)(cd:q<=WR:=by decide)(ce:bP (d::S) a.env=(aA,bJ d a.env)::bP S a.env:=by rfl)(ch:(d9 VC<|bP S a.env).any (·.1)=aA:=by rfl)(bI:bJ (.Call (.Attribute n l WH) (d::S) [] VC) a.env=(do
   let N <-bJ n a.env
   standAt WH.atName
   let (F,first) <-holding [N] (oC N l aZ)
   callWith VC F first (d9 VC<|bP (d::S) a.env) (m4 VC<|nk [] a.env)):=by rfl):bh a (.Call (.Attribute n l WH) (d::S) [] VC) (lT ab g l Q x L):=by
 let⟨@W,W,c,i,ci⟩:=bn;refine d6 (SY (aZ:=aZ) bv o i ci (bs.mono cd) c .nil qK ca ce ch bI) λB b C cl=>?_;let⟨k,al,s,@VL,Y,aq,e,p⟩:=cl;unfold lT at e;split at e
 ·rename_i V9 P E co;split at e
  ·rename_i m;let@⟨rfl,m⟩:=m;let⟨@⟨VI,Vu⟩,t,A⟩:=bB.mp e;dsimp only at A;split at A
   ·rename_i cr;let⟨@⟨cs,VY⟩,db,j⟩:=bB.mp A;dsimp only at j;split at j
    ·rename_i ds dL eq ev;split at j
     ·rename_i Wh hd outs ex;cases j;let⟨he,hf,@VQ,r,VX,hm,VN⟩:=Y.out co;let⟨h,V6,M,Vj,@hw,fd,fn,@⟨fr,h0,ii⟩,W,rfl⟩:=id VX;subst fd;refine⟨_,r,h,V6,M,rfl,fn,zk (by rw[fr];intro i;rw[tn.mpr i]at m;cases m),k,al,VI,Vu,Y,aq,t,λVH Vt U im f0 VG f1=>?_⟩;let⟨io,@u,f2,f4,am⟩:=lV f0 VG db;let⟨it,v,@D,an,f8,ap,as⟩:=f2.out ev;rw[r]at an;cases an;have a1:bb b al Vt ((v++u)++D):=f1.hK (by
       rw[kz]at am as ⊢;intro f;have:=am f;have:=as f;simp only[kj] at *;omega)
      have a2:=cO.mp a1.aq;refine⟨by rw[dn,bQ,<-VG.length,cr],.aQ ds dL eq::cs,v++u,_,_,⟨_,VH++[],v,u,rfl,f8,by rw[bQ];exact f4,rfl⟩,a2.1,ex,λJ T Vp y cv de G=>?_⟩;let⟨W,W,jp,@kt,ga,ge,bd,rfl⟩:=de;cases ga;rw[bQ]at bd;have gl:bC T (VY.set g<|Z .dK) B D:=ap.mono G.tup λf I n d=>G.keep f n d λi=>a2.2.2 f i f I rfl;let⟨kw,@go,be,bi⟩:=gl.back ge r;rw[n8]at be;let⟨gt,@g1,g2,bm⟩:=pX be VG bd;have g3:=a1.trans (Vp:=D) G λf I=>ap.chg f I;refine p J T gt Vp g2 cv (g3.less (ab:=go++g1) ?_);rw[kz]at bi bm ⊢;intro f;have:=bi f;have:=bm f;simp only[kj] at *;omega
     ·cases j
    ·cases j
   ·cases A
  ·cases e
 ·cases e
end
end L2
namespace G
open L2
variable{ab:aj}{x g:Nat}{VI:List bN}{L:ay (List bN)}{Vu k:aY}{a I B M ah:List ax}{V9 WC s:ai}{VE O S:List a9}{d:a9}{v:aa}{N:cj}{l:az}{P:ct}{o c n:ax}
def Ad(r:aj):bu:=((bf (eg (bK<|aC fb (af<|bF 2 G.dV<|ar (ak 0)<|ar (af<|aG<|.int 2) aH)<|af<|aG<|.int 0) (bf (bZ 2<|eO r 1 "lost"<|G.mm r)<|cw<|dp<|ar (af<|eO r 1 "mown"<|G.ni r)<|ar (af<|eO r 1 "left"<|G.m8 r)<|ar (ak 2) aH) fH)<|bf (bZ 3<|eO r 1 "left"<|G.m8 r)<|bf (bZ 2<|eO r 1 "lost"<|G.mm r)<|cw<|dp<|ar (af<|eO r 1 "mown"<|G.ni r)<|ar (ak 3)<|ar (ak 2) aH))
def pR(r:aj):cj:=(cJ 2 4 [0,1] (Ad r))
def x_:ay ai:=((bF 2 G.iq<|ar (ak 1)<|ar (ak 0) aH))
def y7:bu:=((bf (bZ 1<|bF 1 G.fJ<|ar (af<|dv 1 [0] (cc<|ak 0) (bx 0) g5 G.x_) aH)<|bf (eg (bK<|aC gq (af<|bS dC<|ar (ak 0) aH)<|af<|aC gZ (af<|aC gZ (af<|bS p_<|ar (ak 1) aH)<|af<|aG<|.int 2)<|af<|aG<|.int 2) p7 fH)<|cw<|bS iF<|ar (af<|bS fa<|ar (ak 1) aH) aH))
def nX:cj:=(cJ 1 2 [0] y7)
def Hc:ay ai:=((dp<|ar (ak 2)<|ar (ak 0) aH))
def Ii:ay Bool:=((bK<|aC e5 (ak 0)<|ak 1))
def z5:bu:=((bf (bZ 4<|fp<|ar (af<|dp<|ar (af<|aC a7 (ak 3)<|af<|aG<|.int 0)<|ar (af<|aC dg (af<|aC a7 (ak 3)<|af<|aG<|.int 1)<|af<|aG<|.int 2) aH)<|ar (af<|dp<|ar (af<|aC dg (af<|aC a7 (ak 3)<|af<|aG<|.int 0)<|af<|aG<|.int 2)<|ar (af<|aC a7 (ak 3)<|af<|aG<|.int 1) aH) aH)<|gh<|eI g4 2 kI<|ar (af<|dv 1 [1,3] (cc<|ak 4) (bx 0) G.Ii G.Hc) aH))
def xS:bu:=((bf (bZ 1<|bF 1 G.fJ<|ar (ak 0) aH)<|bf (bZ 2<|fp aH)<|bf (dT (cc<|ak 0) (bx 3) G.z5)<|cw<|dB 2))
def rA:cj:=(cJ 1 5 [0] xS)
def xl:bu:=((cw<|bF 2 G.sO<|ar (ak 0)<|ar (af<|aC dg (af<|bS qM<|ar (ak 1) aH)<|af<|bF 1 G.rA<|ar (ak 0) aH) aH))
def pZ:cj:=(cJ 2 2 [0,1] xl)
def AJ:ay ai:=((aC a7 (ak 0)<|af<|aG<|.int 0))
def z7:ay ai:=((aC a7 (ak 0)<|af<|aG<|.int 1))
def uy:ay ai:=((dB 0))
def vP:ay Bool:=((bK<|aC e5 (ak 0)<|ak 1))
def xk:bu:=((bf (bZ 3<|aC dg (af<|bF 2 G.hx<|ar (ak 1)<|ar (ak 2) aH)<|af<|bF 2 G.hx<|ar (ak 2)<|ar (ak 1) aH)<|bf (bZ 4<|bF 1 G.fJ<|ar (af<|aC dg (af<|dv 1 [] (cc<|ak 3) (bx 0) g5 G.AJ)<|af<|dv 1 [] (cc<|ak 3) (bx 0) g5 G.z7) aH)<|cw<|bS iF<|ar (af<|dv 1 [4] (cc<|ak 0) (bx 0) G.vP G.uy) aH))
def sx:cj:=(cJ 3 5 [0,1,2] xk)
def s8(r:aj):ay ai:=((dB 0))
def r0(r:aj):ay Bool:=((bK<|px ig (af<|bF 2 G.iq<|ar (af<|dI r 1 0 "first")<|ar (ak 0) aH) r 1 5 "taken"))
def ru(r:aj):ay ai:=((dB 0))
def nL(r:aj):ay Bool:=((eR (bK<|aC e5 (af<|aC a7 (ak 0)<|af<|aG<|.int 0)<|ak 1)<|bK<|aC e5 (af<|aC a7 (ak 0)<|af<|aG<|.int 1)<|ak 1))
def yk(r:aj):bu:=((bf (bZ 1<|dv 1 [0] (cc<|af<|dI r 0 0 "first") (bx 0) (G.r0 r)<|G.s8 r)<|bf (gL r 0 1 "ground"<|bF 2 G.pN<|ar (af<|bF 1 G.fJ<|ar (ak 1) aH)<|ar (af<|dI r 0 3 "place") aH)<|bf (bZ 2<|bF 1 G.nX<|ar (af<|dI r 0 1 "ground") aH)<|bf (bZ 3<|bF 1 G.fJ<|ar (ak 2) aH)<|bf (bZ 4<|dI r 0 2 "branches")<|bf (gL r 0 2 "branches"<|bF 2 G.pZ<|ar (ak 2)<|ar (af<|dv 1 [3] (cc<|ak 4) (bx 0) (G.nL r)<|G.ru r) aH)<|cw<|bF 3 G.sx<|ar (ak 2)<|ar (ak 4)<|ar (af<|dI r 0 2 "branches") aH))
def mR(r:aj):cj:=(cJ 1 5 [0] (yk r))
def xF(r:aj):bu:=((bf (eg (hz<|jg<|af<|oJ G.k_ r 0 5 "taken" 1) p7 fH)<|bf (gh<|ow vo r 0 5 "taken" nM 1)<|cw<|eO r 0 "settle"<|G.mR r))
def ph(r:aj):cj:=(cJ 2 2 [0,1] (xF r))
def yN:bu:=((bf (fR (aC a7 (ak 0)<|af<|aG<|.int 0)<|jU 2<|gF (bx 2)<|gF (bx 3) ki)<|cw<|dp<|ar (af<|aC gs (af<|aC a7 (ak 1)<|af<|aG<|.int 0)<|af<|aC fK (af<|aC gs (af<|aC a7 (ak 1)<|af<|aG<|.int 0)<|ak 2)<|af<|aG<|.int 2)<|ar (af<|aC gs (af<|aC a7 (ak 1)<|af<|aG<|.int 1)<|af<|aC fK (af<|aC gs (af<|aC a7 (ak 1)<|af<|aG<|.int 1)<|ak 3)<|af<|aG<|.int 2) aH))
def m9:cj:=(cJ 2 4 [0,1] yN)
def xe(r:aj):bu:=((bf (eg (hz<|jg<|af<|bF 2 G.k_<|ar (af<|bF 1 G.nX<|ar (af<|dI r 0 1 "ground") aH)<|ar (ak 1) aH) p7 fH)<|bf (eg (bK<|aC fb (ak 1)<|af<|bF 2 G.iq<|ar (af<|dI r 0 1 "ground")<|ar (af<|dI r 0 3 "place") aH) p7 fH)<|bf (fR (aG<|.av V)<|oe r 0 5 "taken" 1 eP)<|cw<|eO r 0 "settle"<|G.mR r))
def qZ(r:aj):cj:=(cJ 2 2 [0,1] (xe r))
def qw(r:aj)(P:ct):bu:=((bf (bZ 4<|bF 2 G.dV<|ar (ak 0)<|ar (af<|aG<|.int 6) aH)<|bf (eg (eR (bK<|aC fb (ak 4)<|af<|aG<|.int 0)<|bK<|aC h_ (af<|bS dC<|ar (ak 3) aH)<|af<|aG<|.int 0) (gh<|lT r 1 "goes" (G.ph r) 1<|ar (af<|eI g4 3 k7<|ar (af<|bF 2 G.dV<|ar (ak 0)<|ar (af<|bS dC<|ar (ak 3) aH) aH) aH) aH)<|eg (bK<|aC fb (ak 4)<|af<|aG<|.int 1) (bf (bZ 5<|bF 2 G.m9<|ar (ak 2)<|ar (af<|aC a7 (af<|eO r 1 "field"<|G.k2 r)<|af<|bF 2 G.dV<|ar (ak 0)<|ar (af<|bS dC<|ar (af<|eO r 1 "field"<|G.k2 r) aH) aH) aH)<|eg (bK<|aC gq (ak 5)<|af<|bF 2 G.m9<|ar (ak 2)<|ar (af<|eO r 1 "at"<|G.nu r) aH) (bf (gh<|eI g4 3 gW<|ar (ak 5) aH)<|gh<|lT r 1 "thing" (G.qZ r) 1<|ar (ak 5) aH) fH)<|bf (gh<|eO r 1 "step"<|G.oD r P)<|cw<|aG<|.int 1)<|cw<|aG<|.int 0))
def mI(r:aj)(P:ct):cj:=(cJ 4 6 [0,1,2,3] (qw r P))
def rq(r:aj):bu:=((eg (j_ (hz<|jg<|af<|qt "tuple"<|ak 6)<|bK<|aC gq (af<|bS qM<|ar (ak 6) aH)<|af<|sS<|ar (ak 6) aH) (cw<|aG<|.av aA) fH))
def wH(r:aj):ay ai:=((aC e5 (ak 0)<|ak 1))
def wX(r:aj):ay ai:=((aC e5 (ak 0)<|ak 1))
def zY(r:aj):bu:=((bf (fR (dB 1)<|jU 3<|gF (bx 3)<|gF (bx 4)<|gF (bx 5) ki)<|bf (dT (cc<|ak 1) (bx 6)<|G.rq r)<|bf (eg (j_ (bK<|aC gq (af<|bS fa<|ar (af<|aC dg (af<|aC dg (ak 3)<|ak 4)<|ak 5) aH)<|af<|bS qM<|ar (ak 2) aH)<|bK<|aC gq (af<|dp<|ar (af<|eO r 0 "mown"<|G.ni r)<|ar (af<|eO r 0 "left"<|G.m8 r)<|ar (af<|eO r 0 "lost"<|G.mm r) aH)<|ak 1) (cw<|aG<|.av aA) fH)<|bf (bZ 7<|eO r 0 "field"<|G.k2 r)<|cw<|fX<|eR (bK<|bS qG<|ar (af<|dv 1 [7] (cc<|ak 4) (bx 0) g5<|G.wH r) aH)<|eR (bK<|fX<|hz<|bK<|bS q_<|ar (af<|dv 1 [7] (cc<|ak 5) (bx 0) g5<|G.wX r) aH)<|bK<|aC e5 (af<|eO r 0 "at"<|G.nu r)<|ak 3))
def o_(r:aj):cj:=(cJ 3 8 [0,1,2] (zY r))
def xd(r:aj)(P:ct):ay ai:=((aC e5 (ak 0)<|af<|aC a7 (ak 1)<|af<|aG<|.int 0))
def sm(r:aj)(P:ct):bu:=((bf (bZ 9<|aC a7 (ak 7)<|af<|aG<|.int 0)<|bf (bZ 10<|bF 4 (G.mI r P)<|ar (ak 2)<|ar (ak 5)<|ar (ak 3)<|ar (ak 6) aH)<|bf (bZ 7<|bF 2 (G.pR r)<|ar (ak 2)<|ar (ak 5) aH)<|bf (eg (j_ (hz<|jg<|af<|bF 3 (G.o_ r)<|ar (ak 5)<|ar (ak 7)<|ar (ak 4) aH)<|hz<|jg<|af<|bS qG<|ar (af<|dv 1 [7] (cc<|ak 9) (bx 0) g5<|G.xd r P) aH) (cw<|aG<|.av aA) fH)<|eg (bK<|aC h_ (af<|bS dC<|ar (af<|aC a7 (ak 7)<|af<|aG<|.int 0) aH)<|af<|aC dg (af<|bS dC<|ar (ak 9) aH)<|ak 10) (cw<|aG<|.av aA) fH))
def qx(r:aj)(P:ct):bu:=((bf (bZ 2<|bF 2 G.rY<|ar (ak 0)<|ar (ak 1) aH)<|bf (bZ 3<|bF 2 G.ta<|ar (ak 2)<|ar (af<|aC a7 (af<|fp<|ar (af<|aG<|.int 16)<|ar (af<|aG<|.int 40) aH)<|af<|bS vInt<|ar (af<|aC fb (af<|bF 2 G.dV<|ar (ak 2)<|ar (af<|aG<|.int 8) aH)<|af<|aG<|.int 0) aH) aH)<|bf (bZ 4<|bF 1 G.sk<|ar (ak 3) aH)<|bf (n6 5 6<|ar (af<|p4 r (G.sF r) 3<|ar (ak 4)<|ar (af<|bF 2 G.sA<|ar (ak 2)<|ar (ak 3) aH)<|ar (af<|aC a7 (ak 4)<|af<|bF 2 G.dV<|ar (ak 2)<|ar (af<|bS dC<|ar (ak 4) aH) aH) aH)<|ar (af<|fp aH) aH)<|bf (bZ 7<|bF 2 (G.pR r)<|ar (ak 2)<|ar (ak 5) aH)<|bf (eg (j_ (hz<|jg<|af<|bF 3 (G.o_ r)<|ar (ak 5)<|ar (ak 7)<|ar (ak 4) aH)<|bK<|aC gq (af<|bS dC<|ar (af<|aC a7 (ak 7)<|af<|aG<|.int 0) aH)<|af<|aG<|.int 1) (cw<|aG<|.av aA) fH)<|dT (i8<|ar (af<|aC dg (af<|aG<|.int 10)<|af<|bF 2 G.dV<|ar (ak 2)<|ar (af<|aC a7 (af<|fp<|ar (af<|aG<|.int 21)<|ar (af<|aG<|.int 91) aH)<|af<|bS vInt<|ar (af<|aC fb (af<|bF 2 G.dV<|ar (ak 2)<|ar (af<|aG<|.int 8) aH)<|af<|aG<|.int 0) aH) aH) aH) (bx 8)<|G.sm r P))
def xq(r:aj)(P:ct):bu:=((bf (dT (i8<|ar (af<|aG<|.int 3) aH) (bx 1)<|G.qx r P)<|cw<|aG<|.av V))
def pE(r:aj)(P:ct):cj:=(cJ 1 11 [0] (xq r P))
def rr{f:ai}{s:ai×List ai}(e:qj [f]=Z s):fJ [f]=Z s:=by
 unfold qj v9 cJ at e;unfold fJ qB cJ;rw[aF (show [f].length=1 from rfl)]at e ⊢;have d:([f].map Z++List.replicate (3-1) X:aY)=[Z f,X,X]:=rfl;rw[d]at e ⊢;have j:bZ 1 lR [Z f,X,X]=Z (.aX,[Z f,Z<|.aw [],X]):=rfl;have D:∀s:Option (kH×aY),s=bf (dT (i7 (cc<|ak 0)<|nr<|ak 0) (bx 2) G.kQ) (cw<|dB 1) [Z f,Z<|.aw [],X]->(bf (bZ 1 lR)<|bf (dT (i7 (cc<|ak 0)<|nr<|ak 0) (bx 2) G.kQ)<|cw<|dB 1) [Z f,X,X]=s:=λs a=>(ee j).trans a.symm;have J:(bf (bZ 1 lR)<|bf (dT (cc<|ak 0) (bx 2) G.kK)<|cw<|dB 1) [Z f,X,X]=bf (dT (cc<|ak 0) (bx 2) G.kK) (cw<|dB 1) [Z f,Z<|.aw [],X]:=ee j;rw[J]at e;rw[D _ rfl];have u:dT (i7 (cc<|ak 0)<|nr<|ak 0) (bx 2) G.kQ [Z f,Z<|.aw [],X]=dT (cc<|ak 0) (bx 2) G.kK [Z f,Z<|.aw [],X]:=by
  cases Vl:cc (ak 0) [Z f,Z<|.aw [],X] with
  |none=>
   exfalso;have:bf (dT (cc<|ak 0) (bx 2) G.kK) (cw<|dB 1) [Z f,Z<|.aw [],X]=X:=by
    unfold bf dT;rw[Vl];rfl
   rw[this]at e;cases e
  |some p=>
   unfold dT i7;rw[Vl];rfl
 have H:bf (dT (i7 (cc<|ak 0)<|nr<|ak 0) (bx 2) G.kQ) (cw<|dB 1) [Z f,Z<|.aw [],X]=bf (dT (cc<|ak 0) (bx 2) G.kK) (cw<|dB 1) [Z f,Z<|.aw [],X]:=by
  unfold bf;rw[u]
 rw[H];exact e
def FT(a:ah[0]?=Z n)(b:ah.length<=1000)(e:ah.length=4*(d0 n ah).length):∃B,nX [aE ah]=Z (aE B,[aE ah])/\B.Perm (d0 n ah)/\dk B:=by
 have A:=Sa n ah;let⟨@B,VN,S,V7⟩:=vg (w6 n ah) ⋯;refine⟨B,?_,VN,V7⟩;have bI:=NB (ah:=ah) (P:=d0 n ah) b ⋯;rw[di e]at bI;have Vy:fa [.aw (bc<|d0 n ah)]=Z (aV B):=by
  show gB ((bc<|d0 n ah).map λm=>.tup m.1)=_;rw[bc,fl];exact S
 have c:dv 1 [0] (cc<|ak 0) (bx 0) g5 G.x_ [Z (aE ah),X]=Z (aV<|ah.map<|av n,[Z (aE ah),X]):=by
  refine (r_ (w:=ah.map ag) (n:=X) (Vu:=[Z (aE ah),X]) rfl (n0 _ (λo=>ag<|av n o) ah (λo f=>?_) ⋯)).trans ?_
  ·exact⟨[Z (.im<|ag o),Z<|aE ah],_,[Z (.im<|ag o),Z<|aE ah],rfl,rfl,eG (VI:=[.bo 1,.bo 0]) rfl rfl rfl (vR a) rfl,rfl⟩
  ·show Z (ai.lst _,_)=Z (ai.lst _,_);rw[fl];rfl
 have d:=rr (yU (U:=ah.map (av n)) (by rw[a8];lia));unfold nX y7;exact dY (k:=[Z (aE ah),Z<|.aw<|bc<|d0 n ah]) rfl (bV (Vu:=[Z (aE ah),Z<|.aw<|bc<|d0 n ah]) (fG (eG (VI:=[.cu (aV<|ah.map<|av n)]) (bU (aT c) rfl) rfl rfl d rfl) (eU rfl) rfl)<|bV (gg bI rfl)<|dx<|nd<|gu (bU rfl rfl) rfl Vy) rfl
def NG(VE:er M):rA [aE M]=Z (bj<|ef M,[aE M]):=by
 have e:=VE.len;let⟨a,@b,c⟩:=BB (M:=M) (C:=Z (aE M)) M [] X X (by simp;lia);rw[gp]at c;have d:dr (bx 3) z5 (M.map ag) [Z (aE M),Z<|.aw<|bc M,Z<|bj [],X,X]=Z (.aX,[Z (aE M),Z<|.aw<|bc M,Z<|bj<|M.flatMap<|fc M,a,b]):=c;unfold rA xS;exact dY (k:=[Z (aE M),Z<|.aw<|bc M,Z .dK,a,b]) rfl (bV (Vu:=[Z (aE M),Z<|.aw<|bc M,X,X,X]) (fG (eG (VI:=[.bo 0]) rfl rfl rfl (rr (DG VE.aq ⋯)) rfl) (eU rfl) rfl)<|bV (Vu:=[Z (aE M),Z<|.aw<|bc M,Z<|bj [],X,X]) rfl<|bV (jt (n:=X) rfl d rfl)<|dx rfl) rfl
theorem An:∀(S:List a9) (j:(ax->ax)×List a9),(∀d∈j.2,j.1 d.1=j.1 d.2)->j.2.Nodup->(iu S j).2.Nodup
 |[],_,_,aq=>aq
 |d::S,j,e,aq=>by
  show (iu S<|b1 j d).2.Nodup;unfold b1;split
  ·exact An S j e aq
  ·rename_i ne;refine An S _ (λF b=>?_) (cO.mpr ⟨aq,eB _ _,λf a z c i=>?_⟩)
   ·show gy j.1 d F.1=gy j.1 d F.2;unfold gy;rcases du.mp b with i|i
    ·rw[e F i]
    ·rw[cb.mp i,aJ ne,aF rfl]
   ·rw[i,cb.mp c]at a;exact ne (e d a)
def P0{kept:List a9}(VE:er M)(f:∀d∈kept,gP M d)(l:kept.length<=200):∃B:List a9,pZ [aE M,bj kept]=Z (.im<|.tup<|B.map aP,[aE M,bj kept])/\(∀d∈B,gP M d)/\B.length<=40:=by
 have av:=VE.len;have aZ:=xU M M;have m:(ef M).length<=2*M.length:=aZ;have Vl:∀d∈kept++ef M,gP M d:=λd e=>by
  rcases du.mp e with i|i
  ·exact f d i
  ·exact yP.mp i
 have a:∀d∈kept++ef M,d.1∈M/\d.2∈M:=λd e=>⟨(Vl d e).1,(Vl d e).2.1⟩;let@⟨Wk,⟨@VH,g,h⟩,_,_⟩:=Em VE.aq (kept++ef M) (λc=>c,[]) (ml.start M) a;have aq:=An (kept++ef M) (λc=>c,[]) (λd e=>nomatch e) hn;have n:=Wk.cnt;let⟨@B,b,j,W⟩:=Nj aq ⋯;have r:=Ol VE.aq ⋯ (by rw[dd];lia) a j;have ad:dg (bj kept) (bj<|ef M)=Z (bj<|kept++ef M):=by
  rw[show bj (kept++ef M)=.lst (kept.map aP++(ef M).map aP) by rw[bj,fi]];exact aF (by rw[a8,a8];lia)
 refine⟨B,?_,λd e=>Vl d<|h.subset ?_,by rw[b.length_eq];lia⟩
 ·unfold pZ xl;exact dY (k:=[Z (aE M),Z<|bj kept]) rfl (dx<|eG (VI:=[.bo 0,.cu<|bj<|kept++ef M]) (bU rfl<|bU (aT<|bX (aT<|gu (bU rfl rfl) rfl rfl) (aT<|eG (VI:=[.bo 0]) rfl rfl rfl (NG VE) rfl) rfl rfl ad) rfl) rfl rfl r rfl) rfl
 ·have:=b.mem_iff.mp e;rw[g,gp]at this;exact this
def fD(n:ax)(ah Vq:List ax):List ax:=(ah.filter λo=>decide (av n o∉Vq))
def nf(M Wb:List ax):List ax:=(M.filter λc=>decide (c∈Wb))
def Q4{Wb:List ax}(Vy:∀q,q<4->cl c q∈Wb->cl c ((q+1)%4)∈Wb)(e:o∈e6 c)(a:o∈Wb):∀v∈e6 c,v∈Wb:=by
 let⟨@q,b,rfl⟩:=so e;have f:=Vy q b a;have Wu:=Vy ((q+1)%4) (lF _ ∅) f;have g:=Vy (((q+1)%4+1)%4) (lF _ ∅) Wu;intro v hd;let⟨@r,h,rfl⟩:=so hd;have:r=q\/r=(q+1)%4\/r=((q+1)%4+1)%4\/r=(((q+1)%4+1)%4+1)%4:=(by decide:∀q,q<4->∀r,r<4->r=q\/r=(q+1)%4\/r=((q+1)%4+1)%4\/r=(((q+1)%4+1)%4+1)%4) q b r h;rcases this with d|d|d|d
 ·rw[d];exact a
 ·rw[d];exact f
 ·rw[d];exact Wu
 ·rw[d];exact g
def Ko(c:ax):∀q,q<4->oE (cl c q) (cl c<|(q+1)%4)=V:=λq a=>by
 refine vc.mpr ?_
 match q,a with
 |0,_|1,_|2,_|3,_=>simp[hZ,cl]
section
variable{M ah Vq Wb:List ax}{n m:ax}
def qO:o∈fD n ah Vq↔o∈ah/\av n o∉Vq:=by
 unfold fD;rw[n9,gD]
def Cp(VE:er M)(VN:ah.Perm (cells M))(b:n∈M){o:ax}:o∈ah↔av n o∈M:=by
 rw[VN.mem_iff];constructor
 ·intro e;let⟨@c,f,⟨@q,a,rfl⟩⟩:=kc.mp e
  rwa [pI (VE.par c f n b) (ly c a)]
 ·intro e;let⟨@q,a,d⟩:=so (xr n o);exact kc.mpr ⟨_,e,q,a,d⟩
def Dh(n f z:Int)(e:z=f+1\/z=f-1):f-(f-n)%2=z-(z-n)%2\/z-(z-n)%2=f-(f-n)%2+2\/f-(f-n)%2=z-(z-n)%2+2:=by omega
def Tq(n:ax){h c:ax}(e:oE h c=V):av n h=av n c\/av n c=((av n h).1,(av n h).2+2)\/av n c=((av n h).1+2,(av n h).2)\/av n h=((av n c).1,(av n c).2+2)\/av n h=((av n c).1+2,(av n c).2):=by
 let Vp:ax->Prop:=λc=>av n h=av n c\/av n c=((av n h).1,(av n h).2+2)\/av n c=((av n h).1+2,(av n h).2)\/av n h=((av n c).1,(av n c).2+2)\/av n h=((av n c).1+2,(av n c).2)
 have u:∀{z:Int},(z=h.1+1\/z=h.1-1)->Vp (z,h.2):=λ{z} a=>by
  rcases Dh n.1 h.1 z a with d|d|d
  ·exact .inl (dQ d rfl)
  ·exact .inr (.inr<|.inl<|dQ d rfl)
  ·exact .inr (.inr<|.inr<|.inr<|dQ d rfl)
 have H:∀{z:Int},(z=h.2+1\/z=h.2-1)->Vp (h.1,z):=λ{z} a=>by
  rcases Dh n.2 h.2 z a with d|d|d
  ·exact .inl (dQ rfl d)
  ·exact .inr (.inl<|dQ rfl d)
  ·exact .inr (.inr<|.inr<|.inl<|dQ rfl d)
 have:=vc.mp e;unfold hZ at this;simp only[cm,fW,i0]at this;rcases this with i|i|i|i
 ·exact i ▸ u (.inr rfl)
 ·exact i ▸ H (.inr rfl)
 ·exact i ▸ H (.inl rfl)
 ·exact i ▸ u (.inl rfl)
def Py(VE:er M)(VN:ah.Perm (cells M))(x:n∈M)(E:m∈fD n ah Vq)(y:ia Wb)(g:∀f,f∈Wb↔m5 (fD n ah Vq) m f):
  er (nf M Wb)/\Wb.Perm (cells<|nf M Wb)/\dk Wb/\(∀c∈nf M Wb,c∈M/\c∉Vq)/\m∈Wb/\∀o∈Wb,o∈ah:=by
 have l:∀f∈Wb,f∈fD n ah Vq:=λf r=>by
  cases (g f).mp r with
  |self=>exact E
  |step _ e _=>exact e
 have F:∀{h c:ax},h∈Wb->c∈fD n ah Vq->oE h c=V->c∈Wb:=λj a d=>(g _).mpr (.step ((g _).mp j) a d);have d4:∀{c:ax},c∈M->∀v∈e6 c,av n v=c:=λa v hd=>pI (VE.par _ a n x) hd;have A:∀{c o:ax},c∈M->o∈e6 c->o∈Wb->∀v∈e6 c,v∈Wb:=λ{c o} a e b=>by
  have G:c∉Vq:=by
   have:=(qO.mp<|l o b).2
   rwa [d4 a o e]at this
  refine Q4 (λq k i=>F i (qO.mpr ⟨(Cp VE VN x).mpr ?_,?_⟩)<|Ko c q k) e b
  ·rw[d4 a _ (ly c (lF _ ∅))];exact a
  ·rw[d4 a _ (ly c (lF _ ∅))];exact G
 have aM:∀c:ax,c∈e6 c:=λc=>.head _;have fS:∀{c:ax},c∈nf M Wb↔c∈M/\c∈Wb:=λ{c}=>by
  unfold nf;rw[n9,gD]
 have s:∀{o:ax},o∈Wb->av n o∈nf M Wb:=λ{o} b=>by
  have a:=(Cp VE VN x).mp (qO.mp<|l o b).1;exact fS.mpr ⟨a,A a (xr n o) b _<|aM _⟩
 have B:m∈Wb:=(g m).mpr .self;have hM:er (nf M Wb):=by
  refine⟨λi=>?_,VE.aq.sublist qU,dc (mq _ _) VE.len,λc a=>VE.lZ c (fS.mp a).1,λh j c a=>VE.par h (fS.mp j).1 c (fS.mp a).1,λp t h j c a=>?_⟩
  ·have:=s B;rw[i]at this;cases this
  ·have all:∀o,m5 (fD n ah Vq) m o->p (av n o)=p (av n m):=λo e=>by
    induction e with
    |self=>rfl
    |@step f z r H d I=>
     have u:=s ((g f).mpr r);have w:=s ((g z).mpr<|.step r H d);rw[<-I];rcases Tq n d with i|i|i|i|i
     ·rw[i]
     ·exact (t _ u _ w<|.inl i).symm
     ·exact (t _ u _ w<|.inr i).symm
     ·exact t _ w _ u (.inl i)
     ·exact t _ w _ u (.inr i)
   have C:=all h ((g h).mp (fS.mp j).2);have D:=all c ((g c).mp (fS.mp a).2);rw[d4 (fS.mp j).1 h (aM h)]at C;rw[d4 (fS.mp a).1 c (aM c)]at D;rw[C,D]
 refine⟨hM,(uP (R8 y) hM.Aa).mpr λo=>?_,p1.mpr y,λc a=>⟨(fS.mp a).1,?_⟩,B,λo b=>(qO.mp<|l o b).1⟩
 ·constructor
  ·intro b;let⟨@q,k,d⟩:=so (xr n o);exact kc.mpr ⟨_,s b,q,k,d⟩
  ·intro b;let⟨@c,a,⟨@q,k,rfl⟩⟩:=kc.mp b;exact A (fS.mp a).1 (aM c) (fS.mp a).2 _ (ly c k)
 ·have:=(qO.mp<|l c (fS.mp a).2).2
  rwa [d4 (fS.mp a).1 c (aM c)]at this
end
abbrev bO(ab:aj)(ah y Vq:List ax)(D:aa)(m:ax)(U:List ax):ai:=.aQ ab es [aE ah,aE y,.im D,.im<|ag m,.aw<|a0 U,.aw<|a0 Vq]
section
variable{ab:aj}{ah y Vq U:List ax}{D:aa}{m:ax}
def C5:nu ab [bO ab ah y Vq D m U]=Z (.im<|ag m,[bO ab ah y Vq D m U]):=by
 unfold nu yg;exact dY rfl (dx<|kM (P:=es) (E:=[aE ah,aE y,.im D,.im<|ag m,.aw<|a0 U,.aw<|a0 Vq]) rfl rfl rfl) rfl
def z8:k2 ab [bO ab ah y Vq D m U]=Z (aE y,[bO ab ah y Vq D m U]):=by
 unfold k2 x6;exact dY rfl (dx<|kM (P:=es) (E:=[aE ah,aE y,.im D,.im<|ag m,.aw<|a0 U,.aw<|a0 Vq]) rfl rfl rfl) rfl
def BO(e:fa [.aw (a0 U)]=Z (aV B)):ni ab [bO ab ah y Vq D m U]=Z (aE B,[bO ab ah y Vq D m U]):=by
 unfold ni zI;exact dY rfl (dx<|nd<|Pm (P:=es) (E:=[aE ah,aE y,.im D,.im<|ag m,.aw<|a0 U,.aw<|a0 Vq]) rfl rfl rfl e) rfl
def FF(aq:U.Nodup)(a:U.length<1000)(b:y.length<=1000):m8 ab [bO ab ah y Vq D m U]=Z (aE<|outs y U,[bO ab ah y Vq D m U]):=by
 have e:=Cx aq a b;have c:dI ab 0 1 "ground" [Z (bO ab ah y Vq D m U)]=Z (aE y,[Z (bO ab ah y Vq D m U)]):=kM (P:=es) (E:=[aE ah,aE y,.im D,.im<|ag m,.aw<|a0 U,.aw<|a0 Vq]) rfl rfl rfl;unfold m8 x2;exact dY rfl (dx<|nd<|Hm (aT c) rfl (P:=es) (E:=[aE ah,aE y,.im D,.im<|ag m,.aw<|a0 U,.aw<|a0 Vq]) rfl rfl rfl e<|xc _) rfl
def Df(aq:U.Nodup)(a:U.length<1000)(i:ah.length<1000)(b:y.Nodup)(c:y.length<1000):mm ab [bO ab ah y Vq D m U]=Z (aE<|outs (outs ah U) y,[bO ab ah y Vq D m U]):=by
 have e:=Cx aq a (ah:=ah) (by omega);have A:=Qv b c (w:=outs ah U) (by unfold outs;have:=mq (λo=>decide (o∉U)) ah;omega);have d:dI ab 0 0 "first" [Z (bO ab ah y Vq D m U)]=Z (aE ah,[Z (bO ab ah y Vq D m U)]):=kM (P:=es) (E:=[aE ah,aE y,.im D,.im<|ag m,.aw<|a0 U,.aw<|a0 Vq]) rfl rfl rfl;have f:dI ab 0 1 "ground" [Z (bO ab ah y Vq D m U)]=Z (aE y,[Z (bO ab ah y Vq D m U)]):=kM (P:=es) (E:=[aE ah,aE y,.im D,.im<|ag m,.aw<|a0 U,.aw<|a0 Vq]) rfl rfl rfl;have h:=Hm (N:=G.hx) (aT d) rfl (P:=es) (E:=[aE ah,aE y,.im D,.im<|ag m,.aw<|a0 U,.aw<|a0 Vq]) (g:=0) (r:=4) (F := "over") rfl rfl rfl e (xc _);unfold mm zS;exact dY rfl (dx<|nd<|eG (bU (aT h)<|bU (aT f) rfl) rfl rfl A rfl) rfl
def QB{p:ax}(a:lC P [aE y,.im D,.im<|ag m]=Z (.im<|ag p,[aE y,.im D,.im<|ag m]))(b:U.length<1000):oD ab P [bO ab ah y Vq D m U]=Z (.im<|ag p,[bO ab ah y Vq D p (gU U p)]):=by
 have c:dI ab 0 1 "ground" [Z (bO ab ah y Vq D m U)]=Z (aE y,[Z (bO ab ah y Vq D m U)]):=kM (P:=es) (E:=[aE ah,aE y,.im D,.im<|ag m,.aw<|a0 U,.aw<|a0 Vq]) rfl rfl rfl;have d:dI ab 0 2 "branches" [Z (bO ab ah y Vq D m U)]=Z (.im D,[Z (bO ab ah y Vq D m U)]):=kM (P:=es) (E:=[aE ah,aE y,.im D,.im<|ag m,.aw<|a0 U,.aw<|a0 Vq]) rfl rfl rfl;have e:dI ab 0 3 "place" [Z (bO ab ah y Vq D m U)]=Z (.im<|ag m,[Z (bO ab ah y Vq D m U)]):=kM (P:=es) (E:=[aE ah,aE y,.im D,.im<|ag m,.aw<|a0 U,.aw<|a0 Vq]) rfl rfl rfl;have f:gL ab 0 3 "place" (bF 3 (G.lC P)<|ar (af<|dI ab 0 1 "ground")<|ar (af<|dI ab 0 2 "branches")<|ar (af<|dI ab 0 3 "place") aH) [Z (bO ab ah y Vq D m U)]=Z (.aX,[Z (bO ab ah y Vq D p U)]):=
  xD (eG (bU (aT c)<|bU (aT d)<|bU (aT e) rfl) rfl rfl a rfl) (P:=es) (E:=[aE ah,aE y,.im D,.im<|ag m,.aw<|a0 U,.aw<|a0 Vq]) rfl ∅ rfl (show 3<6 by decide) rfl;have g:fR (aG<|.av V) (n2 ab 0 4 "over" 3 "place" eP) [Z (bO ab ah y Vq D p U)]=Z (.aX,[Z (bO ab ah y Vq D p<|gU U p)]):=
  ih rfl (NO (P:=es) (E:=[aE ah,aE y,.im D,.im<|ag p,.aw<|a0 U,.aw<|a0 Vq]) rfl rfl rfl rfl rfl (xM b) rfl);unfold oD zL;exact dY rfl (bV f<|bV g<|dx<|kM (P:=es) (E:=[aE ah,aE y,.im D,.im<|ag p,.aw<|a0<|gU U p,.aw<|a0 Vq]) rfl rfl rfl) rfl
def iC(a:k[g]?=Z (Z<|bO ab ah y Vq D m U))(b:N [bO ab ah y Vq D m U]=Z (s,[bO ab ah y Vq D m U]))(c:es.contains l=aA:=by decide):eO ab g l N k=Z (s,k):=vx (P:=es) (E:=[aE ah,aE y,.im D,.im<|ag m,.aw<|a0 U,.aw<|a0 Vq]) a c b (wK a)
def l6{r:Nat}{F:az}(a:k[g]?=Z (Z<|bO ab ah y Vq D m U))(e:es[r]?=Z F)(hd:[aE ah,aE y,.im D,.im<|ag m,.aw<|a0 U,.aw<|a0 Vq][r]?=Z (ai.im v)):dI ab g r F k=Z (.im v,k):=kM a e hd
end
def eH(S:List a9):List (List aa×aa):=(S.map λd=>(eF d,.av V))
def fk(S:List a9)(d:a9):List a9:=(if d∈S then S else S++[d])
def QD{f:a9}:f∈fk S d↔f∈S\/f=d:=by
 unfold fk;split
 ·rename_i e;exact⟨.inl,λi=>i.elim id λd=>by rw[d];exact e⟩
 ·simp
def DH:((eH S).any λa=>decide (a.1=eF d))=decide (d∈S):=by
 rw[k5,gD];unfold eH;rw[oU,j4];constructor
 ·rintro⟨f,b,e⟩;rw[<-Iu (fE e)];exact b
 ·exact λe=>⟨d,e,by simp⟩
def I3(a:S.length<1000):eP (.aw<|eH S) (.im<|aP d) (.im<|.av V)=Z (.aw<|eH<|fk S d):=by
 show (if aa.keys 7 (eF d)=V/\(eH S).length<100000 then Z (ai.aw<|fL (eH S) (eF d)<|.av V) else X)=_;rw[aF ⟨BS d,by unfold eH;rw[a8];omega⟩];unfold fL fk;rw[DH];by_cases e:d∈S
 ·rw[aF (di e),aF e];refine congrArg (λI=>Z<|ai.aw I) ?_;unfold eH;rw[fl];refine lD λf W=>?_;show (if eF f=eF d then (eF f,aa.av V) else (eF f,.av V))=_;split<;>rfl
 ·rw[aJ (by simp[e]),aJ e];unfold eH;rw[fi];rfl
def Iy(S:List a9)(d:a9):fj (aP d) (.aw<|eH S)=Z (decide (d∈S)):=by
 have h:=DH (S:=S) (d:=d);have e:(en (eH S)<|eF d).isSome=decide (d∈S):=by
  rw[<-h];unfold en;rw[qH,k5,CV,j4]
 show (if aa.keys 7 (eF d)=V then Z (en (eH S)<|eF d).isSome else X)=_;rw[aF (BS d),e]
theorem HT:∀(S done:List a9) (C VW:Option ai),done.length+S.length<1000->∃a,dr (bx 2) kQ (S.map aP) [C,Z<|.aw<|eH done,VW]=Z (.aX,[C,Z<|.aw<|eH<|S.foldl fk done,a])
 |[],done,C,VW,_=>⟨VW,rfl⟩
 |c::S,done,C,VW,b=>by
  rw[dn]at b;have e:(fk done c).length<=done.length+1:=by
   unfold fk;split
   ·lia
   ·rw[dd,iJ];exact bD _
  let⟨@a,d⟩:=HT S (fk done c) C (Z<|.im<|aP c) ⋯;refine⟨a,?_⟩;rw[b4];exact ua (Vu:=[C,Z<|.aw<|eH done,Z<|.im<|aP c]) rfl (ih rfl (by
   show ((eP (.aw<|eH done) (.im<|aP c)<|.im<|.av V).map λV9=>_)=_;rw[I3 ⋯];rfl)) d
theorem Dp:∀(S done:List a9) (f:a9),f∈S.foldl fk done↔f∈done\/f∈S
 |[],done,f=>by simp
 |d::S,done,f=>by
  rw[jT,Dp S (fk done d) f,QD,cm,or_assoc]
abbrev cF(S:List a9):ai:=.im (.tup<|S.map aP)
def OY(b:S.length<1000):fJ [cF S]=Z (.aw<|eH<|S.foldl fk [],[cF S]):=by
 let⟨@VW,a⟩:=HT S [] (Z<|cF S) X (by rw[l1];lia);unfold fJ qB;refine dY rfl ((ee (Vu:=[Z (cF S),Z<|.aw<|eH [],X]) rfl).trans<|(ee<|(oy (n:=X) (w:=S.map aP) (Vu:=[Z (cF S),Z<|.aw<|eH [],X]) rfl a).trans rfl).trans<|dx rfl) rfl
def jk(w U:List a9):List a9:=(w.filter λd=>decide (d∉U))
def FJ(f:O.length<1000)(a:VE.length<1000):hx [cF O,cF VE]=Z (bj<|jk O VE,[cF O,cF VE]):=by
 have WR:∀d,decide (d∉VE.foldl fk [])=decide (d∉VE):=λd=>by
  rw[s9,Dp];simp
 have el:dv 1 [2] (cc<|ak 0) (bx 0) G.qP G.qn [Z (cF O),Z<|cF VE,Z<|.aw<|eH<|VE.foldl fk []]=Z (bj<|jk O VE,[Z (cF O),Z<|cF VE,Z<|.aw<|eH<|VE.foldl fk []]):=by
  refine kg (w:=O.map aP) (n:=X) (Vu:=[Z (cF O),Z<|cF VE,Z<|.aw<|eH<|VE.foldl fk []]) rfl (kr (own:=1) (VR:=bx 0) (o:=G.qP) (d:=G.qn) (ab:=[Z (.aw<|eH<|VE.foldl fk [])]) aP (λd=>decide (d∉VE)) aP O [] (λd W=>?_) (by rw[l1];lia)) rfl;have b:=Iy (VE.foldl fk []) d;refine⟨[Z (.im<|aP d),Z<|.aw<|eH<|VE.foldl fk []],[Z (.im<|aP d),Z<|.aw<|eH<|VE.foldl fk []],rfl,?_,λ_=>rfl,λ_=>⟨_,rfl,rfl⟩⟩;show (((fj (aP d)<|.aw<|eH<|VE.foldl fk []).map λs=>ai.im<|.av<|!s).map λv=>(v,_)).bind (λm=>(kW m.1).map λc=>(c,m.2))=_;rw[b,<-WR d];have:(!decide (d∈VE.foldl fk []))=decide (d∉VE.foldl fk []):=by by_cases e:d∈VE.foldl fk []<;>simp[e]
  rw[<-this];rfl
 unfold hx rO;exact dY (k:=[Z (cF O),Z<|cF VE,Z<|.aw<|eH<|VE.foldl fk []]) rfl (bV (Vu:=[Z (cF O),Z<|cF VE,Z<|.aw<|eH<|VE.foldl fk []]) (fG (eG (VI:=[.bo 1]) rfl rfl rfl (OY a) rfl) (eU rfl) rfl)<|dx el) rfl
def Rx(i:O.length<=200)(j:VE.length<=200)(l:M.length<=900):∃s,sx [aE M,cF O,cF VE]=Z (.im s,[aE M,cF O,cF VE]):=by
 have m:(jk O VE).length<=O.length:=mq _ _;have p:(jk VE O).length<=VE.length:=mq _ _;obtain⟨ay,a⟩:∃ay,ay=jk O VE++jk VE O:=⟨_,rfl⟩;have q:ay.length<=400:=by rw[a,dd];lia
 have ad:dg (bj<|jk O VE) (bj<|jk VE O)=Z (bj ay):=by
  rw[a,show bj (jk O VE++jk VE O)=.lst ((jk O VE).map aP++(jk VE O).map aP) by rw[bj,fi]];exact aF (by rw[a8,a8];lia)
 have c:dv 1 [] (cc<|ak 3) (bx 0) g5 G.AJ [Z (aE M),Z<|cF O,Z<|cF VE,Z<|bj ay,X]=Z (aV (ay.map (·.1)),[Z (aE M),Z<|cF O,Z<|cF VE,Z<|bj ay,X]):=by
  refine (kg (w:=ay.map aP) (n:=Z (3,bj ay)) (Vu:=[Z (aE M),Z<|cF O,Z<|cF VE,Z .dK,X]) rfl (n0 aP (λd=>ag d.1) _ (λd W=>⟨[Z (.im<|aP d)],_,[Z (.im<|aP d)],rfl,rfl,bX rfl rfl rfl rfl rfl,rfl⟩) ⋯) rfl).trans ?_;rw[aV,fl];rfl
 have e:dv 1 [] (cc<|ak 3) (bx 0) g5 G.z7 [Z (aE M),Z<|cF O,Z<|cF VE,Z<|bj ay,X]=Z (aV (ay.map (·.2)),[Z (aE M),Z<|cF O,Z<|cF VE,Z<|bj ay,X]):=by
  refine (kg (w:=ay.map aP) (n:=Z (3,bj ay)) (Vu:=[Z (aE M),Z<|cF O,Z<|cF VE,Z .dK,X]) rfl (n0 aP (λd=>ag d.2) _ (λd W=>⟨[Z (.im<|aP d)],_,[Z (.im<|aP d)],rfl,rfl,bX rfl rfl rfl rfl rfl,rfl⟩) ⋯) rfl).trans ?_;rw[aV,fl];rfl
 have f:dg (aV (ay.map (·.1))) (aV (ay.map (·.2)))=Z (aV (ay.map (·.1)++ay.map (·.2))):=by
  rw[show aV (ay.map (·.1)++ay.map (·.2))=.lst ((ay.map (·.1)).map ag++(ay.map (·.2)).map ag) by rw[aV,fi]];exact aF (by rw[a8,a8,a8,a8];lia)
 obtain⟨VS,g⟩:∃VS,VS=(ay.map (·.1)++ay.map (·.2)).foldl f3 []:=⟨_,rfl⟩;have b:=rr (yU (U:=ay.map (·.1)++ay.map (·.2)) (by rw[dd,a8,a8];lia));rw[<-g]at b;have h:dv 1 [4] (cc<|ak 0) (bx 0) G.vP G.uy [Z (aE M),Z<|cF O,Z<|cF VE,Z<|bj ay,Z<|.aw<|bc VS]=Z (aV<|M.filter λo=>decide (o∈VS),[Z (aE M),Z<|cF O,Z<|cF VE,Z<|bj ay,Z<|.aw<|bc VS]):=
  kg (w:=M.map ag) (n:=X) (Vu:=[Z (aE M),Z<|cF O,Z<|cF VE,Z<|bj ay,Z<|.aw<|bc VS]) rfl (kr (own:=1) (VR:=bx 0) (o:=G.vP) (d:=G.uy) (ab:=[Z (.aw<|bc VS)]) ag (λo=>decide (o∈VS)) ag M [] (λo W=>⟨[Z (.im<|ag o),Z<|.aw<|bc VS],[Z (.im<|ag o),Z<|.aw<|bc VS],rfl,d7<|cL<|o1 VS o,λ_=>rfl,λ_=>⟨_,rfl,rfl⟩⟩) (by rw[l1];lia)) rfl;refine⟨.tup<|(M.filter λo=>decide (o∈VS)).map ag,?_⟩;unfold sx xk;refine dY (k:=[Z (aE M),Z<|cF O,Z<|cF VE,Z<|bj ay,Z<|.aw<|bc VS]) rfl (bV (Vu:=[Z (aE M),Z<|cF O,Z<|cF VE,Z<|bj ay,X]) (fG (bX (aT (eG (VI:=[.bo 1,.bo 2]) rfl rfl rfl (FJ ⋯ ⋯) rfl)) (aT (eG (VI:=[.bo 2,.bo 1]) rfl rfl rfl (FJ ⋯ ⋯) rfl)) rfl rfl ad) (eU rfl) rfl) (bV (Vu:=[Z (aE M),Z<|cF O,Z<|cF VE,Z<|bj ay,Z<|.aw<|bc VS]) (fG (eG (VI:=[.cu (aV (ay.map (·.1)++ay.map (·.2)))]) (bU (aT<|bX (aT c) (aT e) rfl rfl f) rfl) rfl rfl b rfl) (eU rfl) rfl)<|dx<|nd h)) rfl
def LZ{O VE:List ax}(e:O.Perm VE):(cells O).Perm (cells VE):=e.flatMap_right _
def er.perm{O VE:List ax}(c:er O)(e:VE.Perm O):er VE:=
 ⟨λi=>c.ne (by rw[i]at e;exact Ul e.symm),e.nodup_iff.mpr c.aq,by rw[e.length_eq];exact c.len,λf a=>c.lZ f<|e.mem_iff.mp a,λf a z b=>c.par f (e.mem_iff.mp a) z<|e.mem_iff.mp b,λm d f a z b=>c.con m (λh g o j=>d h (e.mem_iff.mpr g) o<|e.mem_iff.mpr j) f (e.mem_iff.mp a) z<|e.mem_iff.mp b⟩
section
variable{ab:aj}{M ah y Vq U:List ax}{Vv:List a9}{m n:ax}
def If(a:ah[0]?=Z n)(f:ah.length<=200){D:aa}{VG VW VZ Wi:Option ai}:bZ 1 (dv 1 [0] (cc<|af<|dI ab 0 0 "first") (bx 0) (G.r0 ab)<|G.s8 ab) [Z (bO ab ah y Vq D m U),VG,VW,VZ,Wi]=Z (.aX,[Z (bO ab ah y Vq D m U),Z<|aV<|fD n ah Vq,VW,VZ,Wi]):=by
 have aW:dI ab 0 0 "first" [Z (bO ab ah y Vq D m U),VG,VW,VZ,Wi]=Z (aE ah,[Z (bO ab ah y Vq D m U),VG,VW,VZ,Wi]):=l6 rfl rfl rfl;have el:dv 1 [0] (cc<|af<|dI ab 0 0 "first") (bx 0) (G.r0 ab) (G.s8 ab) [Z (bO ab ah y Vq D m U),VG,VW,VZ,Wi]=Z (aV<|fD n ah Vq,[Z (bO ab ah y Vq D m U),VG,VW,VZ,Wi]):=by
  refine kg (w:=ah.map ag) (n:=X) (Vu:=[Z (bO ab ah y Vq D m U),VG,VW,VZ,Wi]) ?_ (kr (own:=1) (VR:=bx 0) (o:=G.r0 ab) (d:=G.s8 ab) (ab:=[Z (bO ab ah y Vq D m U)]) ag (λo=>decide (av n o∉Vq)) ag ah [] (λo W=>?_) (by rw[l1];lia)) rfl
  ·unfold cc;rw[c3 aW];rfl
  ·have b:dI ab 1 0 "first" [Z (.im<|ag o),Z<|bO ab ah y Vq D m U]=Z (aE ah,[Z (.im<|ag o),Z<|bO ab ah y Vq D m U]):=l6 rfl rfl rfl;have cE:bF 2 G.iq (ar (af<|dI ab 1 0 "first")<|ar (ak 0) aH) [Z (.im<|ag o),Z<|bO ab ah y Vq D m U]=Z (.im<|ag<|av n o,[Z (.im<|ag o),Z<|bO ab ah y Vq D m U]):=eG (VI:=[.cu (aE ah),.bo 0]) (bU (aT b)<|bU rfl rfl) rfl rfl (vR a) rfl;have p:px ig (af<|bF 2 G.iq<|ar (af<|dI ab 1 0 "first")<|ar (ak 0) aH) ab 1 5 "taken" [Z (.im<|ag o),Z<|bO ab ah y Vq D m U]=Z (.im<|.av<|decide (av n o∉Vq),[Z (.im<|ag o),Z<|bO ab ah y Vq D m U]):=by
    have Vy:lr ab 1 5 "taken" [Z (.im<|ag o),Z<|bO ab ah y Vq D m U]=Z (.aw<|a0 Vq):=ux (P:=es) (E:=[aE ah,aE y,.im D,.im<|ag m,.aw<|a0 U,.aw<|a0 Vq]) rfl rfl rfl;have c:ig (.im<|ag<|av n o) (.aw<|a0 Vq)=Z (.im<|.av<|decide (av n o∉Vq)):=by
     show (fj (ag<|av n o)<|.aw<|a0 Vq).map (λs=>ai.im<|.av<|!s)=_;rw[yE];show Z (ai.im<|.av<|!decide (av n o∈Vq))=_;have:(!decide (av n o∈Vq))=decide (av n o∉Vq):=by by_cases e:av n o∈Vq<;>simp[e]
     rw[this]
    unfold px;rw[c3 cE];show (lr ab 1 5 "taken" [Z (.im<|ag o),Z<|bO ab ah y Vq D m U]).bind _=_;rw[Vy];rw[gH,c];rfl
   refine⟨[Z (.im<|ag o),Z<|bO ab ah y Vq D m U],[Z (.im<|ag o),Z<|bO ab ah y Vq D m U],rfl,d7 p,λ_=>rfl,λ_=>⟨_,rfl,rfl⟩⟩
 exact fG el (eU rfl) rfl
def uc(B:List ax)(Vv:List a9):List a9:=(Vv.filter λd=>decide (d.1∈B)&&decide (d.2∈B))
def PN(c:Vv.length<=200){C VG VW:Option ai}:dv 1 [3] (cc<|ak 4) (bx 0) (G.nL ab) (G.ru ab) [C,VG,VW,Z<|.aw<|bc B,Z<|cF Vv]=Z (bj<|uc B Vv,[C,VG,VW,Z<|.aw<|bc B,Z<|cF Vv]):=by
 refine kg (w:=Vv.map aP) (n:=X) (Vu:=[C,VG,VW,Z<|.aw<|bc B,Z<|cF Vv]) rfl (kr (own:=1) (VR:=bx 0) (o:=G.nL ab) (d:=G.ru ab) (ab:=[Z (.aw<|bc B)]) aP (λd=>decide (d.1∈B)&&decide (d.2∈B)) aP Vv [] (λd W=>?_) (by rw[l1];lia)) rfl;have a:bK (aC e5 (af<|aC a7 (ak 0)<|af<|aG<|.int 0)<|ak 1) [Z (.im<|aP d),Z<|.aw<|bc B]=Z (decide (d.1∈B),[Z (.im<|aP d),Z<|.aw<|bc B]):=d7 (bX (aT<|bX rfl rfl rfl rfl rfl) rfl rfl rfl<|o1 B d.1);have b:bK (aC e5 (af<|aC a7 (ak 0)<|af<|aG<|.int 1)<|ak 1) [Z (.im<|aP d),Z<|.aw<|bc B]=Z (decide (d.2∈B),[Z (.im<|aP d),Z<|.aw<|bc B]):=d7 (bX (aT<|bX rfl rfl rfl rfl rfl) rfl rfl rfl<|o1 B d.2);refine⟨[Z (.im<|aP d),Z<|.aw<|bc B],[Z (.im<|aP d),Z<|.aw<|bc B],rfl,?_,λ_=>rfl,λ_=>⟨_,rfl,rfl⟩⟩;show nL ab _=Z (decide (d.1∈B)&&decide (d.2∈B),_);unfold nL;by_cases e:d.1∈B
 ·rw[di e]at a ⊢;rw[Bool.true_and];exact lW a b
 ·rw[dU e]at a ⊢;rw[Gp];exact wQ a
def JX(VE:er M)(VN:ah.Perm (cells M))(i:ah[0]?=Z n)(l:n∈M)(p:m∈fD n ah Vq)(q:∀d∈Vv,d.2=(d.1.1,d.1.2+2)\/d.2=(d.1.1+2,d.1.2))(rP:Vv.length<=40):
  ∃(s:aa) (V_ b:List ax) (a:List a9),mR ab [bO ab ah y Vq (.tup<|Vv.map aP) m U]=Z (.im s,[bO ab ah b Vq (.tup<|a.map aP) m U])/\er V_/\b.Perm (cells V_)/\dk b/\(∀c∈V_,c∈M/\c∉Vq)/\m∈b/\(∀o∈b,o∈ah)/\(∀d∈a,gP V_ d)/\a.length<=40:=by
 have al:=VE.len;have d1:ah.length<=160:=by rw[VN.length_eq,kE];lia
 have r:ah.Nodup:=VN.nodup_iff.mpr VE.Aa;have u:(fD n ah Vq).Nodup:=r.sublist qU;have am:(fD n ah Vq).length<=160:=dc (mq _ _) d1;have lk:=rr (yU (U:=fD n ah Vq) ⋯);rw[xV _ [] (by rw[gp];exact u),gp]at lk;let⟨@Wb,v,w,x⟩:=Qq (U:=fD n ah Vq) (j:=m) ⋯;let@⟨hM,hv,gw,j3,z,oQ⟩:=Py VE VN l p w x;let⟨@VW,C,D⟩:=tS hM hv gw;have h:=HD (n:=VW) hv hM.aq λc f=>hM.par c f VW D;have F:Wb.length=4*(nf M Wb).length:=by rw[hv.length_eq,kE]
 have an:=hM.len;let⟨@B,cE,cQ,W⟩:=FT C ⋯ (by rw[h.length_eq];exact F);have g:=cQ.trans h;have e:=hM.perm g;have H:=rr (DG e.aq (by have:=e.len;lia));have I:∀d∈uc B Vv,gP B d:=λd J=>by
  let@⟨t,A⟩:=n9.mp J;rw[cT,gD,gD]at A;exact⟨A.1,A.2,q d t⟩
 have ap:(uc B Vv).length<=Vv.length:=mq _ _;let⟨@a,L,N,R⟩:=P0 e I ⋯;let⟨@s,cp⟩:=Rx (M:=B) (O:=Vv) (VE:=a) ⋯ ⋯ (by have:=e.len;lia);refine⟨s,B,Wb,a,?_,e,hv.trans<|LZ g.symm,gw,λc f=>j3 c<|g.mem_iff.mp f,z,oQ,N,R⟩;have S:gL ab 0 1 "ground" (bF 2 G.pN<|ar (af<|bF 1 G.fJ<|ar (ak 1) aH)<|ar (af<|dI ab 0 3 "place") aH) [Z (bO ab ah y Vq (.tup<|Vv.map aP) m U),Z<|aV<|fD n ah Vq,X,X,X]=Z (.aX,[Z (bO ab ah Wb Vq (.tup<|Vv.map aP) m U),Z<|aV<|fD n ah Vq,X,X,X]):=
  xD (P:=es) (E:=[aE ah,aE y,.im<|.tup<|Vv.map aP,.im<|ag m,.aw<|a0 U,.aw<|a0 Vq]) (eG (VI:=[.cu (.aw<|bc<|fD n ah Vq),.cu<|.im<|ag m]) (bU (aT<|eG (VI:=[.bo 1]) rfl rfl rfl lk rfl)<|bU (aT<|l6 rfl rfl rfl) rfl) rfl rfl v rfl) rfl ∅ rfl (show 1<6 by decide) rfl;have T:gL ab 0 2 "branches" (bF 2 G.pZ<|ar (ak 2)<|ar (af<|dv 1 [3] (cc<|ak 4) (bx 0) (G.nL ab)<|G.ru ab) aH) [Z (bO ab ah Wb Vq (.tup<|Vv.map aP) m U),Z<|aV<|fD n ah Vq,Z<|aE B,Z<|.aw<|bc B,Z<|cF Vv]=Z (.aX,[Z (bO ab ah Wb Vq (.tup<|a.map aP) m U),Z<|aV<|fD n ah Vq,Z<|aE B,Z<|.aw<|bc B,Z<|cF Vv]):=
  xD (P:=es) (E:=[aE ah,aE Wb,.im<|.tup<|Vv.map aP,.im<|ag m,.aw<|a0 U,.aw<|a0 Vq]) (eG (VI:=[.bo 2,.cu<|bj<|uc B Vv]) (bU rfl (bU (aT (PN ⋯)) rfl)) rfl rfl L rfl) rfl ∅ rfl (show 2<6 by decide) rfl;unfold mR yk;refine dY (k:=[Z (bO ab ah Wb Vq (.tup<|a.map aP) m U),Z<|aV<|fD n ah Vq,Z<|aE B,Z<|.aw<|bc B,Z<|cF Vv]) rfl ?_ rfl;refine bV (If i ⋯) (bV S ?_);refine bV (Vu:=[Z (bO ab ah Wb Vq (.tup<|Vv.map aP) m U),Z<|aV<|fD n ah Vq,Z<|aE B,X,X]) (fG (eG (VI:=[.cu (aE Wb)]) (bU (aT<|l6 rfl rfl rfl) rfl) rfl rfl cE rfl) (eU rfl) rfl) ?_;refine bV (Vu:=[Z (bO ab ah Wb Vq (.tup<|Vv.map aP) m U),Z<|aV<|fD n ah Vq,Z<|aE B,Z<|.aw<|bc B,X]) (fG (eG (VI:=[.bo 2]) rfl rfl rfl H rfl) (eU rfl) rfl) ?_;refine bV (Vu:=[Z (bO ab ah Wb Vq (.tup<|Vv.map aP) m U),Z<|aV<|fD n ah Vq,Z<|aE B,Z<|.aw<|bc B,Z<|cF Vv]) (fG (l6 rfl rfl rfl) (eU rfl) rfl) (bV T ?_);exact dx (eG (VI:=[.bo 2,.bo 4,.cu<|cF a]) (bU rfl<|bU rfl<|bU (aT<|l6 rfl rfl rfl) rfl) rfl rfl cp rfl)
end
section
variable{ab:aj}{P:List az}{E:List ai}{F:az}{k VY:aY}{g r WJ:Nat}{q:aa}
def Pt{Wb:ai->ai->ai->Option ai}(a:k[g]?=Z (Z<|.aQ ab P E))(A:k[WJ]?=Z (Z<|.im q))(e:P[r]?=Z F)(hd:E[r]?=Z WC)(b:Wb WC (.im q) (.im v)=Z V9)(c:k.set g (Z<|.aQ ab P<|E.set r V9)=VY):oe ab g r F WJ Wb (.im v) k=Z VY:=by
 unfold oe;rw[a,A];dsimp only;rw[aF ⟨rfl,e⟩,hd,gH,b,lI,c]
def OX{ty:ai->Bool}{bc:ai->List ai->Option (ai×ai)}(a:k[g]?=Z (Z<|.aQ ab P E))(A:k[WJ]?=Z (Z<|.im q))(e:P[r]?=Z F)(hd:E[r]?=Z WC)(bI:ty WC=V)(b:bc WC [.im q]=Z (s,V9))(c:k.set g (Z<|.aQ ab P<|E.set r V9)=VY):ow ty ab g r F bc WJ k=Z (s,VY):=by
 unfold ow;rw[a,A];dsimp only;rw[aF ⟨rfl,e⟩,hd,gH,aF bI,b,lI,c]
def Qh{n:ai}(a:k[g]?=Z (Z<|.aQ ab P E))(A:k[WJ]?=Z (Z<|.im q))(e:P[r]?=Z F)(hd:E[r]?=Z WC)(b:N [WC,.im q]=Z (s,[V9,n]))(c:k.set g (Z<|.aQ ab P<|E.set r V9)=VY):oJ N ab g r F WJ k=Z (s,VY):=by
 unfold oJ;rw[a,A];dsimp only;rw[aF ⟨rfl,e⟩,hd,gH,b];dsimp only;rw[c]
end
structure eS(M ah V_ y Vq:List ax)(Vv:List a9)(m:ax)(U:List ax):Prop where
 hM:er V_
 hv:y.Perm (cells V_)
 gw:dk y
 j3:∀c∈V_,c∈M/\c∉Vq
 pin:m∈y
 oQ:∀o∈y,o∈ah
 mf:∀d∈Vv,gP V_ d
 rP:Vv.length<=40
 aq:U.Nodup
 rM:∀o∈U,o∈ah
 C7:m∈U
 pD:Vq.Nodup
 rk:∀c∈Vq,c∈M
def CL(o:ax):uS [.im (ag o)]=Z (.im<|.av V,[.im (ag o)]):=rfl
def Qf(e:c∈I):k_ [aE I,.im<|ag c]=Z (.im<|.av V,[aE I,.im<|ag c]):=by
 have g:e5 (.im<|ag c) (aE I)=Z (.im<|.av V):=by
  show (fj (ag c)<|aE I).map (λs=>ai.im<|.av s)=_;rw[E4,di e];rfl
 unfold k_ vG;exact dY (k:=[Z (aE I),Z<|.im<|ag c]) rfl (dx<|vI<|lW (d7<|eG (VI:=[.bo 1]) rfl rfl rfl (CL c) rfl)<|d7<|cL g) rfl
def Kv(e:c∈I):k_ [.aw (a0 I),.im<|ag c]=Z (.im<|.av V,[.aw (a0 I),.im<|ag c]):=by
 have g:e5 (.im<|ag c) (.aw<|a0 I)=Z (.im<|.av V):=by
  show (fj (ag c)<|.aw<|a0 I).map (λs=>ai.im<|.av s)=_;rw[yE,di e];rfl
 unfold k_ vG;exact dY (k:=[Z (.aw<|a0 I),Z<|.im<|ag c]) rfl (dx<|vI<|lW (d7<|eG (VI:=[.bo 1]) rfl rfl rfl (CL c) rfl)<|d7<|cL g) rfl
section
variable{ab:aj}{M ah V_ y Vq U:List ax}{Vv:List a9}{m:ax}
def eS.d4(Q:eS M ah V_ y Vq Vv m U){n:ax}(VE:er M)(d:n∈M){o:ax}(e:o∈y):av n o∈V_/\o∈e6 (av n o):=by
 let⟨@c,a,⟨@q,b,rfl⟩⟩:=kc.mp (Q.hv.mem_iff.mp e);rw[pI (VE.par c (Q.j3 c a).1 n d) (ly c b)];exact⟨a,ly c b⟩
def eS.next(e:n7 P)(Q:eS M ah V_ y Vq Vv m U)(d1:ah.length<=160):∃p,oD ab P [bO ab ah y Vq (.tup<|Vv.map aP) m U]=Z (.im<|ag p,[bO ab ah y Vq (.tup<|Vv.map aP) p (gU U p)])/\eS M ah V_ y Vq Vv p (gU U p):=by
 let⟨@n,f,g⟩:=tS Q.hM Q.hv Q.gw;let⟨@c,a,⟨@q,h,d⟩⟩:=kc.mp (Q.hv.mem_iff.mp Q.pin);have s:=NH e (Vv:=Vv) Q.hM f g a h (pa.of Q.mf);rw[<-d]at s;have k:U.length<=ah.length:=Q.aq.length_le_of_subset Q.rM;have b:gK (aX Vv (c,q))∈y:=Q.hv.mem_iff.mpr (kc.mpr ⟨_,TP Q.mf a q,_,Mj Vv (c,q),rfl⟩);refine⟨gK<|aX Vv (c,q),QB s ⋯,Q.hM,Q.hv,Q.gw,Q.j3,b,Q.oQ,Q.mf,Q.rP,J9 Q.aq _,λo j=>?_,yV.mpr<|.inr rfl,Q.pD,Q.rk⟩;rcases yV.mp j with i|i
 ·exact Q.rM o i
 ·rw[i];exact Q.oQ _ b
def eS.settle(VE:er M)(VN:ah.Perm (cells M))(V7:dk ah)(Q:eS M ah V_ y Vq Vv m U){a:List ax}(Wu:a.Nodup)(cQ:∀c∈a,c∈M)(h:∀n∈M,av n m∉a):
  ∃(s:aa) (f b:List ax) (e:List a9),mR ab [bO ab ah y a (.tup<|Vv.map aP) m U]=Z (.im s,[bO ab ah b a (.tup<|e.map aP) m U])/\eS M ah f b a e m U:=by
 let⟨@n,i,g⟩:=tS VE VN V7;let⟨s,f,b,@e,d,t,A,j,k,l,o,p,q⟩:=JX (ab:=ab) (y:=y) (Vq:=a) (U:=U) VE VN i g (qO.mpr ⟨Q.oQ m Q.pin,h n g⟩) (λd r=>(Q.mf d r).2.2) Q.rP;exact⟨s,f,b,e,d,t,A,j,k,l,o,p,q,Q.aq,Q.rM,Q.C7,Wu,cQ⟩
def eS.at(VE:er M)(Q:eS M ah V_ y Vq Vv m U):∃c,c∈V_/\(∀n∈M,av n m=c)/\∃VW,y[0]?=Z VW/\VW∈M:=by
 let⟨@VW,b,e⟩:=tS Q.hM Q.hv Q.gw;let⟨@c,a,⟨@q,f,d⟩⟩:=kc.mp (Q.hv.mem_iff.mp Q.pin);exact⟨c,a,λn g=>by rw[d];exact pI (VE.par c (Q.j3 c a).1 n g) (ly c f),VW,b,(Q.j3 VW e).1⟩
def eS.Qc(VE:er M)(VN:ah.Perm (cells M))(V7:dk ah)(Q:eS M ah V_ y Vq Vv m U){c:ax}(h:c∈V_)(l:∀n∈M,c≠av n m):
  ∃(s:aa) (j a:List ax) (e:List a9),qZ ab [bO ab ah y Vq (.tup<|Vv.map aP) m U,.im<|ag c]=Z (.im s,[bO ab ah a (Vq++[c]) (.tup<|e.map aP) m U,.im<|ag c])/\eS M ah j a (Vq++[c]) e m U:=by
 have x:=VE.len;have w:c∉Vq:=(Q.j3 c h).2;let⟨@A,C,D,⟨@VW,p,q⟩⟩:=Q.at VE;have Wu:(Vq++[c]).Nodup:=cO.mpr ⟨Q.pD,eB _ _,λf g z F i=>w (by rw[<-cb.mp F,<-i];exact g)⟩;have WY:Vq.length<=40:=dc (Q.pD.length_le_of_subset Q.rk) x;let⟨s,j,a,@e,d,b⟩:=Q.settle (ab:=ab) VE VN V7 (a:=Vq++[c]) Wu (λf g=>by
  rcases du.mp g with i|i
  ·exact Q.rk f i
  ·rw[cb.mp i];exact (Q.j3 c h).1) λn r i=>by
  rcases du.mp i with i|i
  ·rw[D n r]at i;exact (Q.j3 A C).2 i
  ·exact l n r (cb.mp i).symm
 refine⟨s,j,a,e,?_,b⟩;have t:=HD (n:=VW) Q.hv Q.hM.aq λf g=>VE.par f (Q.j3 f g).1 VW q;have I:=Q.hM.len;have G:y.length=4*V_.length:=by rw[Q.hv.length_eq,kE]
 let⟨@B,cE,cQ,W⟩:=FT p ⋯ (by rw[t.length_eq];exact G);have ne:fb (.im<|ag c) (.im<|ag<|av VW m)=Z (.im<|.av aA):=by
  show (if (aa.aZ 8 (ag c)&&aa.aZ 8 (ag<|av VW m))=V then Z (ai.im<|.av<|cn (ag c)<|ag<|av VW m) else X)=_;rw[aF (show (aa.aZ 8 (ag c)&&aa.aZ 8 (ag<|av VW m))=V from rfl),m2,dU<|l VW q]
 have ad:gU Vq c=Vq++[c]:=aJ w;have put:fR (aG<|.av V) (oe ab 0 5 "taken" 1 eP) [Z (bO ab ah y Vq (.tup<|Vv.map aP) m U),Z<|.im<|ag c]=Z (.aX,[Z (bO ab ah y (Vq++[c]) (.tup<|Vv.map aP) m U),Z<|.im<|ag c]):=by
  refine ih (v:=.im (.av V)) (Vu:=[Z (bO ab ah y Vq (.tup<|Vv.map aP) m U),Z<|.im<|ag c]) rfl ?_;have u:=xM (U:=Vq) (o:=c) ⋯;rw[ad]at u;exact Pt (P:=es) (E:=[aE ah,aE y,.im<|.tup<|Vv.map aP,.im<|ag m,.aw<|a0 U,.aw<|a0 Vq]) rfl rfl rfl rfl u rfl
 unfold qZ xe;refine dY (k:=[Z (bO ab ah a (Vq++[c]) (.tup<|e.map aP) m U),Z<|.im<|ag c]) rfl ?_ rfl;refine bV (gg (rB<|nK (aT<|eG (VI:=[.cu (aE B),.bo 1]) (bU (aT<|eG (VI:=[.cu (aE y)]) (bU (aT<|l6 rfl rfl rfl) rfl) rfl rfl cE rfl)<|bU rfl rfl) rfl rfl (Qf<|(cQ.trans t).mem_iff.mpr h) rfl) rfl rfl) rfl) ?_;refine bV (gg (d7<|bX rfl (aT<|eG (VI:=[.cu (aE y),.cu<|.im<|ag m]) (bU (aT<|l6 rfl rfl rfl)<|bU (aT<|l6 rfl rfl rfl) rfl) rfl rfl (vR p) rfl) rfl rfl ne) rfl) ?_;exact bV put (dx (vx (P:=es) (E:=[aE ah,aE y,.im<|.tup<|Vv.map aP,.im<|ag m,.aw<|a0 U,.aw<|a0<|Vq++[c]]) rfl ∅ d rfl))
theorem Ea:∀{I:List ax},I.Nodup->∀{g:Nat}{c:ax},I[g]?=Z c->(a0 I).findIdx? (λm=>decide (m.1=b7 c))=Z g
 |[],_,_,_,e=>by simp at e
 |f::I,_,0,c,e=>by
  have:f=c:=by simpa using e
  subst this;show ((b7 f,aa.av V)::a0 I).findIdx? _=_;rw[Fl,aF<|di rfl]
 |f::I,aq,g+1,c,e=>by
  have A:I[g]?=Z c:=by simpa using e
  have Wu:=gd.mp aq;have ne:f≠c:=λd=>Wu.1 (d ▸ eC A);show ((b7 f,aa.av V)::a0 I).findIdx? _=_;rw[Fl,aJ ⇑(λi=>ne<|kL i),Ea Wu.2 A];rfl
theorem Bw:∀(I:List ax) (g:Nat),(a0 I).eraseIdx g=a0 (I.eraseIdx g)
 |[],_=>rfl
 |_::_,0=>rfl
 |f::I,g+1=>by
  show (b7 f,aa.av V)::(a0 I).eraseIdx g=(b7 f,aa.av V)::a0 (I.eraseIdx g);rw[Bw I g]
def eS.PR(VE:er M)(VN:ah.Perm (cells M))(V7:dk ah)(Q:eS M ah V_ y Vq Vv m U){c:ax}{g:Nat}(Vl:Vq[g]?=Z c):
  ∃(s:aa) (h a:List ax) (e:List a9),ph ab [bO ab ah y Vq (.tup<|Vv.map aP) m U,.im<|ag c]=Z (.im s,[bO ab ah a (Vq.eraseIdx g) (.tup<|e.map aP) m U,.im<|ag c])/\eS M ah h a (Vq.eraseIdx g) e m U:=by
 have sub:=x7 Vq g;let⟨@j,l,o,⟨@VW,x,z⟩⟩:=Q.at VE;let⟨s,h,a,@e,d,b⟩:=Q.settle (ab:=ab) VE VN V7 (a:=Vq.eraseIdx g) (Q.pD.sublist sub) (λf p=>Q.rk f<|sub.subset p) λn q i=>by
  rw[o n q]at i;exact (Q.j3 j l).2 (sub.subset i)
 refine⟨s,h,a,e,?_,b⟩;have t:c∈Vq:=eC Vl;have u:nM (.aw<|a0 Vq) [.im (ag c)]=Z (.im<|.av V,.aw<|a0<|Vq.eraseIdx g):=by
  show (if aa.keys 7 (b7 c)=V then ((a0 Vq).findIdx? λm=>decide (m.1=b7 c)).bind λr=>((a0 Vq)[r]?).map λm=>(ai.im m.2,ai.aw<|(a0 Vq).eraseIdx r) else X)=_;rw[aF (pL c),Ea Q.pD Vl];show ((a0 Vq)[g]?).map _=_;have:(a0 Vq)[g]?=Z (b7 c,.av V):=by
   unfold a0;rw[d3,Vl];rfl
  rw[this];rw[lI,Bw]
 have v:oJ k_ ab 0 5 "taken" 1 [Z (bO ab ah y Vq (.tup<|Vv.map aP) m U),Z<|.im<|ag c]=Z (.im<|.av V,[Z (bO ab ah y Vq (.tup<|Vv.map aP) m U),Z<|.im<|ag c]):=Qh (P:=es) (E:=[aE ah,aE y,.im<|.tup<|Vv.map aP,.im<|ag m,.aw<|a0 U,.aw<|a0 Vq]) rfl rfl rfl rfl (Kv t) rfl;have w:ow vo ab 0 5 "taken" nM 1 [Z (bO ab ah y Vq (.tup<|Vv.map aP) m U),Z<|.im<|ag c]=Z (.im<|.av V,[Z (bO ab ah y (Vq.eraseIdx g) (.tup<|Vv.map aP) m U),Z<|.im<|ag c]):=OX (P:=es) (E:=[aE ah,aE y,.im<|.tup<|Vv.map aP,.im<|ag m,.aw<|a0 U,.aw<|a0 Vq]) rfl rfl rfl rfl rfl u rfl;unfold ph xF;refine dY (k:=[Z (bO ab ah a (Vq.eraseIdx g) (.tup<|e.map aP) m U),Z<|.im<|ag c]) rfl ?_ rfl;refine bV (gg (rB<|nK (aT v) rfl rfl) rfl) ?_;exact bV (jn w) (dx (vx (P:=es) (E:=[aE ah,aE y,.im<|.tup<|Vv.map aP,.im<|ag m,.aw<|a0 U,.aw<|a0<|Vq.eraseIdx g]) rfl ∅ d rfl))
end
theorem dk.aq(e:dk I):I.Nodup:=(p1.mp e).imp λ{h c} d i=>by rw[i,rF]at d;cases d
theorem H9:∀(I a:List (List aa)),(a++I).Nodup->I.foldl ij a=a++I
 |[],a,_=>by rw[bQ];rfl
 |q::I,a,aq=>by
  have b:q∉a:=λi=>(cO.mp aq).2.2 q i q (.head _) rfl;rw[jT,show ij a q=a++[q] from aJ b,H9 I (a++[q]) (by rw[bk];exact aq),bk];rfl
def Ui(J:dk a)(j:a.length<=290)(e:L k=Z (VI,Vu))(f:h5 Vu VI=Z [aE a]):sS L k=Z (aV a,Vu):=by
 have d:(a.map b7).map aa.tup=a.map ag:=RH a;have aq:=J.aq;have b:hr (a.map b7)=a.map b7:=by
  unfold hr;rw[H9 _ [] (by rw[gp];exact Aq aq λh W c W i=>kL i),gp]
 have dA:=rH aq ⋯;unfold sS;rw[e];show (h5 Vu VI).bind _=_;rw[f];show (pM<|a.map ag).bind _=_;rw[HP];have t:ud (a.map b7)=V:=by
  rw[Bx,b,a8];exact⟨λq g=>by let⟨@o,W,rfl⟩:=ep.mp g;exact pL o,⋯⟩
 have A:rD ((hr<|a.map b7).map .tup)=V:=by
  rw[b,d];exact m6.mpr dA
 refine (aF ⟨t,A⟩).trans ?_;rw[b,d,<-Cq dA.1 (.refl _) J]
def DZ(a:List ax):gq (aV a) (aV a)=Z (.im<|.av aA):=by
 show (if (aa.dj 8 (a.map ag)&&aa.dj 8 (a.map ag))=V then Z (ai.im<|.av<|!fg (a.map ag) (a.map ag)) else X)=_;rw[uU,aF<|show (V&&V)=V from rfl,s_];rfl
def um(D:Bool)(e:c∈I↔D=V):e5 (.im<|ag c) (aE I)=Z (.im<|.av D):=by
 show (fj (ag c)<|aE I).map (λs=>ai.im<|.av s)=_;rw[E4];by_cases a:c∈I
 ·rw[di a,e.mp a];rfl
 ·have:D=aA:=by cases D;rfl;exact absurd (e.mpr rfl) a
  rw[dU a,this];rfl
abbrev k0(O VE k:List ax):ai:=.im (.tup [.tup (O.map ag),.tup<|VE.map ag,.tup<|k.map ag])
structure oG(ah y U B:List ax):Prop where
 pm:B.Perm U
 dA:fa [.aw (a0 U)]=Z (aV B)
 r:dk B
def Dx{y U:List ax}(aq:U.Nodup)(a:U.length<=160):∃B,oG ah y U B:=by
 let⟨@B,VN,S,V7⟩:=vg aq ⋯;refine⟨B,VN,?_,V7⟩;show gB ((a0 U).map λm=>.tup m.1)=_;unfold a0;rw[fl];exact S
section
variable{ab:aj}{M ah V_ y Vq U B:List ax}{Vv:List a9}{m:ax}
def eS.len(Q:eS M ah V_ y Vq Vv m U)(a:ah.Nodup)(d1:ah.length<=160):y.Nodup/\y.length<=160/\U.length<=160:=
 ⟨Q.gw.aq,dc (Q.gw.aq.length_le_of_subset Q.oQ) d1,dc (Q.aq.length_le_of_subset Q.rM) d1⟩
def B3{e:ai}(b:e0 (x+1) e)(Q:eS M ah V_ y Vq Vv m U)(g:ah.Nodup)(d1:ah.length<=160)(R:oG ah y U B):∃Vk,pR ab [e,bO ab ah y Vq (.tup<|Vv.map aP) m U]=Z (k0 B (outs y U)<|outs (outs ah U) y,[Vk,bO ab ah y Vq (.tup<|Vv.map aP) m U])/\e0 x Vk:=by
 let@⟨h,n,o⟩:=Q.len g d1;let⟨u,@Vk,i,p,q,T⟩:=iG (x:=x) (l:=2) b ⋯ ⋯;let⟨@j,rfl⟩:=b.lst;let⟨@a,rfl⟩:=T.lst;have ay:=BO (ab:=ab) (ah:=ah) (y:=y) (Vq:=Vq) (D:=.tup (Vv.map aP)) (m:=m) R.dA;have E:=FF (ab:=ab) (ah:=ah) (y:=y) (Vq:=Vq) (D:=.tup (Vv.map aP)) (m:=m) Q.aq ⋯ (by lia:y.length<=1000);have d:=Df (ab:=ab) (ah:=ah) (y:=y) (Vq:=Vq) (D:=.tup (Vv.map aP)) (m:=m) Q.aq ⋯ (by lia:ah.length<1000) h ⋯;refine⟨.lst a,?_,T⟩;have c:bK (aC fb (af<|bF 2 dV<|ar (ak 0)<|ar (af<|aG<|.int 2) aH)<|af<|aG<|.int 0) [Z (.lst j),Z<|bO ab ah y Vq (.tup<|Vv.map aP) m U,X,X]=Z (decide (u=0),[Z (.lst a),Z<|bO ab ah y Vq (.tup<|Vv.map aP) m U,X,X]):=y2 (iB (c3<|ey rfl rfl rfl i) rfl rfl rfl<|sR u 0);unfold pR Ad;by_cases f:u=0
 ·rw[di f]at c;refine dY (k:=[Z (.lst a),Z<|bO ab ah y Vq (.tup<|Vv.map aP) m U,Z<|aE<|outs (outs ah U) y,X]) rfl (vY<|ll c<|bV (fG (iC rfl d) (eU rfl) rfl)<|dx<|kp (bU (aT<|iC rfl ay)<|bU (aT<|iC rfl E)<|bU rfl rfl) rfl (g8 rfl) rfl) rfl
 ·rw[dU f]at c;refine dY (k:=[Z (.lst a),Z<|bO ab ah y Vq (.tup<|Vv.map aP) m U,Z<|aE<|outs (outs ah U) y,Z<|aE<|outs y U]) rfl (bV (gg c rfl)<|bV (fG (iC rfl E) (eU rfl) rfl)<|bV (fG (iC rfl d) (eU rfl) rfl)<|dx<|kp (bU (aT<|iC rfl ay)<|bU rfl<|bU rfl rfl) rfl (g8 rfl) rfl) rfl
end
def zC{C VG VW VZ Wi b c:Option ai}(J:dk a)(d:a.length<=290):rq ab [C,VG,VW,VZ,Wi,b,Z<|aE a,c]=Z (.aX,[C,VG,VW,VZ,Wi,b,Z<|aE a,c]):=by
 have j:=Ui (k:=[C,VG,VW,VZ,Wi,b,Z<|aE a,c]) (Vu:=[C,VG,VW,VZ,Wi,b,Z<|aE a,c]) (L:=ar (ak 6) aH) (VI:=[.bo 6]) J d rfl rfl;unfold rq;exact gg (t8 (Vu:=[C,VG,VW,VZ,Wi,b,Z<|aE a,c]) rfl<|d7<|bX (aT<|gu (bU rfl rfl) rfl rfl) (aT j) rfl rfl<|DZ a) rfl
def lp{w VJ:List ax}{f:ax}:f∈outs w VJ↔f∈w/\f∉VJ:=by
 unfold outs;rw[n9,gD]
def dk.outs{w:List ax}(e:dk w)(VJ:List ax):dk (outs w VJ):=p1.mpr ((p1.mp e).sublist qU)
def Aw(w VJ:List ax):(outs w VJ).length<=w.length:=mq _ _
section
variable{ab:aj}{M ah V_ y Vq U B:List ax}{Vv:List a9}{m:ax}
def Uc(b:eS M ah V_ y Vq Vv m U)(e:ah.Nodup)(R:oG ah y U B):(B++outs y U++outs (outs ah U) y).Perm ah:=by
 have g:B.Nodup:=R.r.aq;have Wu:(outs y U).Nodup:=b.gw.aq.sublist qU;have h:(outs (outs ah U) y).Nodup:=(e.sublist qU).sublist qU;refine (uP (cO.mpr ⟨cO.mpr ⟨g,Wu,λf a z c d=>?_⟩,h,λf a z c d=>?_⟩) e).mpr λf=>?_
 ·subst d;exact (lp.mp c).2 (R.pm.mem_iff.mp a)
 ·subst d;have i:=lp.mp c;rcases du.mp a with L|L
  ·exact (lp.mp i.1).2 (R.pm.mem_iff.mp L)
  ·exact i.2 (lp.mp L).1
 ·rw[du,du,lp,lp,lp,R.pm.mem_iff];constructor
  ·rintro ((L|L)|L)
   ·exact b.rM f L
   ·exact b.oQ f L.1
   ·exact L.1.1
  ·intro a;by_cases t:f∈U
   ·exact .inl (.inl t)
   ·by_cases A:f∈y
    ·exact .inl (.inr ⟨A,t⟩)
    ·exact .inr ⟨⟨a,t⟩,A⟩
def DK(c:eS M ah V_ y Vq Vv m U)(V7:dk ah)(d1:ah.length<=160)(R:oG ah y U B):
  o_ ab [bO ab ah y Vq (.tup<|Vv.map aP) m U,k0 B (outs y U)<|outs (outs ah U) y,aE ah]=Z (kq V,[bO ab ah y Vq (.tup<|Vv.map aP) m U,k0 B (outs y U)<|outs (outs ah U) y,aE ah]):=by
 have h:=V7.aq;let@⟨u,v,A⟩:=c.len h d1;have g:=Uc c h R;have Q:B.length<=160:=by rw[R.pm.length_eq];exact A
 obtain⟨O,d⟩:∃O,O=outs y U:=⟨_,rfl⟩;obtain⟨VE,e⟩:∃VE,VE=outs (outs ah U) y:=⟨_,rfl⟩;have S:O.length<=160:=by rw[d];exact dc (Aw _ _) v
 have T:VE.length<=160:=by rw[e];exact dc (Aw _ _) (dc (Aw _ _) d1)
 have C:dk O:=by rw[d];exact c.gw.outs _
 have F:dk VE:=by rw[e];exact (V7.outs _).outs _
 have ay:=BO (ab:=ab) (ah:=ah) (y:=y) (Vq:=Vq) (D:=.tup (Vv.map aP)) (m:=m) R.dA;have E:=FF (ab:=ab) (ah:=ah) (y:=y) (Vq:=Vq) (D:=.tup (Vv.map aP)) (m:=m) c.aq ⋯ (by lia:y.length<=1000);have l:=Df (ab:=ab) (ah:=ah) (y:=y) (Vq:=Vq) (D:=.tup (Vv.map aP)) (m:=m) c.aq ⋯ (by lia:ah.length<1000) u ⋯;have Wx:∀o,o∈O->o∈y:=λo b=>by rw[d]at b;exact (lp.mp b).1
 have G:∀o,o∈VE->o∉y:=λo b=>by rw[e]at b;exact (lp.mp b).2
 rw[<-d,<-e]at g;rw[<-d]at E;rw[<-e]at l;rw[<-d,<-e];have H:dg (aE B) (aE O)=Z (aE<|B++O):=by
  rw[show aE (B++O)=.im (.tup<|B.map ag++O.map ag) by rw[aE,fi]];exact aF (by rw[a8,a8];lia)
 have Wt:dg (aE<|B++O) (aE VE)=Z (aE<|B++O++VE):=by
  rw[show aE (B++O++VE)=.im (.tup<|(B++O).map ag++VE.map ag) by rw[aE,fi (l₁:=B++O)]];exact aF (by rw[a8,a8,dd];lia)
 have dA:fa [aE (B++O++VE)]=Z (aV ah):=by
  have x:=g.nodup_iff.mpr h;have n:=rH x (by rw[g.length_eq];lia);show gB ((B++O++VE).map ag)=_;unfold gB;rw[aF (m6.mpr n),<-Cq n.ord (g.symm.map ag) V7]
 have I:gq (k0 B O VE) (k0 B O VE)=Z (.im<|.av aA):=by
  refine UH ?_ ?_
  ·show (aa.aZ 7 (.tup<|B.map ag)&&(aa.aZ 7 (.tup<|O.map ag)&&(aa.aZ 7 (.tup<|VE.map ag)&&V)))=V;have p:∀a:List ax,aa.aZ 7 (.tup<|a.map ag)=V:=λa=>by
    induction a with
    |nil=>rfl
    |cons f a j=>
     have j:aa.dj 6 (a.map ag)=V:=j;show aa.dj 6 ((f::a).map ag)=V;rw[b4,aa.dj,j];rfl
   rw[p,p,p];rfl
  ·show (fg (B.map ag) (B.map ag)&&(fg (O.map ag) (O.map ag)&&(fg (VE.map ag) (VE.map ag)&&V)))=V;rw[s_,s_,s_];rfl
 let t:Option ai->Option ai->aY:=λf z=>[Z (bO ab ah y Vq (.tup<|Vv.map aP) m U),Z<|k0 B O VE,Z<|aE ah,Z<|aE B,Z<|aE O,Z<|aE VE,f,z]
 have J:dr (bx 6) (rq ab) [.tup (B.map ag),.tup<|O.map ag,.tup<|VE.map ag] (t X X)=Z (.aX,(t (Z<|aE VE) X)):=
  ua (Vu:=(t (Z<|aE B) X)) rfl (zC R.r ⋯) (ua (Vu:=(t (Z<|aE O) X)) rfl (zC C ⋯) (ua (Vu:=(t (Z<|aE VE) X)) rfl (zC F ⋯) rfl));have L:dv 1 [7] (cc<|ak 4) (bx 0) g5 (wH ab) (t (Z<|aE VE)<|Z<|aE y)=Z (.lst<|O.map λ_=>.av V,(t (Z<|aE VE)<|Z<|aE y)):=
  kg (w:=O.map ag) (n:=X) (Vu:=(t (Z<|aE VE)<|Z<|aE y)) rfl (n0 ag (λ_=>.av V) _ (λo b=>⟨[Z (.im<|ag o),Z<|aE y],_,[Z (.im<|ag o),Z<|aE y],rfl,rfl,cL<|um V ⟨λ_=>rfl,λ_=>Wx o b⟩,rfl⟩) ⋯) rfl;have N:dv 1 [7] (cc<|ak 5) (bx 0) g5 (wX ab) (t (Z<|aE VE)<|Z<|aE y)=Z (.lst<|VE.map λ_=>.av aA,(t (Z<|aE VE)<|Z<|aE y)):=
  kg (w:=VE.map ag) (n:=X) (Vu:=(t (Z<|aE VE)<|Z<|aE y)) rfl (n0 ag (λ_=>.av aA) _ (λo b=>⟨[Z (.im<|ag o),Z<|aE y],_,[Z (.im<|ag o),Z<|aE y],rfl,rfl,cL<|um aA ⟨λi=>absurd i<|G o b,λi=>nomatch i⟩,rfl⟩) ⋯) rfl;have q:=En (λ_:ax=>V) O;rw[show (O.all λ_=>V)=V from jC.mpr λ_ W=>rfl]at q;have ko:=I0 (λ_:ax=>aA) VE;rw[show (VE.any λ_=>aA)=aA from CU.mpr λ_ W=>da]at ko;have P:e5 (.im<|ag m) (aE B)=Z (.im<|.av V):=um V ⟨λ_=>rfl,λ_=>R.pm.mem_iff.mpr c.C7⟩;unfold o_ zY;refine dY (k:=(t (Z<|aE VE)<|Z<|aE y)) rfl ?_ rfl;refine bV (Vu:=(t X X)) rfl (bV (Vu:=(t (Z<|aE VE) X)) (jt (n:=X) rfl J rfl) ?_);refine bV (gg (t8 (d7<|bX (aT<|gu (bU (aT<|bX (aT<|cL H) rfl rfl rfl Wt) rfl) rfl dA) (aT<|gu (bU rfl rfl) rfl rfl) rfl rfl<|DZ ah)<|d7<|bX (aT<|kp (bU (aT<|iC rfl ay)<|bU (aT<|iC rfl E)<|bU (aT<|iC rfl l) rfl) rfl (g8 rfl) rfl) rfl rfl rfl I) rfl) ?_;refine bV (Vu:=(t (Z<|aE VE)<|Z<|aE y)) (fG (iC rfl z8) (eU rfl) rfl) ?_;exact dx (vI<|lW (d7<|gu (bU (aT L) rfl) rfl q)<|lW (d7<|vI<|J_<|d7<|gu (bU (aT N) rfl) rfl ko)<|d7<|bX (aT<|iC rfl C5) rfl rfl rfl P)
end
def Ei(c:M[0]?=Z n):m9 [aV M,.im<|ag o]=Z (.im<|ag<|av n o,[aV M,.im<|ag o]):=by
 have D:fP (M.map ag) 0=Z (ag n):=pB ∅ ⇑c;have a:a7 (.im<|ag o) (aK 0)=Z (aK o.1):=rfl;have b:a7 (.im<|ag o) (aK 1)=Z (aK o.2):=rfl;have V1:a7 (aV M) (aK 0)=Z (.im<|ag n):=by
  show (fP (M.map ag) 0).map ai.im=_;rw[D];rfl
 have j:fR (aC a7 (ak 0)<|af<|aG<|.int 0) (jU 2<|gF (bx 2)<|gF (bx 3) ki) [Z (aV M),Z<|.im<|ag o,X,X]=Z (.aX,[Z (aV M),Z<|.im<|ag o,Z<|aK n.1,Z<|aK n.2]):=ih (cL V1) rfl;unfold m9 yN;exact dY (k:=[Z (aV M),Z<|.im<|ag o,Z<|aK n.1,Z<|aK n.2]) rfl (bV j (dx (kp (bU (aT (bX (aT<|cL a) (aT (bX (aT<|bX (aT<|cL a) rfl rfl rfl rfl) rfl rfl rfl (jG (show (0:Int)<2 by decide)))) rfl rfl rfl)) (bU (aT (bX (aT<|cL b) (aT (bX (aT<|bX (aT<|cL b) rfl rfl rfl rfl) rfl rfl rfl (jG (show (0:Int)<2 by decide)))) rfl rfl rfl)) rfl)) rfl (g8 rfl) rfl))) rfl
def Ez{a:aj}{P b:List az}{E c Vj outs:List ai}{VY y:aY}{d:ai}(e:k[g]?=Z (Z<|.aQ ab P E))(f:P.contains l=aA)(h:L k=Z (VI,Vu))(i:VI.length=x)(j:ei VI Vu=Z (Vj,VY))(A:VY[g]?=Z (Z<|.aQ a b c))(m:N (.aQ a b c::Vj)=Z (s,d::outs))(n:hh VI outs (VY.set g<|Z d)=y):lT ab g l N x L k=Z (s,y):=by
 unfold lT;rw[e];dsimp only;rw[aF ⟨rfl,f⟩,h,gH];dsimp only;rw[aF i,j,gH];dsimp only;rw[A];dsimp only;rw[m];dsimp only;rw[n]
section
variable{ab:aj}{P:ct}{M ah V_ y Vq U:List ax}{Vv:List a9}{m:ax}
def O4(U:List ax)(p:ax):(gU U p).length<=U.length+1:=by
 unfold gU;split
 ·lia
 ·rw[dd,iJ];exact bD _
abbrev hu(ab:aj)(e:ai)(ah y Vq:List ax)(Vv:List a9)(m:ax)(U M:List ax)(WY:List ax)(Wi a:Option ai):aY:=[Z e,Z<|bO ab ah y Vq (.tup<|Vv.map aP) m U,Z<|aV M,Z<|aV WY,Wi,a]
def Sj(a2:n7 P){x:Nat}{e:ai}(b:e0 (x+3) e)(VE:er M)(VN:ah.Perm (cells M))(V7:dk ah)(f:eS M ah V_ y Vq Vv m U):
  ∃(Vk:ai) (l:Int) (bd S I:List ax) (T:List a9) (al:ax) (B:List ax),mI ab P [e,bO ab ah y Vq (.tup<|Vv.map aP) m U,aV M,aV Vq]=Z (aK l,[Vk,bO ab ah S I (.tup<|T.map aP) al B,aV M,aV I])/\e0 x Vk/\eS M ah bd S I T al B/\(∀o∈U,o∈B)/\(B.length:Int)<=U.length+l:=by
 have be:=VE.len;have d1:ah.length<=160:=by rw[VN.length_eq,kE];lia
 have bi:=V7.aq;let@⟨cd,ce,ch⟩:=f.len bi d1;have ci:Vq.length<=40:=dc (f.pD.length_le_of_subset f.rk) be;obtain⟨n,J⟩:∃n,M[0]?=Z n:=⟨M[0]'(oj.mpr VE.ne),dN _⟩;have am:n∈M:=eC J;let⟨@cl,co,an,W⟩:=f.at VE;let⟨u,@t,bm,cr,cs,Vt⟩:=iG (x:=x+2) (l:=6) b ⋯ ⋯;have lt:dC [aV Vq]=Z (aK (Vq.length:Int)):=by
  show Z (aK ((Vq.map ag).length:Int))=_;rw[a8]
 let⟨@bn,rfl⟩:=b.lst;let⟨@q,rfl⟩:=Vt.lst;have C:bZ 4 (bF 2 dV<|ar (ak 0)<|ar (af<|aG<|.int 6) aH) (hu ab (.lst bn) ah y Vq Vv m U M Vq X X)=Z (.aX,hu ab (.lst q) ah y Vq Vv m U M Vq (Z<|aK u) X):=ix (ey rfl rfl rfl bm) (eU rfl) rfl;let d:aY:=hu ab (.lst q) ah y Vq Vv m U M Vq (Z<|aK u) X
 have j:bK (aC fb (ak 4)<|af<|aG<|.int 0) d=Z (decide (u=0),d):=d7 (cL<|sR u 0);have D:bK (aC h_ (af<|bS dC<|ar (ak 3) aH)<|af<|aG<|.int 0) d=Z (decide ((Vq.length:Int)>0),d):=d7 (bX (aT<|gu (bU rfl rfl) rfl lt) rfl rfl rfl rfl);have r:bK (aC fb (ak 4)<|af<|aG<|.int 1) d=Z (decide (u=1),d):=d7 (cL<|sR u 1);by_cases WC:u=0/\0<Vq.length
 ·let⟨H,@A,L,gi,cp,VF⟩:=iG (x:=x+1) (l:=(Vq.length:Int)) Vt ⋯ ⋯;let⟨@a,rfl⟩:=VF.lst;obtain⟨c,F⟩:∃c,Vq[H.toNat]?=Z c:=⟨Vq[H.toNat]'⋯,by simp⟩;let⟨s,N,g,@h,v,w⟩:=f.PR (ab:=ab) VE VN V7 F;have O:k7 (aV Vq) [aK H]=Z (.im<|ag c,aV<|Vq.eraseIdx H.toNat):=by
   show (if 0<=H/\H<((Vq.map ag).length:Int) then _ else X)=_;rw[aF ⟨gi,by rw[a8];exact cp⟩,show (Vq.map ag)[H.toNat]?=Z (ag c) by rw[d3,F];rfl,zU ag Vq H.toNat];rfl
  have z:lT ab 1 "goes" (ph ab) 1 (ar (af<|eI g4 3 k7<|ar (af<|bF 2 dV<|ar (ak 0)<|ar (af<|bS dC<|ar (ak 3) aH) aH) aH) aH) d=Z (.im s,hu ab (.lst a) ah g (Vq.eraseIdx H.toNat) h m U M (Vq.eraseIdx H.toNat) (Z<|aK u) X):=
   Ez (P:=es) (E:=[aE ah,aE y,.im<|.tup<|Vv.map aP,.im<|ag m,.aw<|a0 U,.aw<|a0 Vq]) (VI:=[.cu (.im<|ag c)]) rfl ∅ (dH (c3<|ka rfl rfl (dH (c3<|ey (dH rfl<|dH (c3<|mA rfl rfl lt) rfl) rfl rfl L) rfl) rfl rfl O rfl) rfl) rfl rfl rfl v rfl;refine⟨.lst a,0,N,g,Vq.eraseIdx H.toNat,h,m,U,?_,VF.mono ⋯,w,λo e=>e,⋯⟩;rw[di WC.1]at j;rw[di ⋯]at D;unfold mI qw;exact dY (k:=hu ab (.lst a) ah g (Vq.eraseIdx H.toNat) h m U M (Vq.eraseIdx H.toNat) (Z<|aK u) X) rfl (bV C<|bV (ll (lW j D)<|jn z)<|dx rfl) rfl
 ·have Q:eR (bK<|aC fb (ak 4)<|af<|aG<|.int 0) (bK<|aC h_ (af<|bS dC<|ar (ak 3) aH)<|af<|aG<|.int 0) d=Z (aA,d):=by
   by_cases i:u=0
   ·rw[di i]at j;rw[dU ⋯]at D;exact lW j D
   ·rw[dU i]at j;exact wQ j
  by_cases ap:u=1
  ·rw[di ap]at r;have fy:0<y.length:=oj.mpr λi=>by have:=f.pin;rw[i]at this;cases this
   let⟨H,@A,L,gi,cp,VF⟩:=iG (x:=x+1) (l:=(y.length:Int)) Vt ⋯ ⋯;let⟨@a,rfl⟩:=VF.lst;obtain⟨o,as⟩:∃o,y[H.toNat]?=Z o:=⟨y[H.toNat]'⋯,by simp⟩;have F:=(f.d4 VE am<|eC as).1;have bs:dC [aE y]=Z (aK (y.length:Int)):=by
    show Z (aK ((y.map ag).length:Int))=_;rw[a8]
   have bv:a7 (aE y) (aK H)=Z (.im<|ag o):=by
    show (fP (y.map ag) H).map ai.im=_;rw[pB gi as];rfl
   have a1:bZ 5 (bF 2 m9<|ar (ak 2)<|ar (af<|aC a7 (af<|eO ab 1 "field"<|k2 ab)<|af<|bF 2 dV<|ar (ak 0)<|ar (af<|bS dC<|ar (af<|eO ab 1 "field"<|k2 ab) aH) aH) aH) d=Z (.aX,hu ab (.lst a) ah y Vq Vv m U M Vq (Z<|aK u)<|Z<|.im<|ag<|av n o):=
    ix (ey (VI:=[.bo 2,.cu<|.im<|ag o]) (dH rfl<|dH (c3<|iB (c3<|iC rfl z8) (c3<|ey (dH rfl<|dH (c3<|mA (dH (c3<|iC rfl z8) rfl) rfl bs) rfl) rfl rfl L) rfl rfl bv) rfl) rfl rfl<|Ei J) (eU rfl) rfl;have G:bK (aC gq (ak 5)<|af<|bF 2 m9<|ar (ak 2)<|ar (af<|eO ab 1 "at"<|nu ab) aH) (hu ab (.lst a) ah y Vq Vv m U M Vq (Z<|aK u)<|Z<|.im<|ag<|av n o)=Z (!decide (av n o=av n m),hu ab (.lst a) ah y Vq Vv m U M Vq (Z<|aK u)<|Z<|.im<|ag<|av n o):=d7 (bX rfl (aT<|eG (VI:=[.bo 2,.cu<|.im<|ag m]) (bU rfl<|bU (aT<|iC rfl C5) rfl) rfl rfl (Ei J) rfl) rfl rfl<|yl (av n o)<|av n m);by_cases R:av n o=av n m
   ·rw[di R]at G;refine⟨.lst a,0,V_,y,Vq,Vv,m,U,?_,VF.mono ⋯,f,λo e=>e,⋯⟩;unfold mI qw;exact dY (k:=hu ab (.lst a) ah y Vq Vv m U M Vq (Z<|aK u) (Z<|.im<|ag<|av n o)) rfl (bV C<|bV (gg Q<|ll r<|bV a1<|gg G rfl)<|dx rfl) rfl
   ·rw[dU R]at G;let⟨s,N,g,@h,v,w⟩:=f.Qc (ab:=ab) VE VN V7 F λV4 ca i=>R (i.trans<|(an V4 ca).trans (an n am).symm);have O:gW (aV Vq) [.im (ag<|av n o)]=Z (.im .a3,aV<|Vq++[av n o]):=by
     show (if (Vq.map ag).length<100000 then Z (ai.im .a3,ai.lst<|Vq.map ag++[ag (av n o)]) else X)=_;rw[aF (by rw[a8];lia),show aV (Vq++[av n o])=.lst (Vq.map ag++[ag (av n o)]) by rw[aV,fi];rfl]
    have aN:gh (eI g4 3 gW<|ar (ak 5) aH) (hu ab (.lst a) ah y Vq Vv m U M Vq (Z<|aK u)<|Z<|.im<|ag<|av n o)=Z (.aX,hu ab (.lst a) ah y Vq Vv m U M (Vq++[av n o]) (Z<|aK u)<|Z<|.im<|ag<|av n o):=jn (ka rfl rfl (dH rfl rfl) rfl rfl O rfl);have z:lT ab 1 "thing" (qZ ab) 1 (ar (ak 5) aH) (hu ab (.lst a) ah y Vq Vv m U M (Vq++[av n o]) (Z<|aK u)<|Z<|.im<|ag<|av n o)=Z (.im s,hu ab (.lst a) ah g (Vq++[av n o]) h m U M (Vq++[av n o]) (Z<|aK u)<|Z<|.im<|ag<|av n o):=
     Ez (P:=es) (E:=[aE ah,aE y,.im<|.tup<|Vv.map aP,.im<|ag m,.aw<|a0 U,.aw<|a0 Vq]) (VI:=[.bo 5]) rfl ∅ rfl rfl rfl rfl v rfl;refine⟨.lst a,0,N,g,Vq++[av n o],h,m,U,?_,VF.mono ⋯,w,λo e=>e,⋯⟩;unfold mI qw;exact dY (k:=hu ab (.lst a) ah g (Vq++[av n o]) h m U M (Vq++[av n o]) (Z<|aK u) (Z<|.im<|ag<|av n o)) rfl (bV C<|bV (gg Q<|ll r<|bV a1<|ll G<|bV aN<|jn z)<|dx rfl) rfl
  ·rw[dU ap]at r;let⟨@p,v,w⟩:=f.next (ab:=ab) a2 d1;have z:eO ab 1 "step" (oD ab P) d=Z (.im<|ag p,hu ab (.lst q) ah y Vq Vv p (gU U p) M Vq (Z<|aK u) X):=vx (P:=es) (E:=[aE ah,aE y,.im<|.tup<|Vv.map aP,.im<|ag m,.aw<|a0 U,.aw<|a0 Vq]) rfl ∅ v rfl;refine⟨.lst q,1,V_,y,Vq,Vv,p,gU U p,?_,Vt.mono ⋯,w,λo e=>yV.mpr<|.inl e,by have:=O4 U p;lia⟩;unfold mI qw;exact dY (k:=hu ab (.lst q) ah y Vq Vv p (gU U p) M Vq (Z<|aK u) X) rfl (bV C<|vY<|gg Q<|gg r<|bV (jn z)<|dx rfl) rfl
end
end G
namespace G
variable{M:List ax}
def Pf(aq:M.Nodup){Wd:List a9}{m:ax->ax}(q:l_ M Wd m):∃Vj:List ax,Vj.Nodup/\(∀f,f∈Vj↔∃c∈M,m c=f)/\Vj.length+Wd.length=M.length:=by
 induction q with
 |nil=>exact⟨M,aq,λf=>⟨λe=>⟨f,e,rfl⟩,λ⟨c,a,d⟩=>by rw[<-d];exact a⟩,rfl⟩
 |@add Wd m d q b j k=>
  let⟨Vj,g,Wu,l⟩:=k;have h:m d.1∈Vj:=(Wu _).mpr ⟨d.1,b.1,rfl⟩;refine⟨Vj.erase<|m d.1,g.erase _,λf=>?_,?_⟩
  ·rw[g.mem_erase_iff,Wu];constructor
   ·rintro⟨t,c,a,rfl⟩;exact⟨c,a,aJ t⟩
   ·rintro⟨c,a,e⟩;have e:(if m c=m d.1 then m d.2 else m c)=f:=e;by_cases o:m c=m d.1
    ·rw[aF o]at e;rw[<-e];exact⟨λi=>j i.symm,d.2,b.2.1,rfl⟩
    ·rw[aJ o]at e;rw[<-e];exact⟨o,c,a,rfl⟩
  ·rw[Al h,dd,iJ];have:=r1 h;lia
def S2(VE:er M){Wd:List a9}{m:ax->ax}(q:l_ M Wd m)(i:∀d,gP M d->m d.1=m d.2):Wd.length+1=M.length:=by
 let⟨Vj,j,Wu,p⟩:=Pf VE.aq q;have o:=VE.con m λh a c b e=>i (h,c) ⟨a,b,e⟩;obtain⟨c,s,b⟩:∃c s,M=c::s:=by
  cases k:M with
  |nil=>exact absurd k VE.ne
  |cons c s=>exact⟨c,s,rfl⟩
 have g:c∈M:=by rw[b];exact .head _
 have:Vj.length=1:=by
  have t:m c∈Vj:=(Wu _).mpr ⟨c,g,rfl⟩;have A:=Gh j (l:=[m c]) λf n=>by
   let⟨h,a,rfl⟩:=(Wu f).mp n;rw[o h a c g];exact .head _
  have:=r1 t;simp at A;lia
 lia
end G
namespace G
open L2
variable{P:ct}
def II{x:Nat}{e:ai}{l:Int}(b:e0 (x+1000) e)(C:0<l)(ap:l<=40):∃Vk M,ta [e,aK l]=Z (aV M,[Vk,aK l])/\e0 x Vk/\er M/\dk M:=by
 let⟨a,@A,D,as,a1,VF⟩:=iG (x:=x+999) (l:=2) b ⋯ ⋯;let⟨j,@a2,E,V2,V8,v⟩:=iG (x:=x+998) (l:=2) VF ⋯ ⋯;let⟨q,@t,F,cE,cQ,Vt⟩:=iG (x:=x+997) (l:=l) v C ⋯;have H:nS 40 [(8+a,8+j)]:=⟨by simp,by simp,by simp,λc n=>by rw[cb.mp n];exact⟨by show 0<=8+a;lia,by show 8+a<=29;lia,by show 0<=8+j;lia,by show 8+j<=29;lia⟩,λh o c n=>by rw[cb.mp n,cb.mp o];exact⟨by simp,by simp⟩,λm W h o c n=>by rw[cb.mp n,cb.mp o]⟩;have y:(gX 0 q.toNat).length=q.toNat:=by rw[gX,a8,j1]
 let⟨@VL,I,⟨J,M,r,@Wl,rfl,s,L,z⟩⟩:=ts (VR:=bx 5) (c:=su) (w:=gX 0 q.toNat) (λg k=>∃e M r Wl,k=mV e (Z<|aK l) (Z<|aK a) (Z<|aK j) M r Wl/\e0 (x+997-2*g) e/\nS 40 M/\M.length<=g+1) (k:=mV t (Z<|aK l) (Z<|aK a) (Z<|aK j) [(8+a,8+j)] X X) ⟨t,[(8+a,8+j)],X,X,rfl,Vt,H,by simp⟩
  (λg f k N fe=>by
   let⟨e,M,r,@Wl,rfl,O,L,z⟩:=fe;have Vl:g<q.toNat:=by
    have:=(eX.mp N).1
    rwa [y]at this
   let⟨Vk,P,@bd,d,T,R,be⟩:=Lb (x:=x+997-2*(g+1)) (l:=Z (aK l)) (VW:=Z (aK a)) (VZ:=Z (aK j)) (d:=Z (.im f)) (Wl:=Wl) (O.mono ⋯) L ⋯;exact⟨mV e (Z<|aK l) (Z<|aK a) (Z<|aK j) M (Z<|.im f) Wl,.aX,_,rfl,d,.inl rfl,Vk,P,_,_,rfl,T,R,⋯⟩)
 rw[y]at s z;let⟨@B,VN,S,V7⟩:=vg L.aq ⋯;refine⟨J,B,?_,s.mono ⋯,⟨λi=>?_,VN.nodup_iff.mpr L.aq,by rw[VN.length_eq];lia,λc n=>L.lZ c<|VN.mem_iff.mp n,λh o c n=>L.par h (VN.mem_iff.mp o) c<|VN.mem_iff.mp n,λm U h o c n=>L.con m (λh o c n=>U h (VN.mem_iff.mpr o) c<|VN.mem_iff.mpr n) h (VN.mem_iff.mp o) c<|VN.mem_iff.mp n⟩,V7⟩
 ·let⟨@p,rfl⟩:=b.lst;let⟨@bi,rfl⟩:=Vt.lst;let⟨@bm,rfl⟩:=VF.lst;let⟨@u,rfl⟩:=v.lst;let⟨@bn,rfl⟩:=s.lst;have al:oW q:=⟨⋯,⋯⟩;have am:n6 2 3 (ar (af<|bF 2 G.dV<|ar (ak 0)<|ar (af<|aG<|.int 2) aH)<|ar (af<|bF 2 G.dV<|ar (ak 0)<|ar (af<|aG<|.int 2) aH) aH) [Z (.lst p),Z<|aK l,X,X,X,X,X]=Z (.aX,[Z (.lst u),Z<|aK l,Z<|aK a,Z<|aK j,X,X,X]):=
   Fx (dH (c3<|ey rfl rfl rfl D)<|dH (c3<|ey rfl rfl rfl E) rfl) rfl (show 2<7 by decide) (show 3<7 by decide) rfl;have an:bZ 4 (fp<|ar (af<|dp<|ar (af<|aC dg (af<|aG<|.int 8)<|ak 2)<|ar (af<|aC dg (af<|aG<|.int 8)<|ak 3) aH) aH) [Z (.lst u),Z<|aK l,Z<|aK a,Z<|aK j,X,X,X]=Z (.aX,mV (.lst u) (Z<|aK l) (Z<|aK a) (Z<|aK j) [(8+a,8+j)] X X):=rfl;unfold ta yA;exact dY rfl (bV am<|bV an<|bV (jt (tJ (dH (c3<|ey rfl rfl rfl F) rfl) rfl al) I rfl)<|dx<|HR rfl S) rfl
 ·subst i;have:=VN.length_eq;have t:=oj.mpr L.ne;simp at this;lia
abbrev iP(ab:aj)(C VG:Option ai)(e:ai)(M ah y Vq:List ax)(Vv:List a9)(m:ax)(U B:List ax)(a b c:Option ai):aY:=[C,VG,Z e,Z<|aV M,Z<|aE ah,Z<|bO ab ah y Vq (.tup<|Vv.map aP) m U,Z<|aV Vq,Z<|k0 B (outs y U)<|outs (outs ah U) y,a,b,c]
def Po(z:n7 P){ab:aj}{x:Nat}{e:ai}{M ah V_ y Vq U B:List ax}{Vv:List a9}{m:ax}{C VG i D s:Option ai}(b:e0 (x+4) e)(VE:er M)(VN:ah.Perm (cells M))(V7:dk ah)(u:eS M ah V_ y Vq Vv m U)(R:oG ah y U B):
  ∃(Vk:ai) (q c f:List ax) (g:List a9) (h:ax) (d a:List ax) (E F:Option ai),sm ab P (iP ab C VG e M ah y Vq Vv m U B i D s)=Z (.aX,iP ab C VG Vk M ah c f g h d a i E F)/\e0 x Vk/\eS M ah q c f g h d/\oG ah c d a:=by
 have am:=VE.len;have d1:ah.length<=160:=by rw[VN.length_eq,kE];lia
 have r:=V7.aq;let⟨t,l,q,c,f,g,h,@d,G,Vt,k,sub,le⟩:=Sj (ab:=ab) z (x:=x+1) b VE VN V7 u;let@⟨an,ap,H⟩:=k.len r d1;let⟨@a,p⟩:=Dx (ah:=ah) (y:=c) k.aq H;let⟨@A,J,VF⟩:=B3 (ab:=ab) Vt k r d1 p;have L:=DK (ab:=ab) k V7 d1 p;let⟨@N,rfl⟩:=b.lst;let⟨@O,rfl⟩:=Vt.lst;let⟨@j,rfl⟩:=VF.lst;have as:B.length=U.length:=R.pm.length_eq;have a1:a.length=d.length:=p.pm.length_eq;have a2:=(u.len r d1).2.2;have Q:dv 1 [7] (cc<|ak 9) (bx 0) g5 (xd ab P) (iP ab C VG (.lst j) M ah c f g h d a i (Z<|aE B)<|Z<|aK l)=Z (.lst<|B.map λ_=>.av V,iP ab C VG (.lst j) M ah c f g h d a i (Z<|aE B)<|Z<|aK l):=
  kg (w:=B.map ag) (n:=X) (Vu:=iP ab C VG (.lst j) M ah c f g h d a i (Z<|aE B) (Z<|aK l)) rfl (n0 ag (λ_=>.av V) _ (λo S=>⟨[Z (.im<|ag o),Z<|k0 a (outs c d)<|outs (outs ah d) c],_,[Z (.im<|ag o),Z<|k0 a (outs c d)<|outs (outs ah d) c],rfl,rfl,bX rfl (aT<|bX rfl rfl rfl rfl rfl) rfl rfl<|um (I:=a) V ⟨λ_=>rfl,λ_=>p.pm.mem_iff.mpr<|sub o<|R.pm.mem_iff.mp S⟩,rfl⟩) ⋯) rfl;have v:=En (λ_:ax=>V) B;rw[show (B.all λ_=>V)=V from jC.mpr λ_ W=>rfl]at v;have T:dC [aE B]=Z (aK (B.length:Int)):=by
  show Z (aK ((B.map ag).length:Int))=_;rw[a8]
 have al:dC [aE a]=Z (aK (a.length:Int)):=by
  show Z (aK ((a.map ag).length:Int))=_;rw[a8]
 have WE:h_ (aK (a.length:Int)) (aK<|(B.length:Int)+l)=Z (.im<|.av aA):=by
  show Z (ai.im<|.av<|decide ((a.length:Int)>(B.length:Int)+l))=_;rw[dU ⋯]
 refine⟨.lst j,q,c,f,g,h,d,a,Z<|aE B,Z<|aK l,?_,VF,k,p⟩;unfold sm;refine bV (Vu:=iP ab C VG (.lst N) M ah y Vq Vv m U B i (Z<|aE B) s) (fG (bX rfl rfl rfl rfl rfl) (eU rfl) rfl) ?_;refine bV (Vu:=[C,VG,Z<|.lst O,Z<|aV M,Z<|aE ah,Z<|bO ab ah c f (.tup<|g.map aP) h d,Z<|aV f,Z<|k0 B (outs y U)<|outs (outs ah U) y,i,Z<|aE B,Z<|aK l]) (ix (ey (VI:=[.bo 2,.bo 5,.bo 3,.bo 6]) rfl rfl rfl G) (eU rfl) rfl) ?_;refine bV (Vu:=iP ab C VG (.lst j) M ah c f g h d a i (Z<|aE B) (Z<|aK l)) (ix (ey (VI:=[.bo 2,.bo 5]) rfl rfl rfl J) (eU rfl) rfl) ?_;refine bV (Vu:=iP ab C VG (.lst j) M ah c f g h d a i (Z<|aE B) (Z<|aK l)) (gg (t8 (rB<|nK (aT<|eG (VI:=[.bo 5,.bo 7,.bo 4]) rfl rfl rfl L rfl) rfl rfl)<|rB<|nK (aT<|gu (bU (aT Q) rfl) rfl v) rfl rfl) rfl) ?_;exact gg (d7<|bX (aT<|gu (bU (aT<|bX rfl rfl rfl rfl rfl) rfl) rfl al) (aT<|bX (aT<|gu (bU rfl rfl) rfl T) rfl rfl rfl rfl) rfl rfl WE) rfl
def Rl(cd:n7 P){ab:aj}{VT:List Int}{q:Int}{VW VZ Wi E Wl am n r s:Option ai}(ce:0<=q)(lc:q<6):
  ∃Wj ch ci cl co cr u a j,qx ab P [Z (.dF<|VT.map .int),Z<|aK q,VW,VZ,Wi,E,Wl,am,n,r,s]=Z (.aX,[Z (.dF<|VT.map .int),Z<|aK q,Wj,ch,ci,cl,co,cr,u,a,j]):=by
 let⟨@t,cs,Vt⟩:=S9 (VT:=VT) (q:=q) ce ⋯;let⟨F,@lf,db,li,Wt,an⟩:=iG (x:=9999) (l:=8) (Vt.mono ⋯) ⋯ ⋯;obtain⟨l,lm,ds,dL,eq⟩:∃l:Int,l=(if F=0 then 40 else 16)/\0<l/\l<=40/\a7 (.lst [.int 16,.int 40]) (aK<|if decide (F=0)=V then 1 else 0)=Z (aK l):=by
  by_cases i:F=0
  ·exact⟨40,by rw[aF i],by decide,by decide,by rw[aF (di i)];rfl⟩
  ·exact⟨16,by rw[aJ i],by decide,by decide,by rw[aJ (by simp[i])];rfl⟩
 let⟨A,@M,ev,VF,VE,K⟩:=II (x:=8000) (l:=l) (an.mono ⋯) ds dL;let⟨@ah,ex,VN,V7⟩:=OK VE;let⟨ln,Vv,Wd,@ls,fd,ap,as,lK,fn⟩:=SG (x:=7000) VE (VF.mono ⋯);have lv:=VE.len;have lw:=oj.mpr VE.ne;have aW:ah.length=4*M.length:=by rw[VN.length_eq,kE]
 have d1:ah.length<=160:=⋯
 have fr:=V7.aq;have rP:Vv.length<=40:=by
  have:=S2 VE lK fn;rw[as.length_eq];lia
 have f0:∀d∈Vv,gP M d:=λd f1=>lK.O3 d (as.mem_iff.mp f1);let⟨G,@mb,f2,cE,cQ,a1⟩:=iG (x:=6000) (l:=(ah.length:Int)) (ap.mono ⋯) ⋯ ⋯;obtain⟨m,a2⟩:∃m,ah[G.toNat]?=Z m:=⟨ah[G.toNat]'⋯,by simp⟩;have bd:=eC a2;have H:eS M ah M ah [] Vv m [m]:=⟨VE,VN,V7,λc J=>⟨J,fW⟩,bd,λo e=>e,f0,rP,gd.mpr ⟨fW,hn⟩,λo f4=>by rw[cb.mp f4];exact bd,.head _,hn,λc J=>nomatch J⟩;let⟨@B,R⟩:=Dx (ah:=ah) (y:=ah) H.aq ↥0;let⟨@mo,f8,be⟩:=B3 (ab:=ab) (x:=5000) (a1.mono ⋯) H fr d1 R;have ga:=DK (ab:=ab) H V7 d1 R;let⟨I,@ms,ge,m0,na,bi⟩:=iG (x:=4999) (l:=8) be ⋯ ⋯;obtain⟨z,nb,W0,nl,gl⟩:∃z:Int,z=(if I=0 then 91 else 21)/\0<z/\z<=91/\a7 (.lst [.int 21,.int 91]) (aK<|if decide (I=0)=V then 1 else 0)=Z (aK z):=by
  by_cases i:I=0
  ·exact⟨91,by rw[aF i],by decide,by decide,by rw[aF (di i)];rfl⟩
  ·exact⟨21,by rw[aJ i],by decide,by decide,by rw[aJ (by simp[i])];rfl⟩
 let⟨bm,@nm,go,V2,V8,bn⟩:=iG (x:=4998) (l:=z) bi ⋯ ⋯;have gt:dC [aE ah]=Z (aK (ah.length:Int)):=by
  show Z (aK ((ah.map ag).length:Int))=_;rw[a8]
 have g1:a7 (aE ah) (aK G)=Z (.im<|ag m):=by
  show (fP (ah.map ag) G).map ai.im=_;rw[pB cE a2];rfl
 have g2:B.length=1:=R.pm.length_eq;have g3:dC [aE B]=Z (aK 1):=by
  show Z (aK ((B.map ag).length:Int))=_;rw[a8,g2];rfl
 let⟨@p,rfl⟩:=Vt.lst;let⟨@nn,rfl⟩:=an.lst;let⟨@bs,rfl⟩:=VF.lst;let⟨@no,rfl⟩:=ap.lst;let⟨@hd,rfl⟩:=a1.lst;let⟨@he,rfl⟩:=be.lst;let⟨@np,rfl⟩:=bi.lst;let⟨@bv,rfl⟩:=bn.lst;have hf:=LB (ab:=ab) (ah:=ah) (D:=.tup (Vv.map aP)) (m:=m);obtain⟨VS,hm⟩:∃VS:Int,VS=10+bm:=⟨_,rfl⟩;have hw:(gX 0 VS.toNat).length=VS.toNat:=by rw[gX,a8,j1]
 let⟨VL,h0,⟨Vk,ca,L,N,O,Q,S,al,u,a,j,rfl,K,K,K⟩⟩:=ts (VR:=bx 8) (c:=sm ab P) (w:=gX 0 VS.toNat) (λg k=>∃(e:ai) (V_ y Vq:List ax) (Vv:List a9) (m:ax) (U B:List ax) (u a j:Option ai),k=iP ab (Z<|.dF<|VT.map .int) (Z<|aK q) e M ah y Vq Vv m U B u a j/\e0 (4998-4*g) e/\eS M ah V_ y Vq Vv m U/\oG ah y U B) (k:=iP ab (Z<|.dF<|VT.map .int) (Z<|aK q) (.lst bv) M ah ah [] Vv m [m] B n r s) ⟨.lst bv,M,ah,[],Vv,m,[m],B,n,r,s,rfl,bn,H,R⟩
  (λg f k ii fe=>by
   let⟨e,V_,y,Vq,Vv,m,U,B,u,a,j,rfl,b,io,it⟩:=fe;have Vl:g<VS.toNat:=by
    have:=(eX.mp ii).1
    rwa [hw]at this
   let⟨Vk,ca,L,N,O,Q,S,al,ns,nw,d,T,jp,kt⟩:=Po (ab:=ab) cd (x:=4998-4*(g+1)) (C:=Z (.dF<|VT.map .int)) (VG:=Z (aK q)) (i:=Z (.im f)) (D:=a) (s:=j) (b.mono ⋯) VE VN V7 io it;exact⟨iP ab (Z<|.dF<|VT.map .int) (Z<|aK q) e M ah y Vq Vv m U B (Z<|.im f) a j,.aX,_,rfl,d,.inl rfl,Vk,ca,L,N,O,Q,S,al,_,_,_,rfl,T,jp,kt⟩)
 have kw:oW VS:=⟨⋯,⋯⟩;have ad:dg (aK 10) (aK bm)=Z (aK VS):=by rw[hm];rfl
 refine⟨_,_,_,_,_,_,_,_,_,(?_:qx ab P _=Z (L2.kH.aX,iP ab (Z<|.dF<|VT.map .int) (Z<|aK q) Vk M ah L N O Q S al u a j))⟩;unfold qx;let W:ai->Option ai->Option ai->Option ai->Option ai->aY:=λe h c o v=>[Z (.dF<|VT.map .int),Z<|aK q,Z e,h,c,o,v,am,n,r,s]
 refine bV (Vu:=W (.lst p) VZ Wi E Wl) (ix (ey rfl rfl rfl cs) (eU rfl) rfl) (bV (Vu:=W (.lst bs) (Z<|aV M) Wi E Wl) (ix (ey (dH rfl<|dH (c3<|iB (c3 rfl) (c3<|mA (dH (c3<|iB (c3<|ey rfl rfl rfl db) rfl rfl rfl<|sR F 0) rfl) rfl rfl) rfl rfl eq) rfl) rfl rfl ev) (eU rfl) rfl)<|bV (Vu:=W (.lst bs) (Z<|aV M) (Z<|aE ah) E Wl) (ix (ey rfl rfl rfl ex) (eU rfl) rfl) ?_);refine bV (Vu:=W (.lst hd) (Z<|aV M) (Z<|aE ah) (Z<|bO ab ah ah [] (.tup<|Vv.map aP) m [m]) (Z<|aV [])) (Fx (dH (c3<|Pq (VI:=[.bo 4,.cu<|.im<|.tup<|Vv.map aP,.cu<|.im<|ag m]) (dH rfl<|dH (c3<|ey rfl rfl rfl fd)<|dH (c3<|iB rfl (c3<|ey (dH rfl<|dH (c3<|mA rfl rfl gt) rfl) rfl rfl f2) rfl rfl g1) rfl) rfl rfl hf rfl)<|dH (c3 rfl) rfl) rfl (eU rfl) (eU rfl) rfl) ?_;refine bV (Vu:=iP ab (Z<|.dF<|VT.map .int) (Z<|aK q) (.lst he) M ah ah [] Vv m [m] B n r s) (ix (ey (VI:=[.bo 2,.bo 5]) rfl rfl rfl f8) (eU rfl) rfl) (bV (gg (t8 (rB<|nK (aT<|eG (VI:=[.bo 5,.bo 7,.bo 4]) rfl rfl rfl ga rfl) rfl rfl)<|d7<|bX (aT<|gu (bU (aT<|bX rfl rfl rfl rfl rfl) rfl) rfl g3) rfl rfl rfl rfl) rfl) ?_);exact jt (tJ (dH (c3<|iB (c3 rfl) (c3<|ey (dH rfl<|dH (c3<|iB (c3 rfl) (c3<|mA (dH (c3<|iB (c3<|ey rfl rfl rfl ge) rfl rfl rfl<|sR I 0) rfl) rfl rfl) rfl rfl gl) rfl) rfl rfl go) rfl rfl ad) rfl) rfl kw) h0 rfl
def Sf(ab:aj)(l:n7 P)(VT:List Int)(o:VT.length<100000):∃outs,pE ab P [.dF (VT.map .int)]=Z (.im<|.av V,outs):=by
 let⟨VL,m,VG,VW,VZ,Wi,a,Wl,b,e,h,i,rfl⟩:=ts (VR:=bx 1) (c:=qx ab P) (w:=gX 0 3) (λg k=>∃VG VW VZ Wi a Wl b e h i,k=[Z (.dF<|VT.map .int),VG,VW,VZ,Wi,a,Wl,b,e,h,i]) (k:=[Z (.dF<|VT.map .int),X,X,X,X,X,X,X,X,X,X]) ⟨_,_,_,_,_,_,_,_,_,_,rfl⟩
  (λg f k j fe=>by
   let⟨VG,VW,VZ,Wi,a,Wl,b,e,h,i,rfl⟩:=fe;have Vl:g<3:=by
    have:=(eX.mp j).1
    rwa [gX,a8,j1]at this
   have n:f=.int (g:Int):=by
    unfold gX at j;rw[d3,F2 Vl]at j;have:=Option.some.inj j;rw[<-this];show aa.int (0+(g:Int))=_;rw[Int.zero_add]
   subst n;let⟨Wj,p,r,s,t,u,v,x,y,d⟩:=Rl l (ab:=ab) (VT:=VT) (q:=(g:Int)) (VW:=VW) (VZ:=VZ) (Wi:=Wi) (E:=a) (Wl:=Wl) (am:=b) (n:=e) (r:=h) (s:=i) ⋯ ⋯;exact⟨[Z (.dF<|VT.map .int),Z<|aK (g:Int),VW,VZ,Wi,a,Wl,b,e,h,i],.aX,_,rfl,d,.inl rfl,_,_,_,_,_,_,_,_,_,_,rfl⟩)
 unfold pE xq;exact⟨_,dY rfl (bV (jt (tJ (bU (aT rfl) rfl) rfl ⟨by decide,by decide⟩) m rfl)<|dx rfl) rfl⟩
end G
set_option maxHeartbeats 4000000
namespace L2
open PyProof.Rows
variable{WZ:ay ai}{WG:ay Bool}{WE:eW}{D:hI}{V3 VV:List Nat}{VC:Pos}{VK:gY}{WD:List bl}{WL Wo VR:bl}{L:bu}{F:aj}{j:cf}{f:az}{q:Nat}{o:c9}
def Ci:cf->az
 |.FunctionDef x _ _ _ _ _ _ _ _ _=>x
 |_ => ""
def e8(j:cf):List az:=((f5 j).args.map (·.arg))
def md(j:cf):List az:=((dq j).names.filterMap fun
 | (f,.local)=>Z f
 | (f,.cell)=>Z f
 |_=>X)
def kX:bl->List az
 |.Name f _=>[f]
 |.Tuple S _ _=>S.filterMap fun
  |.Name f _=>Z f
  |_=>X
 |_=>[]
abbrev b8(o:c9)(q:Nat)(j:cf)(F:aj)(Q:cj):Prop:=DO o q (Ci j) j F (e8 j) (e8 j).length Q
abbrev eT(o:c9)(t:Prop)(q:Nat)(f z:az)(j:cf)(F:aj)(Q:cj):Prop:=sv t o.P o.w o.K o.aU o.base q f z j F (e8 j) (e8 j).length Q
def e3(N:mJ o.K o.aU f j F (e8 j))(a:(md j).Nodup->∀(Wc:ae) (O:bq) (Wq:List d5) (e:ao) (b:aD) (Vo:fv),dt q (O.deeper<|h7 f (dq j) e.heap.objs.size F Wc)->gk (ju gr o.P o.w o.K o.aU o.base (md j) f (dq j) F Wc O Wq e b Vo).ke VV (eQ j) L)(VD:kb (md j) (e8 j) (dq j):=by exact tW)(c:∀g∈VV,g<(e8 j).length:=by decide):DO o (q+1) f j F (e8 j) (e8 j).length (cJ (e8 j).length (md j).length VV L):=CF N VD rfl c a
def kk{t:Prop}{z:az}(N:hR t o.K f z j F (e8 j))(a:(md j).Nodup->∀(Wc:ae) (O:bq) (Wq:List d5) (e:ao) (b:aD) (Vo:fv),dt q (O.deeper<|h7 z (dq j) e.heap.objs.size F Wc)->gk (ju gr o.P o.w o.K o.aU o.base (md j) z (dq j) F Wc O Wq e b Vo).ke VV (eQ j) L)(VD:kb (md j) (e8 j) (dq j):=by exact tW)(c:∀g∈VV,g<(e8 j).length:=by decide):eT o t (q+1) f z j F (cJ (e8 j).length (md j).length VV L):=I2 (md j) N a VD rfl c
section
variable{a:aL}
def Mn(Vl:hb a VR Wo D)(c:∀b,fO (a.d4 (ff a (kX VR) V3) VK b) (nH (kX VR).length V3.length) VR WE)(bI:∀b,lx (a.d4 (ff a (kX VR) V3) VK b) WD WG)(d:∀b,bh (a.d4 (ff a (kX VR) V3) VK b) WL WZ)(VD:wg a.env.scope a.N VK V3=V:=by kernel_rfl)(e:a.calm=V:=by rfl)(aq:V3.Nodup:=by decide)(Vy:∀f,k4 Wo a.env f=pure f:=by intro W;rfl):bh a (.ListComp WL [⟨VR,Wo,WD,0⟩] VK VC) (dv (kX VR).length V3 D WE WG WZ):=
 QE e (EL _ _ VD rfl rfl) aq Vl c bI d Vy
def RX{g:Nat}{b:az}{WM d:Pos}(Vl:hb a VR Wo D)(e:∀c,fO (a.d4 (ff a (kX VR) V3) VK c) (nH (kX VR).length V3.length) VR WE)(bI:∀c,lx (a.d4 (ff a (kX VR) V3) VK c) WD WG)(h:∀c,bh (a.d4 (ff a (kX VR) V3) VK c) WL WZ)(i:sf a.N=V:=by kernel_rfl)(j:a.N[g]?=Z b:=by rfl)(k:j6 a.env.scope b:=by first|exact .inl rfl|exact .inr rfl)(l:a.calm=V:=by rfl)(VD:wg a.env.scope a.N VK V3=V:=by kernel_rfl)(aq:V3.Nodup:=by decide)(m:g∉VV:=by decide)(Vy:∀f,k4 Wo a.env f=pure f:=by intro W;rfl)(n:kC (.ListComp WL [⟨VR,Wo,WD,0⟩] VK VC) (Z<|.Name b WM) d.line a.env=pure V:=by rfl)(o:a.fn b=V\/a.env.scope.names.lookup b=Z .local:=by first|exact .inl rfl|exact .inr rfl|assumption):
  ec a VV (.Assign [.Name b WM] (.ListComp WL [⟨VR,Wo,WD,0⟩] VK VC) d) (bZ g<|dv (kX VR).length V3 D WE WG WZ):=
 O1 (y8 i) j k l (EL _ _ VD rfl rfl) aq Vl e bI h m Vy n
end
abbrev cU(o:c9)(j:cf)(F:aj):Prop:=mJ o.K o.aU (Ci j) j F (e8 j)
def mD(Vz:az->Prop):List az->Prop
 |[]=>True
 |f::I=>Vz f/\mD Vz I
theorem mD.of{Vz:az->Prop}:∀{I:List az},mD Vz I->∀f,I.contains f=V->Vz f
 |z::I,⟨h,c⟩,f,e=>by
  rw[List.contains_cons,vS]at e;rcases e with e|e
  ·rw[eq_of_beq e];exact h
  ·exact mD.of c f e
abbrev yi(R:Φ)(f:az):Prop:=Φa R fw f=Z X
def IC{R:Φ}{I:List az}(h:Φa R fw f=Z X)(c:mD (yi R) I):mD (yi R) (f::I):=⟨h,c⟩
end L2
namespace L2
open Spec PyProof.Rows
section
variable{R:Φ}
variable{h:aj}{v:Option aj}{x:Nat}{j:Array (Option ae)}
def kpm{g r:Int}{D J:hX}(e:R.lookup h=Z ⟨.type "tuple",v,.seq #[.int g D,.int r J] x,j⟩):ho R h g r:=⟨_,_,_,_,_,e⟩
def krm{f z:aj}(e:R.lookup h=Z ⟨.type "tuple",v,.seq #[.ref f,.ref z] x,j⟩):oB R h f z:=⟨_,_,_,e⟩
end
end L2
set_option maxHeartbeats 0
namespace K56
open L2 PyProof.Rows
variable{I:PySem.W.OpenLaw}{r:aj}{q:Nat}{O:bq}
def aM(g:Nat):cf:=(PySem.Challenge.pw_mowfloor_k56_mown_left_and_lost.main.body.getD g (.Pass ⟨0,0,0,0⟩))
def hy(a:dt q O):O.units+20<bW:=by have:=a.un;omega
def HI(a:dt q O):O.units+30<bW:=by have:=a.un;omega
structure c7(o:c9)(r:aj)(P:ct):Prop where
 n:∀f,(["all","any","bool","dict","int","isinstance","len","list","max","min","range","set","sorted","tuple"]:List az).contains f=V->o.aU f=X
 R_:∃t,o.aU "SIDE" = Z (.int 2 t)
 cl:fF o.K r
 m:o.aU "Going" = Z (.ref r)
 na:∀f,(["first","ground","branches","place","over","taken"]:List az).contains f=V->gz o.K r f
 t:rR o.K o.P o.w P.kt P.cM
 w:o.aU "WAYS" = Z (.ref P.lP)
def Pk(o:c9)(r:aj)(P:ct):Prop:=(∀{F} (N:cU o (aM 30) F),b8 o 1 (aM 30) F G.rY)
def Pr(o:c9)(r:aj)(P:ct):Prop:=(∀{F} (N:cU o (aM 31) F),b8 o 1 (aM 31) F G.dV)
def R6(o:c9)(r:aj)(P:ct):Prop:=(∀{F} (N:cU o (aM 32) F),b8 o 1 (aM 32) F G.jH)
def UP(o:c9)(r:aj)(P:ct):Prop:=(∀{F a b} (N:cU o (aM 33) F) (c:b8 o 1 (aM 31) a G.dV) (d:b8 o 1 (aM 32) b G.jH),b8 o 2 (aM 33) F G.ta)
def Mz(o:c9)(r:aj)(P:ct):Prop:=(∀{F} (N:cU o (aM 34) F),b8 o 1 (aM 34) F G.sk)
def Ux(o:c9)(r:aj)(P:ct):Prop:=(∀{F} (N:cU o (aM 5) F),b8 o 1 (aM 5) F G.fJ)
def K2(o:c9)(r:aj)(P:ct):Prop:=(∀{F a} (N:cU o (aM 26) F) (b:b8 o 1 (aM 5) a G.fJ),b8 o 2 (aM 26) F G.hx)
def L3(o:c9)(r:aj)(P:ct):Prop:=(∀{F a} (N:hR (cX o.K r "left" F) o.K "left" "Going.left" (cH (aM 28) 6) F (e8<|cH (aM 28) 6)) (b:b8 o 2 (aM 26) a G.hx),eT o (cX o.K r "left" F) 3 "left" "Going.left" (cH (aM 28) 6) F (G.m8 r))
def Jq(o:c9)(r:aj)(P:ct):Prop:=(∀{F a} (N:hR (cX o.K r "lost" F) o.K "lost" "Going.lost" (cH (aM 28) 7) F (e8<|cH (aM 28) 7)) (b:b8 o 2 (aM 26) a G.hx),eT o (cX o.K r "lost" F) 3 "lost" "Going.lost" (cH (aM 28) 7) F (G.mm r))
def Sl(o:c9)(r:aj)(P:ct):Prop:=(∀{F} (N:hR (cX o.K r "mown" F) o.K "mown" "Going.mown" (cH (aM 28) 3) F (e8<|cH (aM 28) 3)),eT o (cX o.K r "mown" F) 1 "mown" "Going.mown" (cH (aM 28) 3) F (G.ni r))
def MH(o:c9)(r:aj)(P:ct):Prop:=(∀{F d a b c} (N:cU o (aM 38) F) (e:b8 o 1 (aM 31) d G.dV) (f:eT o (cX o.K r "lost" a) 3 "lost" "Going.lost" (cH (aM 28) 7) a (G.mm r)) (g:eT o (cX o.K r "left" b) 3 "left" "Going.left" (cH (aM 28) 6) b (G.m8 r)) (h:eT o (cX o.K r "mown" c) 1 "mown" "Going.mown" (cH (aM 28) 3) c (G.ni r)),b8 o 4 (aM 38) F (G.pR r))
def MR(o:c9)(r:aj)(P:ct):Prop:=(∀{F} (N:hR (lH o.K r F) o.K "__init__" "Going.__init__" (cH (aM 28) 0) F (e8<|cH (aM 28) 0)),eT o (lH o.K r F) 1 "__init__" "Going.__init__" (cH (aM 28) 0) F (G.sF r))
def L9(o:c9)(r:aj)(P:ct):Prop:=(∀{F} (N:cU o (aM 6) F),b8 o 1 (aM 6) F G.t6)
def Ub(o:c9)(r:aj)(P:ct):Prop:=(∀{F a} (N:cU o (aM 7) F) (b:b8 o 1 (aM 6) a G.t6),b8 o 2 (aM 7) F G.pN)
def IE(o:c9)(r:aj)(P:ct):Prop:=(∀{F} (N:cU o (aM 15) F),b8 o 1 (aM 15) F G.iq)
def Sp(o:c9)(r:aj)(P:ct):Prop:=(∀{F a b} (N:cU o (aM 16) F) (c:b8 o 1 (aM 5) a G.fJ) (d:b8 o 1 (aM 15) b G.iq),b8 o 2 (aM 16) F G.nX)
def TG(o:c9)(r:aj)(P:ct):Prop:=(∀{F} (N:cU o (aM 23) F),b8 o 1 (aM 23) F G.sO)
def Ma(o:c9)(r:aj)(P:ct):Prop:=(∀{F a} (N:cU o (aM 22) F) (b:b8 o 1 (aM 5) a G.fJ),b8 o 2 (aM 22) F G.rA)
def Ja(o:c9)(r:aj)(P:ct):Prop:=(∀{F a b} (N:cU o (aM 24) F) (c:b8 o 1 (aM 23) a G.sO) (d:b8 o 2 (aM 22) b G.rA),b8 o 3 (aM 24) F G.pZ)
def Le(o:c9)(r:aj)(P:ct):Prop:=(∀{F} (N:cU o (aM 19) F),b8 o 1 (aM 19) F (G.kh P))
def KQ(o:c9)(r:aj)(P:ct):Prop:=(∀{F a b} (N:cU o (aM 27) F) (c:b8 o 2 (aM 26) a G.hx) (d:b8 o 1 (aM 5) b G.fJ),b8 o 3 (aM 27) F G.sx)
def S5(o:c9)(r:aj)(P:ct):Prop:=(∀{F a b c d e f} (N:hR (cX o.K r "settle" F) o.K "settle" "Going.settle" (cH (aM 28) 10) F (e8<|cH (aM 28) 10)) (g:b8 o 1 (aM 15) a G.iq) (h:b8 o 2 (aM 7) b G.pN) (i:b8 o 1 (aM 5) c G.fJ) (j:b8 o 2 (aM 16) d G.nX) (k:b8 o 3 (aM 24) e G.pZ) (l:b8 o 3 (aM 27) f G.sx),eT o (cX o.K r "settle" F) 4 "settle" "Going.settle" (cH (aM 28) 10) F (G.mR r))
def Ts(o:c9)(r:aj)(P:ct):Prop:=(∀{F} (N:cU o (aM 1) F),b8 o 1 (aM 1) F G.vj)
def JE(o:c9)(r:aj)(P:ct):Prop:=(∀{F a} (N:cU o (aM 2) F) (b:b8 o 1 (aM 1) a G.vj),b8 o 2 (aM 2) F G.uS)
def To(o:c9)(r:aj)(P:ct):Prop:=(∀{F a} (N:cU o (aM 3) F) (b:b8 o 2 (aM 2) a G.uS),b8 o 3 (aM 3) F G.k_)
def Jt(o:c9)(r:aj)(P:ct):Prop:=(∀{F b a} (N:hR (cX o.K r "goes" F) o.K "goes" "Going.goes" (cH (aM 28) 9) F (e8<|cH (aM 28) 9)) (c:b8 o 3 (aM 3) b G.k_) (d:eT o (cX o.K r "settle" a) 4 "settle" "Going.settle" (cH (aM 28) 10) a (G.mR r)),eT o (cX o.K r "goes" F) 5 "goes" "Going.goes" (cH (aM 28) 9) F (G.ph r))
def Ln(o:c9)(r:aj)(P:ct):Prop:=(∀{F} (N:cU o (aM 4) F),b8 o 1 (aM 4) F G.p8)
def RL(o:c9)(r:aj)(P:ct):Prop:=(∀{F a b c} (N:cU o (aM 20) F) (d:b8 o 1 (aM 15) a G.iq) (e:b8 o 1 (aM 4) b G.p8) (f:b8 o 1 (aM 19) c (G.kh P)),b8 o 2 (aM 20) F (G.lC P))
def Lm(o:c9)(r:aj)(P:ct):Prop:=(∀{F a} (N:hR (cX o.K r "step" F) o.K "step" "Going.step" (cH (aM 28) 1) F (e8<|cH (aM 28) 1)) (b:b8 o 2 (aM 20) a (G.lC P)),eT o (cX o.K r "step" F) 3 "step" "Going.step" (cH (aM 28) 1) F (G.oD r P))
def P8(o:c9)(r:aj)(P:ct):Prop:=(∀{F} (N:cU o (aM 36) F),b8 o 1 (aM 36) F G.m9)
def Q7(o:c9)(r:aj)(P:ct):Prop:=(∀{F b c d a} (N:hR (cX o.K r "thing" F) o.K "thing" "Going.thing" (cH (aM 28) 8) F (e8<|cH (aM 28) 8)) (e:b8 o 3 (aM 3) b G.k_) (f:b8 o 2 (aM 16) c G.nX) (g:b8 o 1 (aM 15) d G.iq) (h:eT o (cX o.K r "settle" a) 4 "settle" "Going.settle" (cH (aM 28) 10) a (G.mR r)),eT o (cX o.K r "thing" F) 5 "thing" "Going.thing" (cH (aM 28) 8) F (G.qZ r))
def Tg(o:c9)(r:aj)(P:ct):Prop:=(∀{F} (N:hR (cX o.K r "field" F) o.K "field" "Going.field" (cH (aM 28) 4) F (e8<|cH (aM 28) 4)),eT o (cX o.K r "field" F) 1 "field" "Going.field" (cH (aM 28) 4) F (G.k2 r))
def SW(o:c9)(r:aj)(P:ct):Prop:=(∀{F} (N:hR (cX o.K r "at" F) o.K "at" "Going.at" (cH (aM 28) 2) F (e8<|cH (aM 28) 2)),eT o (cX o.K r "at" F) 1 "at" "Going.at" (cH (aM 28) 2) F (G.nu r))
def JU(o:c9)(r:aj)(P:ct):Prop:=(∀{F f a g b c d e} (N:cU o (aM 37) F) (h:b8 o 1 (aM 31) f G.dV) (i:eT o (cX o.K r "goes" a) 5 "goes" "Going.goes" (cH (aM 28) 9) a (G.ph r)) (j:b8 o 1 (aM 36) g G.m9) (k:eT o (cX o.K r "field" b) 1 "field" "Going.field" (cH (aM 28) 4) b (G.k2 r)) (l:eT o (cX o.K r "at" c) 1 "at" "Going.at" (cH (aM 28) 2) c (G.nu r)) (m:eT o (cX o.K r "thing" d) 5 "thing" "Going.thing" (cH (aM 28) 8) d (G.qZ r)) (n:eT o (cX o.K r "step" e) 3 "step" "Going.step" (cH (aM 28) 1) e (G.oD r P)),b8 o 6 (aM 37) F (G.mI r P))
def Mr(o:c9)(r:aj)(P:ct):Prop:=(∀{F a b} (N:cU o (aM 35) F) (c:b8 o 1 (aM 32) a G.jH) (d:b8 o 1 (aM 31) b G.dV),b8 o 2 (aM 35) F G.sA)
def Na(o:c9)(r:aj)(P:ct):Prop:=(∀{F a b c d e} (N:cU o (aM 39) F) (f:eT o (cX o.K r "lost" a) 3 "lost" "Going.lost" (cH (aM 28) 7) a (G.mm r)) (g:eT o (cX o.K r "left" b) 3 "left" "Going.left" (cH (aM 28) 6) b (G.m8 r)) (h:eT o (cX o.K r "mown" c) 1 "mown" "Going.mown" (cH (aM 28) 3) c (G.ni r)) (i:eT o (cX o.K r "field" d) 1 "field" "Going.field" (cH (aM 28) 4) d (G.k2 r)) (j:eT o (cX o.K r "at" e) 1 "at" "Going.at" (cH (aM 28) 2) e (G.nu r)),b8 o 4 (aM 39) F (G.o_ r))
def S_(o:c9)(r:aj)(P:ct):Prop:=(∀{F b c d e a f g h i} (N:cU o (aM 40) F) (j:b8 o 1 (aM 30) b G.rY) (k:b8 o 2 (aM 33) c G.ta) (l:b8 o 1 (aM 31) d G.dV) (m:b8 o 1 (aM 34) e G.sk) (n:eT o (lH o.K r a) 1 "__init__" "Going.__init__" (cH (aM 28) 0) a (G.sF r)) (p:b8 o 2 (aM 35) f G.sA) (q:b8 o 4 (aM 38) g (G.pR r)) (s:b8 o 4 (aM 39) h (G.o_ r)) (t:b8 o 6 (aM 37) i (G.mI r P)),b8 o 7 (aM 40) F (G.pE r P))
def dO{o:c9}{P:ct}(Vv:c7 o r P):Pk o r P/\Pr o r P/\R6 o r P/\UP o r P/\Mz o r P/\Ux o r P/\K2 o r P/\L3 o r P/\Jq o r P/\Sl o r P/\MH o r P/\MR o r P/\L9 o r P/\Ub o r P/\IE o r P/\Sp o r P/\TG o r P/\Ma o r P/\Ja o r P/\Le o r P/\KQ o r P/\S5 o r P/\Ts o r P/\JE o r P/\To o r P/\Jt o r P/\Ln o r P/\RL o r P/\Lm o r P/\P8 o r P/\Q7 o r P/\Tg o r P/\SW o r P/\JU o r P/\Mr o r P/\Na o r P/\S_ o r P:=by
 refine⟨λN=>e3 N λ_ W W W W W W W=>?_,λN=>e3 N λ_ W W W W W W W=>?_,λN=>e3 N λ_ W W W W W W W=>?_,λN W W=>e3 N λ_ W W W W W W W=>?_,λN=>e3 N λ_ W W W W W W W=>?_,λN=>e3 N λ_ W W W W W W W=>?_,λN W=>e3 N λ_ W W W W W W W=>?_,λN W=>kk N λ_ W W W W W W W=>?_,λN W=>kk N λ_ W W W W W W W=>?_,λN=>kk N λ_ W W W W W W W=>?_,λN W W W W=>e3 N λ_ W W W W W W W=>?_,λN=>kk N λ_ W W W W W W W=>?_,λN=>e3 N λ_ W W W W W W W=>?_,λN W=>e3 N λ_ W W W W W W W=>?_,λN=>e3 N λ_ W W W W W W W=>?_,λN W W=>e3 N λ_ W W W W W W W=>?_,λN=>e3 N λ_ W W W W W W W=>?_,λN W=>e3 N λ_ W W W W W W W=>?_,λN W W=>e3 N λ_ W W W W W W W=>?_,λN=>e3 N λ_ W W W W W W W=>?_,λN W W=>e3 N λ_ W W W W W W W=>?_,λN W W W W W W=>kk N λ_ W W W W W W W=>?_,λN=>e3 N λ_ W W W W W W W=>?_,λN W=>e3 N λ_ W W W W W W W=>?_,λN W=>e3 N λ_ W W W W W W W=>?_,λN W W=>kk N λ_ W W W W W W W=>?_,λN=>e3 N λ_ W W W W W W W=>?_,λN W W W=>e3 N λ_ W W W W W W W=>?_,λN W=>kk N λ_ W W W W W W W=>?_,λN=>e3 N λ_ W W W W W W W=>?_,λN W W W W=>kk N λ_ W W W W W W W=>?_,λN=>kk N λ_ W W W W W W W=>?_,λN=>kk N λ_ W W W W W W W=>?_,λN W W W W W W W=>e3 N λ_ W W W W W W W=>?_,λN W W=>Se ["_law_left_here","_law_some","_law_pairs","_law_block","_law_group","_law_tree_here","_law_k","_law_one","_law_other","_law_old"] N λ_ W W W W W W W=>?_,λN W W W W W=>e3 N λ_ W W W W W W W=>?_,λN W W W W W W W W W=>e3 N λ_ W W W W W W W=>?_⟩
 delta G.w3 G.qS;rotate_left;delta G.zM;rotate_left;delta G.zj;rotate_left;delta G.yA G.su;rotate_left;delta G.Ag G.rd;rotate_left;delta G.qB G.kQ;rotate_left;delta G.rO G.qP G.qn;rotate_left;delta G.x2;rotate_left;delta G.zS;rotate_left;delta G.zI;rotate_left;delta G.Ad;rotate_left;delta G.yD;rotate_left;delta G.DQ;rotate_left;delta G.wA G.Ak G.rL G.pY;rotate_left;delta G.AP;rotate_left;delta G.y7 G.x_;rotate_left;delta G.wY G.p5 G.pG G.qL;rotate_left;delta G.xS G.z5 G.Ii G.Hc;rotate_left;delta G.xl;rotate_left;delta G.zA;rotate_left;delta G.xk G.AJ G.z7 G.vP G.uy;rotate_left;delta G.yk G.r0 G.s8 G.nL G.ru;rotate_left;delta G.G3;rotate_left;delta G.EY;rotate_left;delta G.vG;rotate_left;delta G.xF;rotate_left;delta G.wB;rotate_left;delta G.zT;rotate_left;delta G.zL;rotate_left;delta G.yN;rotate_left;delta G.xe;rotate_left;delta G.x6;rotate_left;delta G.yg;rotate_left;delta G.qw;rotate_left;delta G.zN G.ql G.wu G.zt G.uG G.rZ G.oi;rotate_left;delta G.zY G.rq G.wH G.wX;rotate_left;delta G.xq G.qx G.sm G.xd;rotate_left
 all_goals repeat' first
  | ((with_reducible show eL _ _ _);first
   | ((with_reducible show eL _ _ (ak _));refine vQ _)
   | ((with_reducible show eL _ _ (af _));refine Pj ?_))
  | ((with_reducible show fV _ _ _);first
   | ((with_reducible show fV _ _ aH);refine PD)
   | ((with_reducible show fV _ _ (ar _ _));refine TM ?_ ?_))
  | ((with_reducible show bh _ _ _);first
   | ((with_reducible show bh _ _ (dB _));refine SA (e_ _))
   | ((with_reducible show bh _ (.Constant _ _ _) (aG<|.int _));refine JK)
   | ((with_reducible show bh _ _ (aG<|.av _));refine KC)
   | ((with_reducible show bh _ (.Name "SIDE" _) _);refine N6 rfl (c7.R_ ‹_›).choose_spec)
   | ((with_reducible show bh _ _ (aG<|.fn _));refine Iz rfl (by first|exact jW.m ‹_› | exact c7.w ‹_›))
   | ((with_reducible show bh _ (.BinOp _ _ _ _) _);refine Ms ?_ ?_ ?_)
   | ((with_reducible show bh _ (.Compare _ _ _ _) (aC _ _ _));refine Q0 ?_ ?_ ?_ (by first|exact BY _|rfl))
   | ((with_reducible show bh _ (.Subscript _ _ _) (aC a7 _ _));refine PO ‹_› ?_ ?_)
   | ((with_reducible show bh _ (.Subscript _ _ _) (aC _ _ _));refine CX (LL (hy ‹_›)<|c7.t ‹_›) ?_ ?_ (λ_ W=>rfl))
   | ((with_reducible show bh _ _ (iZ _ _ _ _ _));refine a ?_ ?_ ?_ ?_ ?_)
   | ((with_reducible show bh _ _ (bF _ _ _));refine MY ‹_› ‹_› ?_)
   | ((with_reducible show bh _ _ (eO _ _ _ _));refine Ml (c7.cl ‹_›) ‹_› ‹_› (e_ _))
   | ((with_reducible show bh _ _ (lT _ _ _ _ _ _));refine LP (c7.cl ‹_›) ‹_› ‹_› (e_ _) ?_)
   | ((with_reducible show bh _ _ (p4 _ _ _ _));refine Ru ‹_› ‹_› rfl (c7.m ‹_›) ?_)
   | ((with_reducible show bh _ _ (dI _ _ _ _));refine OO _ (c7.cl ‹_›) (c7.na ‹_› _ (by rfl)) (e_ _))
   | ((with_reducible show bh _ _ (oJ _ _ _ _ _ _));refine Kp _ ‹_› ‹_› rfl (c7.cl ‹_›) (c7.na ‹_› _ (by rfl)) (e_ _) (e_ _))
   | ((with_reducible show bh _ _ (qR _ _ _ _ _ _));refine RI _ ‹_› ‹_› rfl ?_ (c7.cl ‹_›) (c7.na ‹_› _ (by rfl)) (e_ _))
   | ((with_reducible show bh _ _ (px _ _ _ _ _ _));refine b _ ?_ ?_ (c7.cl ‹_›) (c7.na ‹_› _ (by rfl)) (e_ _))
   | ((with_reducible show bh _ _ (ow vo _ _ _ _ nM _));refine T3 _ B0 BF xj Dc (Gm<|hy ‹_›) (c7.cl ‹_›) (c7.na ‹_› _ (by rfl)) (e_ _) (e_ _))
   | ((with_reducible show bh _ _ (bS dC _));refine ko TL (c7.n ‹_› _ (by rfl)) (by decide +kernel) ?_)
   | ((with_reducible show bh _ _ (bS iF _));refine wj RO rfl (c7.n ‹_› _ (by rfl)) (by decide +kernel) ?_)
   | ((with_reducible show bh _ _ (bS qM _));refine wj Ld rfl (c7.n ‹_› _ (by rfl)) (by decide +kernel) ?_)
   | ((with_reducible show bh _ _ (bS vInt _));refine wj PI rfl (c7.n ‹_› _ (by rfl)) (by decide +kernel) ?_)
   | ((with_reducible show bh _ _ (bS qG _));refine ko (Up rfl) (c7.n ‹_› _ (by rfl)) (by decide +kernel) ?_)
   | ((with_reducible show bh _ _ (bS q_ _));refine ko (OS rfl) (c7.n ‹_› _ (by rfl)) (by decide +kernel) ?_)
   | ((with_reducible show bh _ _ (bS fa _));refine ko (BK rfl<|hy ‹_›) (c7.n ‹_› _ (by rfl)) (by decide +kernel) ?_)
   | ((with_reducible show bh _ _ (sq fa _ _ _ _));refine La _ (BK rfl<|hy ‹_›) rfl (c7.n ‹_› _ (by rfl)) (by decide +kernel) (c7.cl ‹_›) (c7.na ‹_› _ (by rfl)) (e_ _))
   | ((with_reducible show bh _ _ (bS rN _));refine ko (LX rfl<|hy ‹_›) (c7.n ‹_› _ (by rfl)) (by decide +kernel) ?_)
   | ((with_reducible show bh _ _ (bS rJ _));refine ko (NS rfl<|hy ‹_›) (c7.n ‹_› _ (by rfl)) (by decide +kernel) ?_)
   | ((with_reducible show bh _ _ (bS p_ _));refine ko M5 (c7.n ‹_› _ (by rfl)) (by decide +kernel) ?_)
   | ((with_reducible show bh _ _ (bS oI _));refine wj (N2 rfl<|HI ‹_›) rfl (c7.n ‹_› _ (by rfl)) (by decide +kernel) ?_)
   | ((with_reducible show bh _ _ (dp _));refine Oc ?_)
   | ((with_reducible show bh _ _ (fp _));refine PU ?_)
   | ((with_reducible show bh _ _ (dv _ _ _ _ _ _));refine Mn ?_ (λ_=>?_) (λ_=>?_) (λ_=>?_))
   | ((with_reducible show bh _ _ (fX<|eR _ _));refine Og ?_ ?_)
   | ((with_reducible show bh _ _ (fX<|j_ _ _));refine c ?_ ?_)
   | ((with_reducible show bh _ _ (fX<|hz _));refine Ku ?_)
   | ((with_reducible show bh _ (.BoolOp _ [_] _) _);refine CR (L5 ?_))
   | ((with_reducible show bh _ _ (fX<|bK _));refine CR ?_)
   | ((with_reducible show bh _ _ (kB _ _ _));refine Kg ?_ ?_ ?_)
   | ((with_reducible show bh _ _ (ma _ _ _));refine N9 ?_ ?_ ?_)
   | ((with_reducible show bh _ _ (qt _ _));refine Kf rfl (c7.n ‹_› _ (by rfl)) (by decide +kernel) rfl (c7.n ‹_› _ (by rfl)) (by decide +kernel) ?_)
   | ((with_reducible show bh _ _ lR);refine Ls)
   | ((with_reducible show bh _ _ (uT _ _));refine PX (hy ‹_›) ?_ ?_)
   | ((with_reducible show bh _ _ (sS _));refine PT (HI ‹_›) rfl (c7.n ‹_› _ (by rfl)) rfl (c7.n ‹_› _ (by rfl)) ?_)
   | ((with_reducible show bh _ _ (eI _ _ gW _));refine wa uh uY PySem.F.slot_list_append PySem.F.type_list_append NA (e_ _) ?_)
   | ((with_reducible show bh _ _ (eI _ _ kI _));refine wa uh uY PySem.F.slot_list_extend PySem.F.type_list_extend TB (e_ _) ?_)
   | ((with_reducible show bh _ _ (eI _ _ v3 _));refine R7 uh uY Ih Hg QL (e_ _))
   | ((with_reducible show bh _ _ (eI _ _ k7 _));refine wa uh uY Ih Hg QN (e_ _) ?_)
   | ((with_reducible show bh _ _ (eI _ _ nM _));refine wa B0 BF xj Dc (Gm<|hy ‹_›) (e_ _) ?_))
  | ((with_reducible show d2 _ _ _);first
   | ((with_reducible show d2 _ _ dg);refine MP)
   | ((with_reducible show d2 _ _ gs);refine Un)
   | ((with_reducible show d2 _ _ gZ);refine N3)
   | ((with_reducible show d2 _ _ oZ);refine RA)
   | ((with_reducible show d2 _ _ fK);refine IQ)
   | ((with_reducible show d2 _ _ lY);refine Jn)
   | ((with_reducible show d2 _ _ gj);refine Jl)
   | ((with_reducible show d2 _ _ h_);refine TC)
   | ((with_reducible show d2 _ _ AH);refine OH)
   | ((with_reducible show d2 _ _ fb);refine Uj (hy ‹_›))
   | ((with_reducible show d2 _ _ gq);refine Ov (hy ‹_›))
   | ((with_reducible show d2 _ _ e5);refine Ow (hy ‹_›))
   | ((with_reducible show d2 _ _ ig);refine J0 (hy ‹_›)))
  | ((with_reducible show ec _ _ _ _);first
   | ((with_reducible show ec _ _ (.Assign _ (.ListComp _ _ _ _) _) _);refine RX ?_ (λ_=>?_) (λ_=>?_) (λ_=>?_))
   | ((with_reducible show ec _ _ _ (bZ _ _));refine K5 _ ‹_› ?_)
   | ((with_reducible show ec _ _ _ (fR _ _));refine O5 ?_ ?_)
   | ((with_reducible show ec _ _ _ (n6 _ _ _));refine SS rfl ‹_› rfl rfl ∅ rfl rfl ?_ ∅ ∅ rfl)
   | ((with_reducible show ec _ _ _ (gL _ _ _ _ _));refine OR _ (c7.cl ‹_›) (c7.na ‹_› _ (by rfl)) (e_ _) ?_)
   | ((with_reducible show ec _ _ _ (cw _));refine Rz ?_)
   | ((with_reducible show ec _ _ _ (gh _));refine J4 ?_)
   | ((with_reducible show ec _ _ _ (eg _ _ _));refine Tc ?_ ?_ ?_)
   | ((with_reducible show ec _ _ _ p7);refine SN)
   | ((with_reducible show ec _ _ _ (dT (cc<|ak _) _ _));refine vp qy rfl ?_ ?_ ?_ (λ_=>iw _) (Fd<|jE))
   | ((with_reducible show ec _ _ _ (dT (cc<|af _) _ _));refine vp qy rfl ?_ ?_ ?_ (λ_ e=>e) O7)
   | ((with_reducible show ec _ _ _ (dT (i8 _) _ _));refine vp qy rfl ?_ ?_ ?_ (λ_ e=>e) Nc)
   | ((with_reducible show ec _ _ _ (dT (i7 _ _) _ _));refine vp qy rfl ?_ ?_ ?_ (λ_=>iw _) (I6 (Fd<|jE) UA))
   | ((with_reducible show ec _ _ _ (uM _ _ _));refine N_ qy rfl ?_ ?_ ?_ (λ_=>iw _) (jE))
   | ((with_reducible show ec _ _ _ (kG _ _ _));refine J1 _ qy ?_ ?_))
  | ((with_reducible show gk _ _ _ _);first
   | ((with_reducible show gk _ _ _ fH);refine M3)
   | ((with_reducible show gk _ _ _ (bf _ _));refine Uk ?_ ?_)
   | ((with_reducible show gk _ _ _ _);refine Pp ?_))
  | ((with_reducible show fC _ _ _);first
   | ((with_reducible show fC _ _ (eR _ _));refine hT.C_ ?_)
   | ((with_reducible show fC _ _ (j_ _ _));refine hT.C_ ?_)
   | ((with_reducible show fC _ _ (hz _));refine T8 ?_)
   | ((with_reducible show fC _ _ (jg _));refine I_ ?_)
   | ((with_reducible show fC _ _ (bK<|px _ _ _ _ _ _));refine IU _ ?_ ?_ (c7.cl ‹_›) (c7.na ‹_› _ (by rfl)) (e_ _))
   | ((with_reducible show fC _ _ (bK<|aC _ _ _));refine P7 ?_ ?_ ?_ (by first|exact BY _|rfl))
   | ((with_reducible show fC _ _ (bK _));refine K3 ?_ ?_ ?_ ?_ ?_))
  | ((with_reducible show fO _ _ _ _);first
   | ((with_reducible show fO _ _ _ (bx _));refine S7 _)
   | ((with_reducible show fO _ _ _ (jU _ _));refine Ke rfl ?_)
   | ((with_reducible show fO _ _ _ (iY _ _ eP));refine Bb (e_ _) ?_ (zE<|hy ‹_›))
   | ((with_reducible show fO _ _ _ (iY _ _ n_));refine Bb (e_ _) ?_ (Lk<|hy ‹_›))
   | ((with_reducible show fO _ _ _ (oe _ _ _ _ _ _));refine MJ _ (zE<|hy ‹_›) (c7.cl ‹_›) (c7.na ‹_› _ (by rfl)) (e_ _) (e_ _))
   | ((with_reducible show fO _ _ _ (n2 _ _ _ _ _ _ _));refine Uv _ _ (zE<|hy ‹_›) (c7.cl ‹_›) (c7.na ‹_› _ (by rfl)) (c7.na ‹_› _ (by rfl)) (e_ _) (e_ _)))
  | ((with_reducible show hb _ _ _ _);first
   | ((with_reducible show hb _ _ _ (cc _));refine Ry ?_)
   | ((with_reducible show hb _ _ _ (i8 _));refine Tz rfl (c7.n ‹_› _ (by rfl)) ?_)
   | ((with_reducible show hb _ _ _ (i7 _ _));refine ME ?_ ?_)
   | ((with_reducible show hb _ _ _ (nr _));refine KD ?_))
  | ((with_reducible show hT _ _ _);first
   | ((with_reducible show hT _ (.BoolOp .And [_] _) _);refine Kl ?_)
   | ((with_reducible show hT _ (.BoolOp .And _ _) _);refine Jp ?_ ?_)
   | ((with_reducible show hT _ (.BoolOp _ [_] _) _);refine JV ?_)
   | ((with_reducible show hT _ _ _);refine Sk ?_ ?_))
  | ((with_reducible show oS _ _ _);first
   | ((with_reducible show oS _ _ mZ);refine N8)
   | ((with_reducible show oS _ _ (nA _));refine Qo ?_))
  | ((with_reducible show nE _ _ _ _);first
   | ((with_reducible show nE _ _ _ ki);refine Qu)
   | ((with_reducible show nE _ _ _ (gF _ _));refine OG ?_ ?_))
  | ((with_reducible show lx _ _ _);first
   | ((with_reducible show lx _ _ g5);refine SJ)
   | ((with_reducible show lx _ _ _);refine IJ ?_))
def all_mk{H:bg}{R:Φ}{e:a4}{aU:az->Option ae}{l f4 f8 ga ge gl go gt m n p g1 q g2 g3 hd he hf hm hw h0 ii s im io it t jp kw v lc w x z lf li lm ln:aj}(a:R.In e)(b:e.Ns fw aU)(ls:aU "law" = Z (.ref l)){r:aj}(lv:Φa R fw "Going" = Z (Z<|.ref r))(lw:fF R r)(y:mD (gz R r) ["first","ground","branches","place","over","taken"]){A:hX}(mb:dS R "_law_left" (aM 30) f4)(mo:dS R "_law_pick" (aM 31) f8)(mp:dS R "_law_next_to" (aM 32) ga)(ms:dS R "_law_blocks" (aM 33) ge)(m0:dS R "_law_cells" (aM 34) gl)(na:dS R "lookup" (aM 5) go)(nb:dS R "not_in" (aM 26) gt)(ne:gJ (cX R r "left" m) R "left" "Going.left" (cH (aM 28) 6) m)(nl:gJ (cX R r "lost" n) R "lost" "Going.lost" (cH (aM 28) 7) n)(nm:gJ (cX R r "mown" p) R "mown" "Going.mown" (cH (aM 28) 3) p)(nn:dS R "_law_told" (aM 38) g1)(no:gJ (lH R r q) R "__init__" "Going.__init__" (cH (aM 28) 0) q)(np:dS R "around" (aM 6) g2)(ns:dS R "reached" (aM 7) g3)(nw:dS R "block_of" (aM 15) hd)(ol:dS R "blocks" (aM 16) he)(on:dS R "joining" (aM 23) hf)(op:dS R "all_branches" (aM 22) hm)(o0:dS R "full_tree" (aM 24) hw)(pc:dS R "moved" (aM 19) h0)(pi:dS R "with_other_branches" (aM 27) ii)(pm:gJ (cX R r "settle" s) R "settle" "Going.settle" (cH (aM 28) 10) s)(po:dS R "is_whole" (aM 1) im)(pp:dS R "is_pair" (aM 2) io)(pr:dS R "is_of" (aM 3) it)(pt:gJ (cX R r "goes" t) R "goes" "Going.goes" (cH (aM 28) 9) t)(pu:dS R "lesser_first" (aM 4) jp)(py:dS R "next_round" (aM 20) kw)(rc:gJ (cX R r "step" v) R "step" "Going.step" (cH (aM 28) 1) v)(re:dS R "_law_block_of" (aM 36) lc)(rs:gJ (cX R r "thing" w) R "thing" "Going.thing" (cH (aM 28) 8) w)(sc:gJ (cX R r "field" x) R "field" "Going.field" (cH (aM 28) 4) x)(sn:gJ (cX R r "at" z) R "at" "Going.at" (cH (aM 28) 2) z)(sp:dS R "_law_deed" (aM 37) lf)(ss:dS R "_law_tree" (aM 35) li)(sw:dS R "_law_right" (aM 39) lm)(B:dS R "law" (aM 40) ln){P:ct}{C:aj}(sB:Φa R fw "WAYS" = Z (Z<|.ref C))(sK:P.lP=C)(e9:rR R I.prog H P.kt P.cM)(s0:Φa R fw "SIDE" = Z (Z<|.int 2 A))(i:mD (yi R) ["all","any","bool","dict","int","isinstance","len","list","max","min","range","set","sorted","tuple"]):
  ∃fd:gM,(∀(j:ao) (u:ae),mj j fd ⟨[u],[]⟩ [("_law_script",u)])/\∀VB:a4,R.In VB->VB.Ns fw aU->fT I.prog H R aU VB gr 7 l fd ["_law_script"] (i3 1<|G.pE r P):=by
 refine Oi B a b ls (λ_ Q Q Q Q Q Q Q=>.of_eq rfl) λVB=>?_;let o:c9:=⟨I.prog,H,R,aU,VB⟩
 have Vv:c7 o r P:=⟨λf d=>PySem.W.mg_none_of a b<|i.of f d,⟨A,mw a b s0⟩,lw,mw a b lv,y.of,e9,sK ▸ mw a b sB⟩;have D:=dO Vv;have s1:=D.1 (mb.cQ a b);have E:=D.2;have c:=E.1 (mo.cQ a b);have F:=E.2;have J:=F.1 (mp.cE a b);have L:=F.2;have s2:=L.1 (ms.cQ a b) c J;have M:=L.2;have s3:=M.1 (m0.cE a b);have N:=M.2;have g:=N.1 (na.cE a b);have O:=N.2;have k:=O.1 (nb.cQ a b) g;have S:=O.2;have T:=S.1 ne.cE k;have U:=S.2;have al:=U.1 nl.cE k;have am:=U.2;have an:=am.1 nm.cE;have ap:=am.2;have s4:=ap.1 (nn.cQ a b) c al T an;have as:=ap.2;have s5:=as.1 no.jy;have a1:=as.2;have to:=a1.1 (np.cE a b);have a2:=a1.2;have tt:=a2.1 (ns.cQ a b) to;have bd:=a2.2;have h:=bd.1 (nw.cQ a b);have be:=bd.2;have bi:=be.1 (ol.cE a b) g h;have bm:=be.2;have ty:=bm.1 (on.cQ a b);have bn:=bm.2;have tz:=bn.1 (op.cE a b) g;have bs:=bn.2;have t0:=bs.1 (o0.cQ a b) ty tz;have bv:=bs.2;have t1:=bv.1 (pc.oP a b);have ca:=bv.2;have t3:=ca.1 (pi.oP a b) k g;have cd:=ca.2;have ce:=cd.1 pm.cE h tt g bi t0 t3;have ch:=cd.2;have ul:=ch.1 (po.cE a b);have ci:=ch.2;have un:=ci.1 (pp.cE a b) ul;have cl:=ci.2;have co:=cl.1 (pr.cQ a b) un;have cr:=cl.2;have up:=cr.1 pt.cQ co ce;have cs:=cr.2;have us:=cs.1 (pu.cQ a b);have db:=cs.2;have ut:=db.1 (py.oP a b) h us t1;have ds:=db.2;have u8:=ds.1 rc.cE ut;have dL:=ds.2;have v0:=dL.1 (re.cQ a b);have eq:=dL.2;have v1:=eq.1 rs.cQ co bi h ce;have ev:=eq.2;have ex:=ev.1 sc.cE;have fn:=ev.2;have fr:=fn.1 sn.cE;have f0:=fn.2;have v2:=f0.1 (sp.jy a b) c up v0 ex fr v1 u8;have f1:=f0.2;have v4:=f1.1 (ss.cQ a b) J c;have f2:=f1.2;have v6:=f2.1 (sw.oP a b) al T an ex fr;exact f2.2 (B.cE a b) s1 s2 c s3 s5 v4 s4 v6 v2
def walk{a C c d VG g l VW n o VZ s t:aj}{p:bE}{y:List az}{z:(az->Option ae)->a4->Prop}{u:bg->a4->Prop}{v:DefRec}{R:t_->Φ}(A:I.most=Z 63)(B:v.params.defaults=[])(D:∀(H:bg) (e:a4),u H e->(R H.params).In e)(E:∀m,rt (R m)=V)(N:∀(H:bg) (aU:az->Option ae) (w:aj) (e:a4),(R H.params).In e->e.Ns fw aU->aU v.name=Z (.ref w)->
   ∃fd:gM,(∀(j:ao) (J:ae),mj j fd ⟨[J],[]⟩ [("_law_script",J)])/\∀VB:a4,(R H.params).In VB->VB.Ns fw aU->fT I.prog H (R H.params) aU VB gr 7 w fd ["_law_script"] (i3 1<|G.pE r<|ou a C c d VG g l VW n o VZ s t))(L:G.n7 (ou a C c d VG g l VW n o VZ s t)):
  PySem.W.WalkO p y z u I.row.toRowW v [] (λF Vj=>PySem.call F Vj):=
 L2.JY (x:=63) (q:=7) (f := "_law_script") (k:=λ_=>gr) (Wz:=λH=>i3 1<|G.pE r<|ou a C c d VG g l VW n o VZ s t) A ∅ B ⟨rfl,by decide,by decide,rfl⟩ D N (λH b h VT M O P=>Ju (E H.params) b h VT O P (G.Sf r L VT (uE M ∅))) (λ_ U U U U i=>i)
end K56
namespace PySem.W.Fast
def tw17962566346546805348:=(0)
def tw12325110780998210688:=(0)
def tw2444621941260313984:=(0)
def tw14130276136176097728:=(0)
def tw7345843048251547168:=(0)
def tw4185932071465878048:=(0)
def tw10527231741528980160:=(0)
def tw16304602443023802176:=(0)
def tw11143414122750087361:=(0)
def tw7520655167145785665:=(0)
def tw691303350692214145:=(0)
def tw11260082644524141185:=(0)
def tw16442124523049861218:=(0)
def tw9690346764203360514:=(0)
def tw89632565454542114:=(0)
def tw16152534483266884322:=(0)
def tw4543203912389051427:=(0)
def tw10372733230145300995:=(0)
def tw13716070537170733603:=(0)
def tw8521680781525448259:=(0)
def tw3003267455862101699:=(0)
def tw9602134329691333603:=(0)
def tw5152000625472337891:=(0)
def tw16181941014749128772:=(0)
def tw13683838018072527076:=(0)
def tw2689380709130095300:=(0)
def tw4178761446303746948:=(0)
def tw17092129994334847908:=(0)
def tw4873242689718279301:=(0)
def tw14003910638942465285:=(0)
def tw9337440787485396869:=(0)
def tw4669763830876018597:=(0)
def tw9657752152754223110:=(0)
def tw2887635557846455398:=(0)
def tw9193782324961367142:=(0)
def tw11151646087992711686:=(0)
def tw8622788393645031495:=(0)
def tw7740316609735950823:=(0)
def tw17580458731045975719:=(0)
def tw16019347965732036423:=(0)
def tw8192758190034035720:=(0)
def tw7642614386652230760:=(0)
def tw9112973347508381896:=(0)
def tw15503674706550467080:=(0)
def tw10622232052355725064:=(0)
def tw8952497974037856072:=(0)
def tw426106512519455785:=(0)
def tw7136031144523551081:=(0)
def tw15049550830531835337:=(0)
def tw1135399433084433897:=(0)
def tw17590177402101921321:=(0)
def tw3264196643838139017:=(0)
def tw16419425173749217929:=(0)
def tw2423472186571080329:=(0)
def tw14990476418460595881:=(0)
def tw18373655671954440937:=(0)
def tw13484437881204337802:=(0)
def tw394969664780470442:=(0)
def tw17200305346514723050:=(0)
def tw2323130456051417386:=(0)
def tw11396892497094513258:=(0)
def tw9542846602559362698:=(0)
def tw5521709642602420938:=(0)
def tw9435038603909877867:=(0)
def tw288511216317485195:=(0)
def tw16818268879019244683:=(0)
def tw724422307593684171:=(0)
def tw7835901617206763755:=(0)
def tw4129152806927798507:=(0)
def tw8368829131955381547:=(0)
def tw14476047506069190987:=(0)
def tw3961003495749073899:=(0)
def tw13832054285138857324:=(0)
def tw1716647931982272972:=(0)
def tw10660138323342123628:=(0)
def tw9708296546238193292:=(0)
def tw5188080994902061772:=(0)
def tw941355513500633900:=(0)
def tw15040427541045954573:=(0)
def tw15834483619884655981:=(0)
def tw16826249004590128557:=(0)
def tw11448574001024780717:=(0)
def tw16276217871085792781:=(0)
def tw15157077055724279533:=(0)
def tw6385557473880223533:=(0)
def tw3518800104565322637:=(0)
def tw12125881297771824174:=(0)
def tw17701768915087815790:=(0)
def tw1514113931936450990:=(0)
def tw7189863953607369614:=(0)
def tw7288359043603397518:=(0)
def tw7337623756365169775:=(0)
def tw1495020612777382063:=(0)
def tw10536769405961714863:=(0)
def tw657020367841668303:=(0)
def tw10273469791035113903:=(0)
def tw17645803330461621839:=(0)
def tw10145293512125150895:=(0)
def tw16240416704083498863:=(0)
def tw8749231790882364528:=(0)
def tw1254967376082411664:=(0)
def tw763918089544542512:=(0)
def tw13574751542106470768:=(0)
def tw1595175801064932848:=(0)
def tw9010868834445561392:=(0)
def tw14090371012453754480:=(0)
def tw17996905609100695248:=(0)
def tw3749373338905529457:=(0)
def tw15831302909678674161:=(0)
def tw17959221530759735761:=(0)
def tw17579614056767990577:=(0)
def tw16401163652383870002:=(0)
def tw3669761077451591442:=(0)
def tw2862549083404158802:=(0)
def tw8891275287232596882:=(0)
def tw5996743632384031827:=(0)
def tw18141096356461008563:=(0)
def tw15572880721860966387:=(0)
def tw1641084598392884308:=(0)
def tw1851151780758599796:=(0)
def tw10151784529202622900:=(0)
def tw13538607950093410772:=(0)
def tw9656947855342436852:=(0)
def tw3152731688549303924:=(0)
def tw16013999406738279252:=(0)
def tw17810431978861686708:=(0)
def tw3826948903846003765:=(0)
def tw15047012165080925525:=(0)
def tw4147339469868619093:=(0)
def tw8391959530528181621:=(0)
def tw9225597258750999029:=(0)
def tw11767393476506653525:=(0)
def tw4323206559974168469:=(0)
def tw3275937602900298102:=(0)
def tw481061240431634998:=(0)
def tw8595642272381796342:=(0)
def tw11876596120006998231:=(0)
def tw17695424099234045335:=(0)
def tw8551242239293964855:=(0)
def tw16727520301742258903:=(0)
def tw8638880031698303895:=(0)
def tw4012404551538531416:=(0)
def tw9625974075469487608:=(0)
def tw302423984848806424:=(0)
def tw338238959536658008:=(0)
def tw8254308092562657912:=(0)
def tw10390401000936953624:=(0)
def tw16829070767763919736:=(0)
def tw7773145587258529752:=(0)
def tw3661547248990949368:=(0)
def tw16936391977134403833:=(0)
def tw10175417012991120857:=(0)
def tw6192128308001053177:=(0)
def tw11977663082903449241:=(0)
def tw16836813507259642681:=(0)
def tw6646353615170286810:=(0)
def tw13837122463473772794:=(0)
def tw11611912206358735418:=(0)
def tw6965026149589469914:=(0)
def tw13982514674339036986:=(0)
def tw12311876180113298683:=(0)
def tw4735008815192478139:=(0)
def tw14082229539672402523:=(0)
def tw15684971754103617115:=(0)
def tw9835649586602466907:=(0)
def tw4909096410273440603:=(0)
def tw17099874659039539548:=(0)
def tw4071787872859736636:=(0)
def tw950911751995352796:=(0)
def tw10383899676015387548:=(0)
def tw18144189097128771293:=(0)
def tw11197518604979652541:=(0)
def tw6776018094884841566:=(0)
def tw14851996572530666654:=(0)
def tw5491684875359469822:=(0)
def tw10850761923933208574:=(0)
def tw14111407794504602719:=(0)
def tw4634157610944908991:=(0)
def tw8442311570896517983:=(0)
def tw9223592458620075999:=(0)
def tw5511033193356231679:=(0)
end PySem.W.Fast
end
open PySem PySem.W PyProof.Rows
set_option maxRecDepth 100000 in
set_option maxHeartbeats 0 in
theorem PySem.Challenge.cw_mowfloor_k56_mown_left_and_lost_holds : PySem.Challenge.rw_mowfloor_k56_mown_left_and_lost.Holds := by
  w_on; o_law; k_head; (case hw => w_witness2)
  k_fill
  refine' K56.walk (I := PySem.Challenge.rw_mowfloor_k56_mown_left_and_lost) rfl rfl (fun w h Y => PySem.W.kIn_of Y) ?hK ?F ?KO
  case hK => intro p; rfl
  case F =>
    intro w mg fa h KX G hmg
    apply K56.all_mk KX G hmg
    k_is
    (refine' ⟨?_, ?_, ?_, ?_⟩ <;> k_is)
    (iterate 6 (apply And.intro; apply L2.noA; k_is)); trivial
    iterate 7 (apply L2.gC; iterate 4 k_is)
    iterate 3 (apply L2.jR; iterate 5 k_is)
    iterate 1 (apply L2.gC; iterate 4 k_is)
    iterate 1 (apply L2.Fq; iterate 7 k_is)
    iterate 9 (apply L2.gC; iterate 4 k_is)
    iterate 1 (apply L2.jR; iterate 5 k_is)
    iterate 3 (apply L2.gC; iterate 4 k_is)
    iterate 1 (apply L2.jR; iterate 5 k_is)
    iterate 2 (apply L2.gC; iterate 4 k_is)
    iterate 1 (apply L2.jR; iterate 5 k_is)
    iterate 1 (apply L2.gC; iterate 4 k_is)
    iterate 3 (apply L2.jR; iterate 5 k_is)
    iterate 4 (apply L2.gC; iterate 4 k_is)
    k_is
    rfl
    (apply L2.FG; k_is; (iterate 4 kernel_rfl); (iterate 4 (apply L2.kpm; k_is)); (iterate 4 (apply L2.krm; k_is)); (iterate 8 (apply L2.kpm; k_is)))
    k_is
    (iterate 14 (apply L2.IC; k_is)); trivial
  case KO => refine' ⟨?_, ?_, ?_, ?_⟩ <;> exact ⟨_, _, _, rfl, rfl, rfl, rfl, rfl, rfl, rfl⟩
