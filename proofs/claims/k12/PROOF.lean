import PyProof.Rows.All
import Wide.All
import OpenK.AllK
import Wide.FinOn
import Lean
import PyProof.EqAt
import PyProof.EqKinds
import PyProof.TupleCall
import KE.KLam
import PyProof.IsiNone
import PyProof.NeKinds
import PyProof.MaxThree
import PyProof.Rows.SetFrom
import PyProof.WalksMore
import PyProof.CallStr
import KE.KRevIter
import KE.KSortKey
import PySem.Challenge.RW_mowfloor_k12_fewest_runs
set_option maxHeartbeats 4000000
set_option Elab.async false
set_option compiler.extract_closed false
open List (range range')
noncomputable section
local macro_rules|`(∅)=>`(by decide)
local macro_rules|`(⇑$e)=>`(by simpa using $e)
local macro_rules|`(↥$_)=>`(by simp)
local macro_rules|`(tactic|let $p:term:=$e)=>do
 let q:=p.raw
 let X (s:Lean.Syntax):=s.isOfKind ``Lean.Parser.Term.explicit
 let I (s:String):=Lean.mkIdent (.mkSimple s)
 let l:=(if X q then q[1] else q)[1].getSepArgs
 let n:=l.size
 let j:=if X q then 0 else ((l.findIdx? X).map (·+1)).getD 99
 let mut b:Array Lean.Ident:=#[]
 let mut t:Array (Lean.TSyntax `tactic):=#[]
 let w:=I "ζ"
 let E:=e.raw
 let u:=E.getId
 let c:=j<99&&E.isIdent&&l.any fun s=>s.getId==u||s[1].getId==u
 let h:=I "ξ"
 let u:=u.toString
 let u:=if u.startsWith "ζ" then u else "ζ"
 let d:Lean.Term:=if c then h else e
 let r ←if c then `(tactic|(revert $(⟨e⟩):ident;intro $h:ident)) else `(tactic|skip)
 if j<99&&E.isIdent then t:=t.push (←`(tactic|try clear $(⟨d⟩):ident))
 for i in [0:n] do
  let s:=if i+1==j then l[i]![1] else l[i]!
  let z:=I s!"{u}{i}"
  if s.isIdent&&(j==99||s.getId != `rfl) then b:=b.push ⟨s⟩
  else
   b:=b.push z
   if s.isIdent then t:=t.push (←`(tactic|subst $z))
   else if !s.isOfKind ``Lean.Parser.Term.hole then t:=t.push (←`(tactic|let $(⟨s⟩):term:=$z))
 let A:=b.extract j n
 let B:=b.extract 0 j
 let k:=I s!"xE{j}"
 if j==99 then `(tactic|(obtain ⟨$[$b:ident],*⟩:=$e;$t;*)) else if j==0 then `(tactic|($r;refine $(I s!"xA{n}") ($d :) fun $b* =>?_;$t;*)) else if j+1==n then `(tactic|($r;refine $k ($d :) fun $b* =>?_;$t;*)) else `(tactic|($r;refine $k ($d :) fun $B* $w=>?_;refine $(I s!"xA{n-j}") $w fun $A* =>?_;clear $w;$t;*))
local macro_rules|`(command|def $i:declId $s:optDeclSig:=$v)=>if v.raw.isOfKind ``Lean.Parser.Term.paren then `(command|noncomputable def $i $s:optDeclSig:=$v) else (·.raw.rewriteBottomUp (·.setInfo .none))<$>`(command|theorem $i $(⟨.node .none ``Lean.Parser.Command.declSig #[s.raw[0],s.raw[1][0]]⟩):declSig:=$v)|`(command|def $i:declId $s:optDeclSig $v:matchAlts)=>`(command|noncomputable def $i $s:optDeclSig $v:matchAlts)|`(command|@[simp] def $i:declId $s:optDeclSig:=$v)=>`(command|@[simp] noncomputable def $i $s:optDeclSig:=$v)|`(command|@[simp] def $i:declId $s:optDeclSig $v:matchAlts)=>`(command|@[simp] noncomputable def $i $s:optDeclSig $v:matchAlts)|`(command|abbrev $i:declId $s:optDeclSig:=$v)=>`(command|noncomputable abbrev $i $s:optDeclSig:=$v)
local macro_rules|`(⋯)=>`(by lia)
open PySem renaming wpAny_bind->ao,wpAny_pure->aQ,wpAny_newObj_type->gu,wpAny_call_entry->g7,wpAny_holding->gP,wpAny_seqItems->hE,wpAny_setField_rec->jn,wpAny_callSpecial?_slot->lu,wpAny_field->gO,wpAny_mono->f7,wpAny_setState_of->k8,wpAny_truthy_bool->mn,codeAny_builtin->l1,wpAny_forIn_list->nq,wpAny_typeNameOfWhole_itemiter->wV,wpAny_typeNameOfWhole_keyiter->ti,wpAny_attempt->lC,plainId_quiet->ma,wpAny_rule->i_,wpAny_fieldsOf->nx,wpAny_setField->m8,wpAny_typeNameOf_itemiter->vZ,wpAny_passesOwn->nT,wpAny_dictEntries->qm,wpAny_setEntries_of->r9,wpAny_isInstance->oT,wpAny_letGo->lP,wpAny_Call_Name_kw->rQ,wpAny_dictEpoch->pW,wpAny_newList->o4,wpAny_specialOf->sT,wpAny_updateSeq->rk,wpAny_pyIter_slot->wU,wpAny_isOneOf_itemiter->yX,isSubtype_type->rV,wpAny_of_eq->p9,wpAny_updateSeq_pair->xq,wpAny_execs_nil->t2,codeAny_mono->td,isSubtype_stop->t7,wpAny_newTuple->wo,wpAny_tryCatch->tv,wpAny_standAt->wd,wpAny_handled->uY,wpAny_onRaise->wz,filterMap_getElem?_range->FX,noFill_tuple_add->yi,wpAny_askSetting->zO,richCompare_meets_room->D7,wpAny_ite_split->zT,size_of_entries->xa,wpAny_notOrdered_dict->DW,wpAny_isOneOf_keyiter->Iu,builtinLookup_eq_fast->He,wpAny_loadName_local->Gz,sizeLine_eq->tZ,wpAny_throw->u6,wpAny_pyIter_keyiter->Gs,wpAny_loadName_cell->C5,wpAny_Assign_stores->BB,evalArgs_none->Gf,seq_tuple_add->AW,call_meets->ub,eqIsQuiet_byValue->I1,wpAny_assign_Name->Eb,concat_meets->Af,seqIndex_neg->zr,list_append->DP,wpAny_Call_method->F5,wpAny_pyIter_list->Di,wpAny_collect_seq->Jm,wpAny_typeOf->zd,wpAny_storeSet_of->Bq,wpAny_setEpoch_of->CS,wpAny_pyHash_int->DU,wpAny_pyHash_str->FW,wpAny_execs_cons->Ey,wpAny_pyIter_zip->Er,seqIndex_of->Ae,wpAny_alloc->yj,codeAny_of_tree->Jl,typeLookup_type->G8,wpAny_Name->Ak,wpAny_load->xt,wpAny_call->zg,typeIs_str->z1,entryFor_alias->Bs,wpAny_runValue->BF,call_list_seq->HR,intBits_le_64->Ed,signature?_of->Cp,call_meetsIn->Jj
open Option renaming bind_eq_some_iff->bN,map_eq_some_iff->cm,isSome_iff_exists->rH,isSome_map->vk,getD_some->uL,map_some->Eu
open List renaming append_assoc->bq,getD_eq_getElem?_getD->cA,length_map->bl,append_nil->b8,getElem?_eq_getElem->dy,perm_append_comm->c8,mem_singleton->cN,size_toArray->cJ,mem_cons->b9,mem_append_right->dT,map_cons->cw,getElem?_eq_some_iff->eV,length_append->dW,length_cons->dz,getElem?_map->dU,nodup_append->dR,mem_map->da,take_append_drop->fq,pairwise_singleton->gh,mem_append_left->fl,mem_append->ed,mem_of_getElem?->gF,pairwise_cons->gj,length_range->fM,mem_range->eT,lookup_cons->fx,drop_eq_getElem_cons->jW,map_map->e7,nodup_cons->gC,map_append->gz,eq_nil_of_length_eq_zero->lT,getElem?_append_right->kH,length_take->g_,length_singleton->jj,nodup_nil->g4,length_drop->hH,getElem?_append_left->mc,not_mem_nil->iZ,length_nil->iW,mem_cons_of_mem->lN,pairwise_iff_getElem->oc,all_eq_true->kg,mem_of_mem_drop->mU,find?_cons->kN,mem_cons_self->mR,getElem?_drop->mv,getElem?_set_ne->ow,mem_of_mem_take->n0,map_drop->kc,map_take->j3,drop_of_length_le->p1,map_congr_left->oI,foldl_cons->lg,nil_append->lQ,nodup_range->nr,getElem?_take->om,filterMap_cons_some->rR,mem_iff_getElem->p2,pairwise_map->nU,mem_filterMap->qp,getElem?_eq_none->sM,getElem?_zip_eq_some->tl,getLast?_eq_none_iff->uF,getElem_drop->pv,ext_getElem?->qE,filterMap_cons->sh,drop_drop->ob,drop_zero->od,mem_nil_iff->qz,getElem?_set_self->tU,mem_filter->qj,any_cons->oR,take_sublist->rE,pairwise_append->vj,getElem?_of_mem->vp,getLast?_append->tj,cons_append->qO,filter_cons->si,getLast?_singleton->xb,getElem_take->uy,take_of_length_le->zq,drop_take->s6,drop_sublist->wH,set_set->pH,eraseIdxIfInBounds_toArray->IT,getElem?_toArray->za,getElem_mem->vl,take_length->tp,any_toArray->tN,any_eq_true->ve,map_eq_cons_iff->zQ,mem_of_getLast?->AK,length_set->u9,mem_map_of_mem->xN,lookup_append->AR,take_take->uI,setIfInBounds_toArray->IB,zip_cons_cons->Aw,length_eraseIdx_of_lt->D8,nodup_iff_pairwise_ne->GP,getLast?_eq_getElem?->G6,drop_length->zy,zipIdx_cons->xk,ext_getElem->z2,of_mem_zip->yJ,forIn_cons->AN,set_append_right->HG,dropLast_eq_take->BJ,length_filter_le->Iw,take_zero->zI,extract_toArray->DF,getElem?_range->Hx,filter_sublist->GI,perm_iff_count->Dq,length_reverse->Dd,set_cons_zero->F1,zip_nil_right->Gv,map_filterMap->FJ,filter_append->EB,all_map->Ai,map_nil->yO,getElem?_set->EW,foldl_append->Iq,count_append->Bp,getElem_inj->Dl,map_toArray->HQ,getElem_map->B7,countP_cons->DM,zipIdx_nil->Cv,length_zip->DT,zip_append->DL,filter_nil->HC,count_cons->Dr,forIn_nil->Dz,set_comm->ES,any_map->Fy,not_lt->Ha,map_id->EZ
open PySem.Heap renaming get?_push_of_some->bT,get?_push_size->cR,lt_size->bW,get?_update_other->gJ,size_push->hD,get?_update_self->l6
open Nat renaming le_refl->bb,lt_of_lt_of_le->d6,ne_of_lt->cT,le_trans->df,le_of_ble_eq_true->fR,lt_or_ge->gd,lt_irrefl->gI,zero_le->gk,ne_of_gt->hi,not_lt_zero->lO,le_add_right->mQ,lt_succ_self->oL,le_of_lt->l5,lt_trichotomy->q_,le_of_lt_succ->sD,add_lt_add_iff_right->ze,lt_of_le_of_lt->uq,lt_trans->ql,add_assoc->sl,min_eq_left->vn,succ_pos->rr,add_sub_cancel->ys,not_lt->pw,le_succ_of_le->Aj,lt_add_of_pos_right->B1,sub_self->vx,lt_of_succ_lt_succ->EO,eq_of_beq_eq_true->Hm,eq_zero_or_pos->BY,mod_lt->v9,zero_add->xM,lt_succ_of_le->Hd,succ_le_succ->Jo,le_of_eq->G9,add_zero->Fc,add_comm->EN,min_self->HB,le_succ->Ex
open Bool renaming false_ne_true->cU,and_eq_true->cS,false_eq_true->gs,not_eq_true'->nL,eq_iff_iff->qJ,not_true->p6,or_eq_true->ui,and_false->H7,false_bne->En,false_or->GO,and_true->G5,true_bne->Ca,true_or->Hg
open PySem.W renaming kasC_pure->bk,kasC_bind->bo,mg_none_of->ih,kasC_range->fS,kasC_modify->kC,mg_of->oq,kasC_get->j0,kasC_lift->oh,cellsFrom_some->Hk,tab_of->BH,kat_item->u4,kas_swaps_map->CG,kas_range->zG,kat_kind->zV
open Array renaming length_toList->dk,getElem?_toList->eA,getElem?_eq_getElem->iS,getElem?_eq_some_iff->oN,getElem?_eq_none->wF,ext'->kV,forIn_toList->ue,toList_filterMap->z8,getD_eq_getD_getElem?->GH,perm_iff_toList_perm->H4,toList_push->zP,getElem_toList->Ic,size_map->z3,mem_toList_iff->Cy,toList_inj->B8
open List.Perm renaming append_left->dO,append_right->eQ,eq_of_pairwise->IH,map->AM,cons_inv->SU
open PySem.PassesOwn renaming never->ip
open PySem.Heap.SameBut renaming update->kQ
open Int renaming toNat_natCast->kY,emod_lt_of_pos->pj,emod_nonneg->n_,le_refl->lL,mul_ediv_add_emod->CU,le_trans->zF,ediv_nonneg->Gi,not_lt->zC,add_assoc->DD,add_zero->I3,lt_or_le->DN,mul_one->Cu
open PySem.Around renaming under_plainId->mP,frames_deeper->CH
open PySem.F renaming slot_dict_itemiterator_next->su,slot_dict_keyiterator_next->rK,called_set->ml,plainAttrs_list->rD,slot_tuple_iterator_next->vb,slot_list_append->u3,type_list_append->vy,slot_tuple_hash->rX,args_tuple_add_2->Am,entry_tuple_add->yq,slot_tuple_add->zm,args_dict_itemiterator_next_1->ER,slot_dict_get->w4,args_dict_keyiterator_next_1->Fz,entry_dict_itemiterator_next->IU,entry_dict_keyiterator_next->E5,args_tuple_iterator_next_1->CR,slot_zip_next->uT,entry_tuple_iterator_next->A7,plain_extend_loop->F9,args_dict_get_2->Jh,plain_list_iadd->CQ,entry_dict_get->Fn,slot_dict_items_iter->IW,plain_set_new->BZ,slot_set_iter->Dh,args_list_append_2->Fm,entry_list_append->Bt,slot_list_append->I4,args_zip_next_1->DS,slot_dict_items->Ho,slot_dict_iter->Bb,entry_zip_next->D_
open List.Nodup renaming length_le_of_subset->uf
open PyProof.Rows.F renaming plain_set_update_loop->xi,entry_set_update_loop->E8
open PyProof.Rows renaming callWith_type1->uA,get?_update_seq->n1,listUpdate_at->oY,callWith_builtin1->Hu,entry_list_sort->wJ,slot_list_sort->tJ,subscriptTail_builtinR->FK,plain_sorted->vF,entry_sorted->uO,seqEpoch_at->wx,kind_sorted->we,args_list_sort->Ac,assign_Tuple_tuple->DI,listItems_at->x4,args_sorted1->A3,elem'_eq->vG,lt_int->S1,gt_int->SI
open PySem.Obj renaming data_mapFields->pL,isFreed_of_fields->AF,cls_mapFields->w1
open Classical renaming byContradiction->uQ,epsilon_spec->Eg
open PySem.Calls renaming call_function_entry->yd,callWith_builtin->AZ,Name_function_global->HS,spliced_cons->z0,spliced_nil->yP,evalArgs_plain->HD
open PySem.SeqAt.RcNeAt renaming lists_lengths->Cn,none_tuple->NC,bool_tuple->Ss,tuple_none->NQ,tuple_bool->LC,none_none->Mp,none_bool->Kt,bool_none->O2,bool_bool->Oe,int_tuple->Q1,str_tuple->PR,tuple_int->SF,tuple_str->TM,none_int->Lk,none_str->NW,bool_int->Pw,bool_str->PX,int_none->MT,int_bool->Ob,str_none->RB,str_bool->TA,int_int->LL,int_str->RX,str_int->L4,str_str->Kw,tuples->JC,lists->Kk
open PySem.AutoSeq1 renaming sub_tuple_tuple->Dw
open PySem.SetTable renaming toList_insertAt->CY
open List.cons renaming injEq->x1
open List.Pairwise renaming sublist->ID,filterMap->T5,imp₂->M3,map->MC
open PySem.W.Looks renaming of_pure->AV
open PySem.SeqAt.EqAt renaming int_str->Ds,str_int->IS,none_tuple->SP,bool_tuple->PI,tuple_none->RD,tuple_bool->MS,none_bool->To,bool_none->OG,bool_bool->QA,int_tuple->Sq,str_tuple->Tq,tuple_int->K3,tuple_str->N1,none_int->Lx,none_str->Km,bool_int->JN,bool_str->MU,int_none->NJ,int_bool->OU,str_none->MB,str_bool->PZ,int_int->T6,str_str->JA,of_refs->NV
open PySem.SeqAt.RcAt renaming tuples->FP,lists_lengths->Jv,none_tuple->M6,bool_tuple->Kg,tuple_none->LP,tuple_bool->R_,none_none->SR,none_bool->SD,bool_none->Ls,bool_bool->Lr,int_tuple->K9,str_tuple->Ng,tuple_int->Rx,tuple_str->Rj,none_int->Ol,none_str->Sv,bool_int->QD,bool_str->Tz,int_none->RI,int_bool->Qm,str_none->Oq,str_bool->Q4,int_int->Om,int_str->Td,str_int->Ll,str_str->Ny,lists->OS
open PySem.IsL renaming update->Fl
open StateT renaming run_pure->Ig
open Prod renaming ext->vz
open PySem renaming Scope->eO,Str->aC,Heap->aZ,Value->ab,Sem->dw,Addr->ah,Stmt->cM,CmpOp->kF,Expr->bh,Obj->aX,Shared->ai,Around->bw,GenState->Ao,World->bc,Program->bC,reduceHash->w8,Builtin->br,cLine->bR,model->aR,isInstance->x_,Tok->iz,Paired->eg,sysModules->h_,TriplesOk->AY,codeAmong->qr,mainGlobals->dx,builtinsNs->jc,bootBuiltins->e9,Env->eu,Model->fH,storeName->xo,eval->b7,isTrue->qe,backTo->e5,starEach->bS,swapsWith->oj,assign->hr,assignEach->fm,setItem->tI,Operator->qg,swapsWithSole->u2,swappedStores->tT,PassesOwn->sy,pyNext->fb,letOwnedTupleGo->sq,pyIter->mZ,rawInt->cP,Walks->kU,foldedSetIterable->mW,binaryOp->gi,compareOp->d1,behindInMarks->oD,recursionLimit->CF,Result->rU,FuncData->gG,BindsTo->nu,bindArgs->jx,Keyword->md,NameKind->cZ,cellsFrom->xu,Arguments->tc,richCompare->n4,PlainAttrs->wI,Slot->nS,typeOf->pC,attributeBase->mY,backToKw->uc,keywordEach->uB,valueAt->oy,atKey->l4,Params->vK,callerA->nV,DictEntry->tY,cellOf->vt,closureFor->vs,compEnvC->va,newFunctionEnv->Gk,comprehension->ya,newList->oo,setField->ps,newExc->mG,newTuple->r0,firstArgMember->m6,field->me,seqItems?->mF,ZipApart->uE,IsZip->jr,IsPair->gK,shortFactorBits->tP,checkCount->t_,entryFor->r_,table->rv,argsOk->rO,updateSeq->v3,PyData->sO,SetTable->aV,hashByValue->tH,ofAClassStatement->wG,searchCouldBeSeen->BM,carriedByValue->B2,setSearchFrom->EC,drawOrder->zi,setNext->mH,setEntries->tk,pickOrder->jB
open Bool renaming true->X,false->av
open Option renaming some->Z,none->Y
open PyProof.Rows renaming IsTup->rM,AllBare->lS,envOfC->h3,IntsAre->rC,bubble->rx,SortKind->gR,Keyed->bj,SortSt->bA,pendingOf->hM,failedOf->hg,mergeAt'->vP,ltAt'->oz,reverseSlice'->sP,seqObj->dg,keyKind'->xK,tuples'->ou
open PySem.W renaming WData->sI,WShape->rn,kas_rev->m2,kas_cmp->eU,kas_item->ba,kas_st->ro,Frag->Φ,nsIn->Ψ,fnOf->Ξ,tabIn->Θ,tabObj->Δ,keepIn->Γ,envX->Ω,codeIn->Φa,methodObj->Φb,CodeHd->Φc,noTabs->Φd,kla_obj->Φe
open PySem
abbrev aK:=@if_pos
abbrev aL:=@if_neg
abbrev dQ:=@decide_eq_true
abbrev el:=@decide_eq_false
abbrev fY:=@of_decide_eq_true
abbrev gT:=@beq_self_eq_true
abbrev je:=@decide_eq_true_iff
abbrev ft:=@if_false
abbrev q7:=@decide_eq_false_iff_not
abbrev iY:=@if_true
abbrev m5:=@beq_iff_eq
abbrev lH:=@or_false
abbrev xR:=@beq_eq_false_iff_ne
abbrev yy:=@decide_eq_true_eq
abbrev xC:=@decide_eq_decide
variable{U_:Sort _}{p:Prop}
def xE1{u:U_->Prop}(e:∃g,u g)(q:∀g,u g->p):p:=have ⟨g,k⟩:=e;q g k
variable{VR:Sort _}
def xE2{u:U_->VR->Prop}(e:∃g d,u g d)(q:∀g d,u g d->p):p:=have ⟨g,d,k⟩:=e;q g d k
variable{Wg:Sort _}
def xE3{u:U_->VR->Wg->Prop}(e:∃g d o,u g d o)(q:∀g d o,u g d o->p):p:=have ⟨g,d,o,k⟩:=e;q g d o k
variable{Wi:Sort _}
def xE4{u:U_->VR->Wg->Wi->Prop}(e:∃g d o r,u g d o r)(q:∀g d o r,u g d o r->p):p:=have ⟨g,d,o,r,k⟩:=e;q g d o r k
variable{Wj:Sort _}
def xE5{u:U_->VR->Wg->Wi->Wj->Prop}(e:∃g d o r c,u g d o r c)(q:∀g d o r c,u g d o r c->p):p:=have ⟨g,d,o,r,c,k⟩:=e;q g d o r c k
variable{Wk:Sort _}
def xE6{u:U_->VR->Wg->Wi->Wj->Wk->Prop}(e:∃g d o r c N,u g d o r c N)(q:∀g d o r c N,u g d o r c N->p):p:=have ⟨g,d,o,r,c,N,k⟩:=e;q g d o r c N k
def xE9{b:Sort _}{U7:Sort _}{f:Sort _}{u:U_->VR->Wg->Wi->Wj->Wk->b->U7->f->Prop}(e:∃g d o r c N F a i,u g d o r c N F a i)(q:∀g d o r c N F a i,u g d o r c N F a i->p):p:=have ⟨g,d,o,r,c,N,F,a,i,k⟩:=e;q g d o r c N F a i k
variable{g d:Prop}
def xA2(e:g/\d)(q:g->d->p):p:=q e.1 e.2
variable{o:Prop}
def xA3(e:g/\d/\o)(q:g->d->o->p):p:=q e.1 e.2.1 e.2.2
variable{r:Prop}
def xA4(e:g/\d/\o/\r)(q:g->d->o->r->p):p:=q e.1 e.2.1 e.2.2.1 e.2.2.2
variable{c:Prop}
def xA5(e:g/\d/\o/\r/\c)(q:g->d->o->r->c->p):p:=q e.1 e.2.1 e.2.2.1 e.2.2.2.1 e.2.2.2.2
variable{N:Prop}
def xA6(e:g/\d/\o/\r/\c/\N)(q:g->d->o->r->c->N->p):p:=q e.1 e.2.1 e.2.2.1 e.2.2.2.1 e.2.2.2.2.1 e.2.2.2.2.2
variable{F:Prop}
def xA7(e:g/\d/\o/\r/\c/\N/\F)(q:g->d->o->r->c->N->F->p):p:=q e.1 e.2.1 e.2.2.1 e.2.2.2.1 e.2.2.2.2.1 e.2.2.2.2.2.1 e.2.2.2.2.2.2
def xA8{a:Prop}(e:g/\d/\o/\r/\c/\N/\F/\a)(q:g->d->o->r->c->N->F->a->p):p:=q e.1 e.2.1 e.2.2.1 e.2.2.2.1 e.2.2.2.2.1 e.2.2.2.2.2.1 e.2.2.2.2.2.2.1 e.2.2.2.2.2.2.2
set_option linter.all false
set_option maxRecDepth 100000
namespace L2
open Spec PyProof.Rows
variable{U2:eO}{VN f:aC}{UY S e:aZ}{aM:aC->Option ab}{U1 Vb:List aC}{N:ab->ab->dw ab}{cc VW:List ah}{VY:List cM}{Vw:kF}{V5 UZ:Pos}{F:Int->Int->Int}{Ve c o:bh}{s q a Vd:Nat}{T:List bh}{R:List (ah×aX)}{m UI:ai}{A UH:ab->ai->Prop}{O:bw}{VD:Drawn}{VZ:Array Ao}{UK:Φ}{D:bc}{UT:bC}{J:ab}{d g:ah}{Va:List ab}
inductive V where
 | aS|aE (d:Bool)|int (a:Int)|str (f:aC)|tup (H:List V)|fn (g:ah)|aT (H:List V)|fd
mutual
def V.beq:V->V->Bool
 |.aS,.aS=>X
 |.aE g,.aE d=>g==d
 |.int a,.int i=>decide (a=i)
 |.str f,.str x=>decide (f=x)
 |.tup g,.tup d=>V.lr g d
 |.fn g,.fn d=>decide (g=d)
 |.aT g,.aT d=>V.lr g d
 |.fd,.fd=>X
 |_,_=>av
def V.lr:List V->List V->Bool
 |[],[]=>X
 |g::j,d::C=>V.beq g d&&V.lr j C
 |_,_=>av
end
mutual
theorem V.beq_iff:∀g d:V,V.beq g d=X↔g=d
 |.aS,d=>by cases d<;>simp[V.beq]
 |.aE g,d=>by cases d<;>simp[V.beq]
 |.int a,d=>by cases d<;>simp[V.beq]
 |.str f,d=>by cases d<;>simp[V.beq]
 |.tup f,d=>by
  cases d with
  |tup x=>rw[V.beq,V.yp f x];simp
  |_=>simp[V.beq]
 |.fn g,d=>by cases d<;>simp[V.beq]
 |.aT f,d=>by
  cases d with
  |aT x=>rw[V.beq,V.yp f x];simp
  |_=>simp[V.beq]
 |.fd,d=>by cases d<;>simp[V.beq]
theorem V.yp:∀g d:List V,V.lr g d=X↔g=d
 |[],d=>by cases d<;>simp[V.lr]
 |f::j,d=>by
  cases d with
  |nil=>simp[V.lr]
  |cons x C=>rw[V.lr,cS,V.beq_iff f x,V.yp j C];simp
end
noncomputable instance:DecidableEq V:=λg d=>decidable_of_iff (V.beq g d=X) (V.beq_iff g d)
mutual
def de(e:aZ):V->ab->Prop
 |.aS,v=>v=.none
 |.aE d,v=>v=.bool d
 |.int a,v=>∃C,v=.int a C
 |.str f,v=>∃C,v=.str f C
 |.fn g,v=>v=.ref g
 |.aT _,v=>∃g,v=.ref g
 |.fd,v=>∃g,v=.ref g
 |.tup H,v=>∃g n Vj s,v=.ref g/\e.get? g=Z n/\n.cls=.type "tuple" /\ n.data=.seq Vj s/\dG e H Vj.toList
def dG(e:aZ):List V->List ab->Prop
 |[],U=>U=[]
 |r::H,U=>∃v j,U=v::j/\de e r v/\dG e H j
end
mutual
def V.key:Nat->V->Bool
 |_,.int _=>X
 |_,.str _=>X
 |s+1,.tup H=>V.keys s H
 |_,_=>av
def V.keys:Nat->List V->Bool
 |_,[]=>X
 |s,r::H=>V.key s r&&V.keys s H
end
mutual
def dD(D:bc):V->Int
 |.int a=>hashInt a
 |.str f=>hashStr D f
 |.tup H=>w8 (br.Tuple.tupleHashOf<|iG D H)
 |_=>0
def iG(D:bc):List V->List Int
 |[]=>[]
 |r::H=>dD D r::iG D H
end
mutual
def v8:V->Nat
 |.tup H=>jG H+1
 |_=>1
def jG:List V->Nat
 |[]=>0
 |r::H=>v8 r+jG H
end
theorem yr(D:bc):∀g d:List V,iG D (g++d)=iG D g++iG D d
 |[],d=>rfl
 |r::g,d=>by rw[qO,iG,iG,yr D g d,qO]
theorem xZ:∀g d:List V,jG (g++d)=jG g+jG d
 |[],d=>by simp[jG]
 |r::g,d=>by rw[qO,jG,jG,xZ g d];lia
theorem IE{s:Nat}:∀{g d:List V},V.keys s (g++d)=X->V.keys s d=X
 |[],d,e=>e
 |r::g,d,e=>by rw[qO,V.keys,cS]at e;exact IE e.2
theorem dG.length{e:aZ}:∀{H:List V}{U:List ab},dG e H U->H.length=U.length
 |[],U,c=>by rw[show U=[] from c];rfl
 |r::H,U,c=>by
  let⟨v,@j,rfl,W,c⟩:=c;rw[dz,dz,dG.length c]
def wM(e S:aZ):Prop:=(∀g n Vj s,e.get? g=Z n->n.cls=.type "tuple" -> n.data=.seq Vj s->S.get? g=Z n)
mutual
theorem de.keep{e S:aZ}(q:wM e S):∀{r:V}{v:ab},de e r v->de S r v
 |.aS,_,c=>c
 |.aE _,_,c=>c
 |.int _,_,c=>c
 |.str _,_,c=>c
 |.fn _,_,c=>c
 |.aT _,_,c=>c
 |.fd,_,c=>c
 |.tup H,_,c=>by
  let⟨g,n,Vj,@s,rfl,y,B,a,b⟩:=c;exact⟨g,n,Vj,s,rfl,q g n Vj s y B a,B,a,dG.keep q b⟩
theorem dG.keep{e S:aZ}(q:wM e S):∀{H:List V}{U:List ab},dG e H U->dG S H U
 |[],_,c=>c
 |r::H,_,c=>by
  let⟨v,@j,rfl,y,B⟩:=c;exact⟨v,j,rfl,de.keep q y,dG.keep q B⟩
end
theorem E4{e:aZ}:∀(s:Nat) {f x:V}{v:ab},V.key s f=X->V.key s x=X->de e f v->de e x v->f=x
 |s,.int a,x,v,_,a8,h,b=>by
  let⟨@C,rfl⟩:=h;cases x with
  |int i=>let⟨@J,c⟩:=b;injection c with c;rw[c]
  |str k=>let⟨@J,c⟩:=b;cases c
  |tup H=>let⟨W,W,W,@W,c,W⟩:=b;cases c
  |_=>cases s<;>cases a8
 |s,.str k,x,v,_,a8,h,b=>by
  let⟨@C,rfl⟩:=h;cases x with
  |int i=>let⟨@J,c⟩:=b;cases c
  |str k=>let⟨@J,c⟩:=b;injection c with c;rw[c]
  |tup H=>let⟨W,W,W,@W,c,W⟩:=b;cases c
  |_=>cases s<;>cases a8
 |s+1,.tup H,x,v,dq,a8,h,b=>by
  let⟨g,n,Vj,@t,rfl,y,B,o,u⟩:=h;cases x with
  |int i=>let⟨@J,c⟩:=b;cases c
  |str k=>let⟨@J,c⟩:=b;cases c
  |tup T=>
   let⟨D,Vk,E,@F,c,m,I,l,w⟩:=b;cases c;rw[y]at m;cases m;rw[o]at l;injection l with l _;subst l;have all:∀(H T:List V) (U:List ab),V.keys s H=X->V.keys s T=X->dG e H U->dG e T U->H=T:=by
    intro H;induction H with
    |nil=>
     intro T U W W g d;cases T with
     |nil=>rfl
     |cons c T=>let⟨W,@W,p,W⟩:=d;rw[show U=[] from g]at p;cases p
    |cons r H z=>
     intro T U Vf Vt g d;let⟨v,@j,rfl,A,VL⟩:=g;cases T with
     |nil=>cases (show v::j=[] from d)
     |cons c T=>
      let⟨L,@VA,p,c5,dM⟩:=d;cases p;rw[V.keys,cS]at Vf Vt;rw[E4 s Vf.1 Vt.1 A c5,z T j Vf.2 Vt.2 VL dM]
   rw[all H T _ dq a8 u w]
  |_=>cases a8
 |_,.aS,_,_,q,_,_,_=>by cases ‹Nat›<;>cases q
 |_,.aE _,_,_,q,_,_,_=>by cases ‹Nat›<;>cases q
 |_,.fn _,_,_,q,_,_,_=>by cases ‹Nat›<;>cases q
 |_,.aT _,_,_,q,_,_,_=>by cases ‹Nat›<;>cases q
 |_,.fd,_,_,q,_,_,_=>by cases ‹Nat›<;>cases q
 |0,.tup _,_,_,q,_,_,_=>by cases q
section
variable{US:bC}{D:bc}
theorem Bf:∀(s:Nat) {O:bw}{UH:ab->ai->Prop}{m:ai}{r:V}{v:ab}{A:Int->ai->Prop},V.key s r=X->O.units+s<bR->de m.heap r v->A (dD D r) {m with toks:=m.toks+v8 r}->
  wpAny (aR US D) O (pyHash v) A UH m
 |s,O,UH,m,.int a,v,A,_,_,b,e=>by
  let⟨@C,rfl⟩:=b;exact DU e
 |s,O,UH,m,.str a,v,A,_,_,b,e=>by
  let⟨@C,rfl⟩:=b;exact FW e
 |s+1,O,UH,m,.tup H,v,A,q,u,b,e=>by
  let⟨g,n,Vj,@t,rfl,l,p,hd,UN⟩:=b;have h:m.TypeIs (.ref g) "tuple" := ⟨n,l,p⟩;unfold pyHash;first|unfold pyHashByItsType|skip
  first|refine ao (wpAny_cRoomFor_or (.inr ⋯) ?_)|skip
  refine ao (sT h rX.lookup ?_);show wpAny _ _ (if (Z (ab.builtin "tuple.__hash__")==Z ab.none)=X then _ else _) A UH m;rw[aL (by rw[beq_builtin_none];exact cU)];refine ao (sT h rX.lookup ?_);show wpAny _ _ (callSpecialIfBoundUnlessNone? (.ref g) "__hash__" _ >>= _) A UH m;refine ao (wpAny_callSpecialIfBoundUnlessNone?_slot h rX<|g7 rX h F.entry_tuple_hash ?_<|F.args_tuple_hash_1 _);show wpAny _ _ (br.Tuple.tupleItemsOf (.ref g) >>= _) _ _ m;refine ao (wpAny_tupleItemsOf l hd ?_);refine ao ?_;rw[<-ue];refine nq _
   (λcB (d:Array Int) UI=>∃done left,H=done++left/\dG m.heap left cB/\d.toList=iG D done/\UI={m with toks:=m.toks+jG done})
   _ ?_ ?_ _ _ ⟨[],H,rfl,UN,rfl,rfl⟩
  ·rintro f cB d UI ⟨done,left,rfl,i,k,rfl⟩;cases left with
   |nil=>cases (show f::cB=[] from i)
   |cons r left=>
    let⟨v,@j,c,y,o⟩:=i;cases c;have Vt:=IE (g:=done) (show V.keys s (done++r::left)=X from q);rw[V.keys,cS]at Vt;refine ao (Bf s Vt.1 (by show O.units+1+s<bR;lia) y ?_);first
     | exact aQ ⟨done++[r],left,by simp,o,by simp[k,yr,iG],by simp[xZ,jG,sl]⟩
     | exact ao (aQ (aQ ⟨done++[r],left,by simp,o,by simp[k,yr,iG],by simp[xZ,jG,sl]⟩))
  ·rintro d UI ⟨done,left,rfl,i,k,rfl⟩;cases left with
   |cons r left=>let⟨W,@W,c,W⟩:=i;cases c
   |nil=>
   rw[b8]at e;show wpAny _ _ (retInt<|br.Tuple.tupleHashOf d.toList) _ _ _;rw[k];refine wpAny_ret_mkInt ?_;show wpAny _ _ (if (decide (-(2:Int)^63<=br.Tuple.tupleHashOf (iG D done))&&decide (br.Tuple.tupleHashOf (iG D done)<2^63))=X then _ else _) A UH _;rw[dD,v8]at e;unfold w8 at e;by_cases UQ:(decide (-(2:Int)^63<=br.Tuple.tupleHashOf (iG D done))&&decide (br.Tuple.tupleHashOf (iG D done)<2^63))=X
   ·rw[aK UQ];rw[aK UQ]at e;exact aQ (by simpa [sl] using e)
   ·rw[aL UQ];rw[aL UQ]at e;exact ao (i_ (aQ (by simpa [sl] using e)))
 |_,_,_,_,.aS,_,_,q,_,_,_=>by cases ‹Nat›<;>cases q
 |_,_,_,_,.aE _,_,_,q,_,_,_=>by cases ‹Nat›<;>cases q
 |_,_,_,_,.fn _,_,_,q,_,_,_=>by cases ‹Nat›<;>cases q
 |_,_,_,_,.aT _,_,_,q,_,_,_=>by cases ‹Nat›<;>cases q
 |_,_,_,_,.fd,_,_,q,_,_,_=>by cases ‹Nat›<;>cases q
 |0,_,_,_,.tup _,_,_,q,_,_,_=>by cases q
mutual
def ck:V->V->Bool
 |.aS,.aS=>X
 |.aE g,.aE d=>g==d
 |.aE g,.int i=>(if g then 1 else 0)==i
 |.int a,.aE d=>a==(if d then 1 else 0)
 |.int a,.int i=>a==i
 |.str f,.str x=>f==x
 |.tup g,.tup d=>eY g d
 |_,_=>av
def eY:List V->List V->Bool
 |[],[]=>X
 |g::j,d::C=>ck g d&&eY j C
 |_,_=>av
end
mutual
def V.bQ:Nat->V->Bool
 |_,.aS=>X
 |_,.aE _=>X
 |_,.int _=>X
 |_,.str _=>X
 |s+1,.tup H=>V.dj s H
 |_,_=>av
def V.dj:Nat->List V->Bool
 |_,[]=>X
 |s,r::H=>V.bQ s r&&V.dj s H
end
theorem jK{s:Nat}:∀{H:List V}{i:Nat}{r:V},V.dj s H=X->H[i]?=Z r->V.bQ s r=X
 |[],i,r,_,e=>by simp at e
 |c::H,0,r,q,e=>by
  rw[V.dj,cS]at q;simp at e;subst e;exact q.1
 |c::H,i+1,r,q,e=>by
  rw[V.dj,cS]at q;exact jK q.2 ⇑e
theorem dG.get{e:aZ}:∀{H:List V}{U:List ab}{i:Nat}{v:ab},dG e H U->U[i]?=Z v->∃r,H[i]?=Z r/\de e r v
 |[],U,i,v,g,c=>by rw[show U=[] from g]at c;simp at c
 |r::H,U,0,v,g,c=>by
  let⟨J,@j,rfl,a,VL⟩:=g;simp at c;subst c;exact⟨r,rfl,a⟩
 |r::H,U,i+1,v,g,c=>by
  let⟨J,@j,rfl,a,VL⟩:=g;let⟨@VD,y,B⟩:=dG.get (i:=i) VL ⇑c;exact⟨VD,by simpa using y,B⟩
theorem Bv{e:aZ}:∀(s:Nat) {f x:V}{v:ab},V.bQ s f=X->V.bQ s x=X->de e f v->de e x v->ck f x=X
 |s,.aS,x,v,_,a8,h,b=>by
  cases (show v=.none from h);cases x with
  |aS=>rfl
  |aE d=>cases b
  |int i=>let⟨@J,c⟩:=b;cases c
  |str k=>let⟨@J,c⟩:=b;cases c
  |tup H=>let⟨W,W,W,@W,c,W⟩:=b;cases c
  |fn g=>cases s<;>cases a8
  |aT g=>cases s<;>cases a8
  |fd=>cases s<;>cases a8
 |s,.aE d,x,v,_,a8,h,b=>by
  cases (show v=.bool d from h);cases x with
  |aS=>cases b
  |aE o=>cases b;simp[ck]
  |int i=>let⟨@J,c⟩:=b;cases c
  |str k=>let⟨@J,c⟩:=b;cases c
  |tup H=>let⟨W,W,W,@W,c,W⟩:=b;cases c
  |fn g=>cases s<;>cases a8
  |aT g=>cases s<;>cases a8
  |fd=>cases s<;>cases a8
 |s,.int a,x,v,_,a8,h,b=>by
  let⟨@C,rfl⟩:=h;cases x with
  |aS=>cases b
  |aE o=>cases b
  |int i=>let⟨@J,c⟩:=b;cases c;simp[ck]
  |str k=>let⟨@J,c⟩:=b;cases c
  |tup H=>let⟨W,W,W,@W,c,W⟩:=b;cases c
  |fn g=>cases s<;>cases a8
  |aT g=>cases s<;>cases a8
  |fd=>cases s<;>cases a8
 |s,.str a,x,v,_,a8,h,b=>by
  let⟨@C,rfl⟩:=h;cases x with
  |aS=>cases b
  |aE o=>cases b
  |int i=>let⟨@J,c⟩:=b;cases c
  |str k=>let⟨@J,c⟩:=b;cases c;simp[ck]
  |tup H=>let⟨W,W,W,@W,c,W⟩:=b;cases c
  |fn g=>cases s<;>cases a8
  |aT g=>cases s<;>cases a8
  |fd=>cases s<;>cases a8
 |s+1,.tup H,x,v,dq,a8,h,b=>by
  let⟨g,n,Vj,@t,rfl,y,B,u,w⟩:=h;cases x with
  |aS=>cases b
  |aE o=>cases b
  |int i=>let⟨@J,c⟩:=b;cases c
  |str k=>let⟨@J,c⟩:=b;cases c
  |fn g=>cases a8
  |aT g=>cases a8
  |fd=>cases a8
  |tup T=>
   let⟨E,Vk,F,@G,c,m,I,l,z⟩:=b;cases c;rw[y]at m;cases m;rw[u]at l;injection l with l _;subst l;have all:∀(H T:List V) (U:List ab),V.dj s H=X->V.dj s T=X->dG e H U->dG e T U->eY H T=X:=by
    intro H;induction H with
    |nil=>
     intro T U W W g d;cases T with
     |nil=>rfl
     |cons c T=>let⟨W,@W,p,W⟩:=d;rw[show U=[] from g]at p;cases p
    |cons r H A=>
     intro T U Vf Vt g d;let⟨v,@j,rfl,D,VL⟩:=g;cases T with
     |nil=>cases (show v::j=[] from d)
     |cons c T=>
      let⟨L,@VA,p,c5,dM⟩:=d;cases p;rw[V.dj,cS]at Vf Vt;rw[eY,Bv s Vf.1 Vt.1 D c5,A T j Vf.2 Vt.2 VL dM];rfl
   rw[ck];exact all H T _ dq a8 w z
 |s,.fn _,_,_,q,_,_,_=>by cases s<;>cases q
 |s,.aT _,_,_,q,_,_,_=>by cases s<;>cases q
 |s,.fd,_,_,q,_,_,_=>by cases s<;>cases q
 |0,.tup _,_,_,q,_,_,_=>by cases q
def rI{c:Nat->Bool}:∀{H T:List V},(∀(i:Nat) (f x:V),H[i]?=Z f->T[i]?=Z x->c i=ck f x)->((range<|min H.length T.length).all c&&H.length==T.length)=eY H T:=by
 have G:∀(H T:List V) (N:Nat->Bool),(∀(i:Nat) (f x:V),H[i]?=Z f->T[i]?=Z x->N i=ck f x)->((range<|min H.length T.length).all N&&H.length==T.length)=eY H T:=by
  intro H;induction H with
  |nil=>intro T N W;cases T<;>simp[eY]
  |cons r H a=>
   intro T N e;cases T with
   |nil=>simp[eY]
   |cons o T=>
    have:=a T (λi=>N<|i+1) λi f x g d=>e (i+1) f x ⇑g ⇑d;rw[eY,<-this,<-e 0 r o rfl rfl];rw[dz,dz,show min (H.length+1) (T.length+1)=min H.length T.length+1 by lia,List.range_succ_eq_map,List.all_cons,Ai,Bool.and_assoc];congr 2;rw[qJ];simp
 exact λ{H T} e=>G H T c e
theorem iN{m:ai}:∀(s:Nat) {O:bw}{f x:V}{J v:ab},V.bQ s f=X->V.bQ s x=X->O.units+s+1<bR->de m.heap f J->de m.heap x v->SeqAt.EqAt O m J v (ck f x)
 |s,O,.aS,x,J,v,_,a8,l,h,b=>by
  cases (show J=.none from h);cases x with
  |aS=>cases (show v=.none from b);exact SeqAt.EqAt.same _
  |aE d=>cases (show v=.bool d from b);exact To d
  |int i=>let⟨@C,rfl⟩:=b;exact Lx i C
  |str k=>let⟨@C,rfl⟩:=b;exact Km k C
  |tup H=>let⟨g,n,Vj,@t,rfl,y,B,j,W⟩:=b;exact SP ⟨n,y,B,t,j⟩ ⋯
  |fn g=>cases s<;>cases a8
  |aT g=>cases s<;>cases a8
  |fd=>cases s<;>cases a8
 |s,O,.aE d,x,J,v,_,a8,l,h,b=>by
  cases (show J=.bool d from h);cases x with
  |aS=>cases (show v=.none from b);exact OG d
  |aE o=>cases (show v=.bool o from b);exact QA d o
  |int i=>let⟨@C,rfl⟩:=b;exact JN d i C
  |str k=>let⟨@C,rfl⟩:=b;exact MU d k C
  |tup H=>let⟨g,n,Vj,@t,rfl,y,B,j,W⟩:=b;exact PI d ⟨n,y,B,t,j⟩ ⋯
  |fn g=>cases s<;>cases a8
  |aT g=>cases s<;>cases a8
  |fd=>cases s<;>cases a8
 |s,O,.int a,x,J,v,_,a8,l,h,b=>by
  let⟨@e,rfl⟩:=h;cases x with
  |aS=>cases (show v=.none from b);exact NJ a e
  |aE o=>cases (show v=.bool o from b);exact OU a e o
  |int i=>let⟨@C,rfl⟩:=b;exact T6 a e i C
  |str k=>let⟨@C,rfl⟩:=b;exact Ds a e k C
  |tup H=>let⟨g,n,Vj,@t,rfl,y,B,j,W⟩:=b;exact Sq a e ⟨n,y,B,t,j⟩ ⋯
  |fn g=>cases s<;>cases a8
  |aT g=>cases s<;>cases a8
  |fd=>cases s<;>cases a8
 |s,O,.str a,x,J,v,_,a8,l,h,b=>by
  let⟨@e,rfl⟩:=h;cases x with
  |aS=>cases (show v=.none from b);exact MB a e
  |aE o=>cases (show v=.bool o from b);exact PZ a e o
  |int i=>let⟨@C,rfl⟩:=b;exact IS a e i C
  |str k=>let⟨@C,rfl⟩:=b;exact JA a e k C
  |tup H=>let⟨g,n,Vj,@t,rfl,y,B,j,W⟩:=b;exact Tq a e ⟨n,y,B,t,j⟩ ⋯
  |fn g=>cases s<;>cases a8
  |aT g=>cases s<;>cases a8
  |fd=>cases s<;>cases a8
 |s+1,O,.tup H,x,J,v,dq,a8,l,h,b=>by
  have F:=h;let⟨g,n,Vj,@t,rfl,y,B,j,u⟩:=h;have VC:m.heap.IsTuple g Vj:=⟨n,y,B,t,j⟩;cases x with
  |aS=>cases (show v=.none from b);exact RD VC ⋯
  |aE o=>cases (show v=.bool o from b);exact MS o VC ⋯
  |int i=>let⟨@C,rfl⟩:=b;exact K3 i C VC ⋯
  |str k=>let⟨@C,rfl⟩:=b;exact N1 k C VC ⋯
  |fn g=>cases a8
  |aT g=>cases a8
  |fd=>cases a8
  |tup T=>
   have G:=b;let⟨d,Vk,r,@I,rfl,L,M,N,w⟩:=b;by_cases c:g=d
   ·subst c;rw[Bv (s+1) dq a8 F G];exact SeqAt.EqAt.same _
   ·have cX:m.heap.IsTuple d r:=⟨Vk,L,M,I,N⟩;have z:=u.length;have A:=w.length;have P:Vj.toList.length=Vj.size:=by simp
    have Q:r.toList.length=r.size:=by simp
    rw[P]at z;rw[Q]at A;have p:=NV (A:=O) c (FP (e:=λi=>ck (H.getD i .aS)<|T.getD i .aS) VC cX ⋯ λi R S=>by
     let⟨@Vz,D,U⟩:=u.get (i:=i) (v:=Vj[i]) (by rw[eA];simp[R]);let⟨@Vy,E,al⟩:=w.get (i:=i) (v:=r[i]) (by rw[eA];simp[S]);rw[cA,D,cA,E];exact iN s (jK dq D) (jK a8 E) (by show O.units+1+s+1<bR;lia) U al)
    rw[<-z,<-A,rI (H:=H) (T:=T) (λi f x g d=>by rw[cA,g,cA,d];rfl)]at p;rw[ck];exact p
 |s,O,.fn _,_,_,_,q,_,_,_,_=>by cases s<;>cases q
 |s,O,.aT _,_,_,_,q,_,_,_,_=>by cases s<;>cases q
 |s,O,.fd,_,_,_,q,_,_,_,_=>by cases s<;>cases q
 |0,O,.tup _,_,_,_,q,_,_,_,_=>by cases q
mutual
theorem zj:∀{s:Nat}{r:V},V.key s r=X->V.bQ s r=X
 |s,.int _,_=>by cases s<;>rfl
 |s,.str _,_=>by cases s<;>rfl
 |s+1,.tup H,e=>by rw[V.key]at e;rw[V.bQ];exact D5 e
 |0,.tup _,e=>by cases e
 |s,.aS,e=>by cases s<;>cases e
 |s,.aE _,e=>by cases s<;>cases e
 |s,.fn _,e=>by cases s<;>cases e
 |s,.aT _,e=>by cases s<;>cases e
 |s,.fd,e=>by cases s<;>cases e
theorem D5:∀{s:Nat}{H:List V},V.keys s H=X->V.dj s H=X
 |s,[],_=>by rw[V.dj]
 |s,r::H,e=>by rw[V.keys,cS]at e;rw[V.dj,zj e.1,D5 e.2];rfl
end
mutual
theorem EA:∀{s:Nat}{f x:V},V.key s f=X->V.key s x=X->ck f x=decide (f=x)
 |s,.int a,x,_,b=>by
  cases x with
  |int i=>rw[ck];by_cases c:a=i<;>simp[c]
  |str k=>simp[ck]
  |tup k=>simp[ck]
  |_=>cases s<;>cases b
 |s,.str a,x,_,b=>by
  cases x with
  |int i=>simp[ck]
  |str k=>rw[ck];by_cases c:a=k<;>simp[c]
  |tup k=>simp[ck]
  |_=>cases s<;>cases b
 |s+1,.tup H,x,d,b=>by
  cases x with
  |int i=>simp[ck]
  |str k=>simp[ck]
  |tup T=>
   rw[V.key]at d b;rw[ck,GA d b];simp
  |_=>cases b
 |0,.tup _,_,e,_=>by cases e
 |s,.aS,_,e,_=>by cases s<;>cases e
 |s,.aE _,_,e,_=>by cases s<;>cases e
 |s,.fn _,_,e,_=>by cases s<;>cases e
 |s,.aT _,_,e,_=>by cases s<;>cases e
 |s,.fd,_,e,_=>by cases s<;>cases e
theorem GA:∀{s:Nat}{f x:List V},V.keys s f=X->V.keys s x=X->eY f x=decide (f=x)
 |s,[],x,_,_=>by cases x<;>simp[eY]
 |s,r::H,[],_,_=>by simp[eY]
 |s,r::H,c::T,a,b=>by
  rw[V.keys,cS]at a b;rw[eY,EA a.1 b.1,GA a.2 b.2];by_cases y:r=c<;>by_cases B:H=T<;>simp[y,B]
end
theorem wC:∀(s:Nat) {O:bw}{UH:ab->ai->Prop}{m:ai}{r:V}{v:ab}{A:Bool->ai->Prop},V.key s r=X->de m.heap r v->A X m->wpAny (aR US D) O (eqIsQuiet s v) A UH m
 |s,O,UH,m,.int a,v,A,_,b,e=>by
  let⟨@C,rfl⟩:=b;rw[I1 s rfl];exact aQ e
 |s,O,UH,m,.str a,v,A,_,b,e=>by
  let⟨@C,rfl⟩:=b;rw[I1 s rfl];exact aQ e
 |s+1,O,UH,m,.tup H,v,A,q,b,e=>by
  let⟨g,n,Vj,@t,rfl,f,k,hd,UN⟩:=b;have h:m.TypeIs (.ref g) "tuple" := ⟨n,f,k⟩;unfold eqIsQuiet;refine ao (sT h F.slot_tuple_eq.lookup ?_);show wpAny _ _ (x_ (.ref g) (.type "tuple") >>= _) _ _ m;refine ao (oT h isSubtype_tuple_tuple ?_);simp only[p6,gs,ft];refine ao (hE f hd ?_);refine ao ?_;show wpAny _ _ (forIn Vj _ _) _ _ m;rw[<-ue];rw[V.key]at q;refine nq _ (λcB j UI=>j.1=Y/\UI=m/\∃left,V.keys s left=X/\dG m.heap left cB) _ ?_ ?_ _ _ ⟨rfl,rfl,H,q,UN⟩
  ·rintro v cB j UI ⟨UQ,rfl,left,d,i⟩;cases left with
   |nil=>cases (show v::cB=[] from i)
   |cons r left=>
    let⟨o,@VA,c,y,l⟩:=i;cases c;rw[V.keys,cS]at d;refine ao (wC s d.1 y ?_);simp only[p6,gs,ft];exact aQ ⟨rfl,rfl,left,d.2,l⟩
  ·rintro⟨p,u⟩ UI ⟨UQ,rfl,W⟩;simp only at UQ;subst UQ;exact aQ e
 |_,_,_,_,.aS,_,_,q,_,_=>by cases ‹Nat›<;>cases q
 |_,_,_,_,.aE _,_,_,q,_,_=>by cases ‹Nat›<;>cases q
 |_,_,_,_,.fn _,_,_,q,_,_=>by cases ‹Nat›<;>cases q
 |_,_,_,_,.aT _,_,_,q,_,_=>by cases ‹Nat›<;>cases q
 |_,_,_,_,.fd,_,_,q,_,_=>by cases ‹Nat›<;>cases q
 |0,_,_,_,.tup _,_,_,q,_,_=>by cases q
def fs(US:bC)(D:bc):HeapKind US D (List V) where
 is:=λe H g=>V.keys 7 H=X/\de e (.tup H) (.ref g)
 hash:=λH=>dD D (.tup H)
 draws:=λH=>v8 (.tup H)
 room:=λO=>O.units+10<bR
 inj:=λa b=>by
  have:=E4 8 (f:=.tup _) (x:=.tup _) a.1 b.1 a.2 b.2;injection this
 keeps:=λ{e S q g r n T U9} f k hd ar=>⟨f.1,f.2.keep λd J Vj s h o j=>by
  have l:d≠r:=by
   rintro rfl;rw[k]at h;cases h;rw[hd]at j;cases j
  exact (ar.2 d l).trans h⟩
 pyHash:=λi c e=>Bf 8 (r:=.tup _) c.1 (show _<_ by have:_+10<bR:=i;lia) c.2 e
 eqBool:=λ{O UH m f x g d A} i a b e=>by
  have p:=iN (m:=m) 8 (O:=O) (f:=.tup f) (x:=.tup x) (zj (s:=8) (r:=.tup f) a.1) (zj (s:=8) (r:=.tup x) b.1) (show _<_ by have:O.units+10<bR:=i;lia) a.2 b.2;rw[EA (s:=8) (f:=.tup f) (x:=.tup x) a.1 b.1]at p;exact p _ _ UH A ⇑e
 quiet:=λc e=>wC 8 (r:=.tup _) c.1 c.2 e
end
abbrev ew:=Sum Int aC
def qC:ew->ab->Bool
 |.inl q,v=>ab.isInt q v
 |.inr f,v=>ab.isStrOf f v
def QL(D:bc):ew->Int
 |.inl q=>hashInt q
 |.inr f=>hashStr D f
theorem lJ:∀{q:ew}{v:ab},qC q v=X->(∃a C,q=Sum.inl a/\v=ab.int a C)\/(∃f C,q=Sum.inr f/\v=ab.str f C)
 |.inl a,v,e=>by
  let⟨@C,c⟩:=ab.isInt_shape (k:=a) (v:=v) e;exact .inl ⟨a,C,rfl,c⟩
 |.inr f,v,e=>by
  let⟨@C,c⟩:=ab.isStrOf_shape (x:=f) (v:=v) e;exact .inr ⟨f,C,rfl,c⟩
def Mn(a:Int)(C:iz):qC (.inl a) (.int a C)=X:=by simp[qC,ab.isInt]
def Nr(f:aC)(C:iz):qC (.inr f) (.str f C)=X:=by simp[qC,ab.isStrOf]
def JB(g d:Int):decide ((Sum.inl g:ew)=Sum.inl d)=(g==d):=by
 by_cases c:g=d
 ·subst c;simp
 ·have e:¬ (Sum.inl g:ew)=Sum.inl d:=λp=>c (Sum.inl.inj p);rw[el e];exact (xR.mpr c).symm
def LQ(g d:aC):decide ((Sum.inr g:ew)=Sum.inr d)=decide (g=d):=by
 by_cases c:g=d
 ·subst c;simp
 ·have e:¬ (Sum.inr g:ew)=Sum.inr d:=λp=>c (Sum.inr.inj p);rw[el e,el c]
def Lm(g:Int)(d:aC):decide ((Sum.inl g:ew)=Sum.inr d)=av:=el (λp=>nomatch p)
def Sn(g:aC)(d:Int):decide ((Sum.inr g:ew)=Sum.inl d)=av:=el (λp=>nomatch p)
def l0(US:bC)(D:bc):PySem.KeyKind US D ew where
 is:=qC
 hash:=QL D
 inj:=λv g d k j=>by
  rcases lJ k with ⟨a,C,rfl,rfl⟩|⟨f,C,rfl,rfl⟩
  ·rcases lJ j with ⟨i,J,rfl,c⟩|⟨x,J,rfl,c⟩
   ·injection c with b _;rw[b]
   ·exact nomatch c
  ·rcases lJ j with ⟨i,J,rfl,c⟩|⟨x,J,rfl,c⟩
   ·exact nomatch c
   ·injection c with b _;rw[b]
 byValue:=λq v e=>by
  rcases lJ e with ⟨a,C,rfl,rfl⟩|⟨f,C,rfl,rfl⟩<;>rfl
 pyHash:=λh e=>by
  rcases lJ h with ⟨a,C,rfl,rfl⟩|⟨f,C,rfl,rfl⟩
  ·exact DU e
  ·exact FW e
 eqBool:=λl h e=>by
  rcases lJ l with ⟨a,C,rfl,rfl⟩|⟨f,C,rfl,rfl⟩
  ·rcases lJ h with ⟨i,J,rfl,rfl⟩|⟨x,J,rfl,rfl⟩
   ·rw[JB]at e;exact wpAny_eqBool_int e
   ·rw[Lm]at e;exact Ds a C x J _ _ _ _ e
  ·rcases lJ h with ⟨i,J,rfl,rfl⟩|⟨x,J,rfl,rfl⟩
   ·rw[Sn]at e;exact IS f C i J _ _ _ _ e
   ·rw[LQ]at e;exact wpAny_eqBool_str e
 «strs»:=λq f C v e=>by
  rcases lJ e with ⟨a,J,rfl,c⟩|⟨x,J,rfl,c⟩
  ·exact nomatch c
  ·injection c with b _;subst b;cases v<;>rfl
def NX(US:bC)(D:bc)(a:Int)(C:iz):(l0 US D).is (.inl a) (.int a C)=X:=Mn a C
def MV(US:bC)(D:bc)(f:aC)(C:iz):(l0 US D).is (.inr f) (.str f C)=X:=Nr f C
inductive ak where
 | aS|aE (d:Bool)|int (a:Int)|str (f:aC)|r6 (d:Array UInt8)|A0 (d:UInt64)|ref (g:ah)|ty (s:String)
 deriving DecidableEq
variable{U E:List ak}{x v:ak}
def bY:ak->ab->Prop
 |.aS,J=>J=ab.none
 |.aE d,J=>J=ab.bool d
 |.int a,J=>∃C,J=ab.int a C
 |.str f,J=>∃C,J=ab.str f C
 |.r6 d,J=>∃C,J=ab.bytes d C
 |.A0 d,J=>∃C,J=ab.float d C
 |.ref g,J=>J=ab.ref g
 |.ty s,J=>J=ab.type s
abbrev cp:List ak->List ab->Prop:=eg bY
def cp.length(j:cp E Va):E.length=Va.length:=eg.length j
theorem cp.get:∀{E:List ak}{Va:List ab}{a:Nat}{f:ak},cp E Va->E[a]?=Z f->∃J,Va[a]?=Z J/\bY f J
 |_,_,_,_,.nil,c=>by simp at c
 |_,_,0,_,.cons j _,c=>by simp at c;subst c;exact⟨_,rfl,j⟩
 |_,_,a+1,f,.cons _ C,c=>by
  let⟨@J,y,B⟩:=cp.get (a:=a) (f:=f) C ⇑c;exact⟨J,by simpa using y,B⟩
theorem cp.set{f:ak}{J:ab}(j:bY f J):∀{E:List ak}{Va:List ab} (a:Nat),cp E Va->cp (E.set a f) (Va.set a J)
 |_,_,_,.nil=>.nil
 |_,_,0,.cons _ C=>.cons j C
 |_,_,a+1,.cons p C=>.cons p (cp.set j a C)
theorem cp.append:∀{E U0:List ak}{Va a:List ab},cp E Va->cp U0 a->cp (E++U0) (Va++a)
 |_,_,_,_,.nil,m=>m
 |_,_,_,_,.cons j C,m=>.cons j (cp.append C m)
def jl:Option ak->Option ab->Prop
 |some v,Z J=>bY v J
 |none,Y=>True
 |_,_=>False
def fX{U7:Type}:List (U7×ak)->List (U7×ab)->Prop:=(eg λ(u:U7×ak) (p:U7×ab)=>u.1=p.1/\bY u.2 p.2)
def cv:ew->ak
 |.inl a=>.int a
 |.inr f=>.str f
inductive e1 where
 | lst (E:List ak)
 | tup (E:List ak)
 | dn (UX:List (ew×ak))|aJ (UX:List (List V×ak))
 | set (UM:Int->Bool) (s:Nat)
 | ins (aN i:ah) (aa:List (aC×ak))
 | own (f:ah)
 | zN (aa:List (aC×ak))
 | met (N f:ah)
 | pE (UJ UN:Int)
 | b6 (n:aX) (J:e1)
 | gN
 | ext (Un:aZ->Prop)
variable{n:e1}
abbrev ax:=ah->Option e1
variable{Q h:ax}
def upd(h:ax)(g:ah)(n:e1):ax:=(λd=>if d=g then Z n else h d)
def dp:upd h g n g=Z n:=by unfold upd;rw[aK rfl]
def b0(e:d≠g):upd h g n d=h d:=by unfold upd;rw[aL e]
def KA{J:e1}(e:h g=Z n)(S:h d=Z J)(r:n≠J):g≠d:=by
 intro c;subst c;rw[e]at S;exact r (Option.some.inj S)
def fV(e:h g=Z n)(S:h d=Y):g≠d:=by
 intro c;subst c;rw[e]at S;cases S
mutual
def cf(h:ax):V->ak->Prop
 |.aS,v=>v=.aS
 |.aE d,v=>v=.aE d
 |.int a,v=>v=.int a
 |.str f,v=>v=.str f
 |.fn g,v=>v=.ref g
 |.aT H,v=>∃g E n,v=.ref g/\h g=Z (.b6 n<|.lst E)/\bI h H E
 |.fd,v=>∃g n,v=.ref g/\h g=Z (.b6 n<|.aJ [])
 |.tup H,v=>∃g E,v=.ref g/\h g=Z (.tup E)/\bI h H E
def bI(h:ax):List V->List ak->Prop
 |[],U=>U=[]
 |r::H,U=>∃v j,U=v::j/\cf h r v/\bI h H j
end
def rN(h Q:ax):Prop:=(∀g E,h g=Z (.tup E)->Q g=Z (.tup E))
structure mq(h Q:ax):Prop where
 t:rN h Q
 z:∀g n J,h g=Z (.b6 n J)->Q g=Z (.b6 n J)
noncomputable instance {h Q:ax}:CoeFun (mq h Q) (λ_=>∀g E,h g=Z (.tup E)->Q g=Z (.tup E)):=⟨λC=>C.t⟩
mutual
theorem cf.mono{h Q:ax}(q:mq h Q):∀{r:V}{v:ak},cf h r v->cf Q r v
 |.aS,_,c=>c
 |.aE _,_,c=>c
 |.int _,_,c=>c
 |.str _,_,c=>c
 |.fn _,_,c=>c
 |.tup H,_,c=>by
  let⟨g,@E,rfl,y,B⟩:=c;exact⟨g,E,rfl,q.t g E y,bI.mono q B⟩
 |.aT H,_,c=>by
  let⟨g,E,@n,rfl,y,B⟩:=c;exact⟨g,E,n,rfl,q.z g _ _ y,bI.mono q B⟩
 |.fd,_,c=>by
  let⟨g,@n,rfl,y⟩:=c;exact⟨g,n,rfl,q.z g _ _ y⟩
theorem bI.mono{h Q:ax}(q:mq h Q):∀{H:List V}{U:List ak},bI h H U->bI Q H U
 |[],_,c=>c
 |r::H,_,c=>by
  let⟨v,@j,rfl,y,B⟩:=c;exact⟨v,j,rfl,cf.mono q y,bI.mono q B⟩
end
def iE(h:ax)(q:List V)(d:ah):Prop:=(V.keys 7 q=X/\cf h (.tup q) (.ref d))
mutual
theorem cf.r1{h Q:ax}(q:rN h Q):∀{r:V}{s:Nat}{v:ak},V.key s r=X->cf h r v->cf Q r v
 |.aS,_,_,_,c=>c
 |.aE _,_,_,_,c=>c
 |.int _,_,_,_,c=>c
 |.str _,_,_,_,c=>c
 |.fn _,_,_,_,c=>c
 |.tup H,s+1,_,p,c=>by
  let⟨g,@E,rfl,y,B⟩:=c;exact⟨g,E,rfl,q g E y,bI.r1 q p B⟩
 |.tup H,0,_,p,c=>nomatch p
 |.aT H,0,_,p,c=>nomatch p
 |.aT H,s+1,_,p,c=>nomatch p
 |.fd,0,_,p,c=>nomatch p
 |.fd,s+1,_,p,c=>nomatch p
theorem bI.r1{h Q:ax}(q:rN h Q):∀{H:List V}{s:Nat}{U:List ak},V.keys s H=X->bI h H U->bI Q H U
 |[],_,_,_,c=>c
 |r::H,s,_,p,c=>by
  let⟨v,@j,rfl,y,B⟩:=c;rw[V.keys,cS]at p;exact⟨v,j,rfl,cf.r1 q p.1 y,bI.r1 q p.2 B⟩
end
def iE.mono{q:List V}(e:iE h q d)(C:rN h Q):iE Q q d:=by
 let@⟨a,⟨g,@E,c,y,B⟩⟩:=e;exact⟨a,g,E,c,C g E y,B.r1 C a⟩
def og(e:aZ)(g:ah)(Vj:Array ab):Prop:=(∃n,e.get? g=Z n/\(n.cls,n.dict)=(.type "tuple",Y)/\∃s,n.data=.seq Vj s)
def og.tup{Vj:Array ab}(f:og e g Vj):rM e g Vj:=let ⟨n,c,o,j⟩:=f;⟨n,c,(Prod.mk.inj o).1,j⟩
def og.new(e:aZ)(Vj:Array ab):og (e.push {cls:=.type "tuple",data:=.seq Vj}) e.objs.size Vj:=⟨_,cR _ rfl,rfl,_,rfl⟩
def iA:aC :=( "_law_runs_of.<locals>.<lambda>")
section
variable(UT:bC)(D:bc)
def d0(h:ax)(e:aZ)(g:ah):e1->Prop
 |.lst E=>E.length<=sizeLine/\∃(UW:List ab) (s:Nat),cp E UW/\e.get? g=Z {cls:=.type "list",data:=.seq UW.toArray s}
 |.tup E=>E.length<=sizeLine/\∃UW:List ab,cp E UW/\og e g UW.toArray
 |.dn UX=>UX.length<=sizeLine/\(g==h_)=av/\∃U,fX UX U/\e.DictOf (l0 UT D) g U
 |.aJ UX=>UX.length<=sizeLine/\(g==h_)=av/\∃E:List (List V×ah×ab),
   eg (λ(u:List V×ak) (p:List V×ah×ab)=>u.1=p.1/\iE h u.1 p.2.1/\bY u.2 p.2.2) UX E/\
   ∃n T U9,e.get? g=Z n/\n.ExactDict/\n.data=.dict T U9/\T.toList=E.map (entryOfKey<|fs UT D)/\(E.map (·.1)).Nodup
 |.set UM s=>e.SetOf (intKind UT D) g UM s
 |.ins aN i aa=>h i=Z (.own g)/\aa.length<=1000/\i≠g/\e.get? g=Z (PySem.W.instObj aN i)/\
   ∃l,e.Ns1 i l/\(∀N,jl (aa.lookup N)<|l N)/\PySem.Within l (aa.map (·.1))
 |.own _=>∃n,e.get? g=Z n
 |.zN aa=>∃l,e.Ns1 g l/\∀N,jl (aa.lookup N) (l N)
 |.pE UJ UN=>∃C J v,e.get? g=Z {cls:=.type "range",data:=.fields #[.int UJ C,.int UN J,.int 1 v]}
 |.b6 n J=>e.get? g=Z n/\d0 h e g J
 |.gN=>∃U1,e.get? g=Z (Δ U1)/\AY U1.toList/\∀UZ b,qr UZ U1.toList=Z b->∃o G U C,b=.ref o/\h o=Z (.b6 G<|.ext λ_=>True)/\G.data=.fields U/\U[1]?=Z (.str iA C)
 |.met N f=>e.get? g=Z (Φb (.ref N)<|.ref f)
 |.ext a=>a e/\(∃n,e.get? g=Z n)/\∀y B:aZ,a y->(∀n,y.get? g=Z n->B.get? g=Z n)->a B
def d_(h:ax)(e:aZ):Prop:=(∀g n,h g=Z n->d0 UT D h e g n)
end
section
variable{UT:bC}{D:bc}{h Q:ax}{e S:aZ}{g:ah}{n:e1}
def d0.lt(f:d0 UT D h e g n):g<e.objs.size:=by
 cases n with
 |lst E=>let@⟨_,⟨_,@_,_,c⟩⟩:=f;exact bW c
 |tup E=>let@⟨_,⟨@_,_,u⟩⟩:=f;exact u.tup.lt
 |dn UX=>let@⟨_,_,⟨@_,_,⟨n,_,@_,c,_⟩⟩⟩:=f;exact bW c
 |aJ UX=>let@⟨_,_,⟨@_,_,⟨n,_,@_,c,_⟩⟩⟩:=f;exact bW c
 |set UM s=>let⟨n,W,W,@W,c,W⟩:=f;exact bW c
 |ins aN i aa=>let@⟨_,_,_,c,_⟩:=f;exact bW c
 |own x=>let⟨@W,c⟩:=f;exact bW c
 |zN aa=>let⟨@W,⟨W,W,@W,c,W⟩,W⟩:=f;exact bW c
 |pE UJ UN=>let⟨W,W,@W,c⟩:=f;exact bW c
 |b6 Vl J=>let@⟨c,_⟩:=f;exact bW c
 |gN=>let⟨W,c,W⟩:=f;exact bW c
 |met N x=>exact bW (show e.get? g=Z _ from f)
 |ext a=>let@⟨_,⟨@_,c⟩,_⟩:=f;exact bW c
theorem eg.uh{U_ VR:Type}{P UU:U_->VR->Prop}:∀{a:List U_}{b:List VR},eg P a b->(∀g d,P g d->UU g d)->eg UU a b
 |_,_,.nil,_=>.nil
 |_,_,.cons j C,N=>.cons (N _ _ j) (eg.uh C N)
def d0.eF(f:d0 UT D h e g n)(q:∀d J,(d=g\/h d=Z (.own g))->e.get? d=Z J->S.get? d=Z J)(b:∀d,h d=Z (.own g)->Q d=Z (.own g))(bP:∀d E,h d=Z (.tup E)->Q d=Z (.tup E))(m:∀d n J,h d=Z (.b6 n J)->Q d=Z (.b6 n J)):d0 UT D Q S g n:=by
 induction n with
 |lst E=>let@⟨k,⟨UW,@s,j,c⟩⟩:=f;exact⟨k,UW,s,j,q _ _ (.inl rfl) c⟩
 |tup E=>let@⟨k,⟨@UW,j,⟨@Vl,c,o⟩⟩⟩:=f;exact⟨k,UW,j,Vl,q _ _ (.inl rfl) c,o⟩
 |dn UX=>let@⟨k,x,⟨@U,j,⟨Vl,T,@U9,c,o⟩⟩⟩:=f;exact⟨k,x,U,j,Vl,T,U9,q _ _ (.inl rfl) c,o⟩
 |aJ UX=>
  let@⟨k,x,⟨@E,j,⟨Vl,T,@U9,c,o⟩⟩⟩:=f;exact⟨k,x,E,eg.uh j λu p k=>⟨k.1,k.2.1.mono bP,k.2.2⟩,Vl,T,U9,q _ _ (.inl rfl) c,o⟩
 |set UM s=>let⟨Vl,T,U9,@C,c,o⟩:=f;exact⟨Vl,T,U9,C,q _ _ (.inl rfl) c,o⟩
 |ins aN i aa=>
  let@⟨r,k,ne,c,⟨@l,⟨V2,T,@U9,a,o⟩,j⟩⟩:=f;exact⟨b _ r,k,ne,q _ _ (.inl rfl) c,l,⟨V2,T,U9,q _ _ (.inr r) a,o⟩,j⟩
 |own x=>let⟨@Vl,c⟩:=f;exact⟨Vl,q _ _ (.inl rfl) c⟩
 |zN aa=>let⟨@l,⟨V2,T,@U9,c,o⟩,j⟩:=f;exact⟨l,⟨V2,T,U9,q _ _ (.inl rfl) c,o⟩,j⟩
 |pE UJ UN=>let⟨C,J,@v,c⟩:=f;exact⟨C,J,v,q _ _ (.inl rfl) c⟩
 |b6 Vl J t=>let@⟨c,p⟩:=f;exact⟨q _ _ (.inl rfl) c,t p⟩
 |gN=>
  let⟨U1,c,C,p⟩:=f;refine⟨U1,q _ _ (.inl rfl) c,C,λUZ w y=>?_⟩;let⟨o,G,U,J,z,a,A⟩:=p UZ w y;exact⟨o,G,U,J,z,m o G _ a,A⟩
 |met N x=>
  have c:e.get? g=Z (Φb (.ref N)<|.ref x):=f;show S.get? g=Z (Φb (.ref N)<|.ref x);exact q g _ (.inl rfl) c
 |ext B=>let@⟨u,⟨@n,c⟩,L⟩:=f;exact⟨L _ _ u λn p=>q _ _ (.inl rfl) p,⟨n,q _ _ (.inl rfl) c⟩,L⟩
theorem d_.lt(f:d_ UT D h e)(c:h g=Z n):g<e.objs.size:=(f g n c).lt
def d_.fresh(f:d_ UT D h e)(c:e.objs.size<=g):h g=Y:=by
 cases p:h g with
 |none=>rfl
 |some J=>exact absurd (d6 (f.lt p) c) (gI _)
def d_.kept(f:d_ UT D h e)(q:∀d J,e.get? d=Z J->S.get? d=Z J):d_ UT D h S:=λg n c=>
 (f g n c).eF (λd J W p=>q d J p) (λ_ p=>p) (λ_ W p=>p) λ_ W W p=>p
def d_.laid(f:d_ UT D h e)(q:∀d J,e.get? d=Z J->S.get? d=Z J)(i:e.objs.size<=g)(new:d0 UT D (upd h g n) S g n):d_ UT D (upd h g n) S:=λd J c=>by
 have a:=f.fresh i;by_cases b:d=g
 ·subst b;rw[dp]at c;cases c;exact new
 ·rw[b0 b]at c;exact (f d J c).eF (λo v W p=>q o v p) (λo p=>by rw[b0 (fV p a)];exact p) (λo E p=>by rw[b0 (fV p a)];exact p) λo n J p=>by rw[b0 (fV p a)];exact p
end
def jE(h:ax)(g:ah)(J:e1):Prop:=(h g=Z J\/∃n,h g=Z (.b6 n J))
def jE.ok{J:e1}(j:jE h g J)(f:d_ UT D h e):d0 UT D h e g J:=by
 rcases j with j|⟨n,j⟩
 ·exact f g J j
 ·let@⟨_,p⟩:=f g _ j;exact p
def o2:Option e1->Prop
 |some (.lst _)=>True
 |some (.dn _)=>True
 |some (.aJ _)=>True
 |some (.set _ _)=>True
 |some (.ins _ _ _)=>True
 |some (.ext _)=>True
 |_=>False
section
variable{UT:bC}{D:bc}{h:ax}{e S:aZ}{f c:ah}{Vk:e1}
def d_.write(ok:d_ UT D h e)(a:o2 (h f))(l:c=f\/h c=Z (.own f))(q:∀d J,d≠c->e.get? d=Z J->S.get? d=Z J)(s:∃J,S.get? c=Z J)(new:d0 UT D (upd h f Vk) S f Vk):d_ UT D (upd h f Vk) S:=λd J p=>by
 have m:∀o x,h o=Z (.own x)->o≠f:=λo x j k=>by subst k;rw[j]at a;exact a
 have t:∀o E,h o=Z (.tup E)->o≠f:=λo E j k=>by subst k;rw[j]at a;exact a
 have u:∀o n J,h o=Z (.b6 n J)->o≠f:=λo n J j k=>by subst k;rw[j]at a;exact a
 by_cases b:d=f
 ·subst b;rw[dp]at p;cases p;exact new
 ·rw[b0 b]at p;by_cases g:d=c
  ·have r:h d=Z (.own f):=by
    rcases l with k|k
    ·exact absurd (g.trans k) b
    ·rw[g];exact k
   rw[p]at r;cases r;let⟨@v,w⟩:=s;exact⟨v,by rw[g];exact w⟩
  ·refine (ok d J p).eF (λo v i j=>q o v ?_ j) (λo j=>by rw[b0 (m o d j)];exact j) (λo E j=>by rw[b0 (t o E j)];exact j) λo n J j=>by rw[b0 (u o n J j)];exact j
   rcases i with rfl|i
   ·exact g
   ·rintro rfl;rcases l with k|k
    ·exact m o d i k
    ·rw[i]at k;cases k;exact b rfl
end
def mu(e S:aZ)(d:ah):Prop:=(∀U1,e.get? d=Z (Δ U1)->∃a,S.get? d=Z (Δ<|U1++a))
def mu.of(q:∀n,e.get? d=Z n->S.get? d=Z n):mu e S d:=λU1 p=>⟨#[],by rw[q _ p];simp⟩
def mu.trans{B:aZ}(f:mu e S d)(x:mu S B d):mu e B d:=λU1 p=>by
 let⟨t,c⟩:=f U1 p;let⟨a,b⟩:=x _ c;exact⟨t++a,by rw[b,Array.append_assoc]⟩
structure eW(aa Vs:List ah)(h Q:ax)(e S:aZ):Prop where
 keep:∀d n,e.get? d=Z n->h d=Y->d∉aa->d∉Vs->S.get? d=Z n
 slot:∀d n,e.get? d=Z n->h d=Y->d∈aa->d∉Vs->∃bF,S.get? d=Z {n with slots:=bF}
 free:∀d n,e.get? d=Z n->h d=Y->d∉Vs->Q d=Y
 jL:∀d n E,e.get? d=Z n->h d=Z (.tup E)->d∉Vs->S.get? d=Z n
 there:∀d n,e.get? d=Z n->d∉Vs->∃Vk,S.get? d=Z Vk
 jq:∀d E,h d=Z (.tup E)->Q d=Z (.tup E)
 jV:∀d n J,h d=Z (.b6 n J)->Q d=Z (.b6 n J)
 gD:∀d,h d=Z .gN->Q d=Z .gN/\(d∉Vs->mu e S d)
section
variable{aa t Vs b:List ah}{h UP U6:ax}{e y B S:aZ}{g f c:ah}{n:e1}
def eW.any(J:eW aa Vs h UP e y){d:ah}{Vl:aX}(p:e.get? d=Z Vl)(s:h d=Y)(a:d∉Vs):∃bF,y.get? d=Z {Vl with slots:=bF}:=by
 by_cases b:d∈aa
 ·exact J.slot d Vl p s b a
 ·exact⟨Vl.slots,J.keep d Vl p s b a⟩
def eW.kept(q:∀d J,e.get? d=Z J->S.get? d=Z J):eW aa Vs h h e S:=
 ⟨λd Vl p W W W=>q d Vl p,λd Vl p W W W=>⟨Vl.slots,q d Vl p⟩,λ_ W W s W=>s,λd Vl W p W W=>q d Vl p,λd Vl p W=>⟨Vl,q d Vl p⟩,λ_ W p=>p,λ_ W W p=>p,λd p=>⟨p,λ_=>.of<|q d⟩⟩
def eW.refl:eW aa Vs h h e e:=eW.kept λ_ W p=>p
theorem eW.laid(q:∀d J,e.get? d=Z J->S.get? d=Z J)(b:e.objs.size<=g)(a:h g=Y):eW aa Vs h (upd h g n) e S where
 keep:=λd J p W W W=>q d J p
 slot:=λd J p W W W=>⟨J.slots,q d J p⟩
 free:=λd J p s W=>by rw[b0 (cT<|d6 (bW p) b)];exact s
 jL:=λd J W p W W=>q d J p
 there:=λd J p W=>⟨J,q d J p⟩
 jq:=λd E p=>by rw[b0 (fV p a)];exact p
 jV:=λd J E p=>by rw[b0 (fV p a)];exact p
 gD:=λd p=>⟨by rw[b0 (fV p a)];exact p,λ_=>.of<|q d⟩
def eW.write(b:o2 (h f))(g:c=f\/h c=Z (.own f))(q:∀d J,d≠c->e.get? d=Z J->S.get? d=Z J)(r:∃J,S.get? c=Z J):eW aa Vs h (upd h f n) e S:=by
 have i:∀d,h d=Y->d≠f:=λd s k=>by subst k;rw[s]at b;exact b
 have m:∀d,h d=Y->d≠c:=λd s k=>by
  subst k;rcases g with j|j
  ·exact i d s j
  ·rw[s]at j;cases j
 have a:∀d J,h d=Z J->¬ o2 (Z J)->d≠f:=λd J p l k=>by subst k;rw[p]at b;exact l b
 refine⟨λd J p s W W=>q d J (m d s) p,λd J p s W W=>⟨J.slots,q d J (m d s) p⟩,λd J p s W=>by rw[b0 (i d s)];exact s,λd J E p C W=>q d J (λk=>by
   subst k;rcases g with j|j
   ·exact a d _ C (λk=>k) j
   ·rw[C]at j;cases j) p,λd J p W=>?_,
  λd E p=>by rw[b0 (a d _ p λk=>k)];exact p,λd J E p=>by rw[b0 (a d _ p λk=>k)];exact p,λd p=>⟨by rw[b0 (a d _ p λk=>k)];exact p,λ_=>.of λJ=>q d J λk=>by
   subst k;rcases g with j|j
   ·exact a d _ p (λk=>k) j
   ·rw[p]at j;cases j⟩⟩
 by_cases o:d=c
 ·subst o;exact r
 ·exact⟨J,q d J o p⟩
end
def v_(e:aZ)(h:ax):List ah:=((range e.objs.size).filter λg=>(h g).isSome)
def E1:List ab->Option (List ak)
 |[.int a _,.int i _]=>Z [.int a,.int i]
 |_=>Y
def qU(n:aX):Option (List ak):=(
 match n.cls,n.dict,n.data with
 | .type "tuple",Y,.seq UW _=>E1 UW.toList
 |_,_,_=>Y)
def kO(n:aX):Option e1:=((qU n).map .tup)
def lq(e:aZ)(h:ax):aZ:=(PySem.W.hideAll e (v_ e h))
def Kp(e:aZ)(h:ax):(lq e h).objs.size=e.objs.size:=PySem.W.hideAll_size _ _
def PU{n:aX}(c:e.get? d=Z n)(s:h d=Y):(lq e h).get? d=Z n:=
 PySem.W.hideAll_get _ c λa=>by
  have p:(h d).isSome=X:=(qj.mp a).2;rw[s]at p;simp at p
def yU{n:aX}(c:(lq e h).get? d=Z n):e.get? d=Z n/\h d=Y:=by
 have a:e.get? d=Z n:=PySem.W.of_hideAll (v_ e h) c;refine⟨a,?_⟩;cases p:h d with
 |none=>rfl
 |some f=>
  have b:d∈v_ e h:=qj.mpr ⟨eT.mpr<|bW a,by simp[p]⟩;have k:(lq e h).get? d=Y:=PySem.W.hideAll_none (v_ e h) b;rw[k]at c;cases c
def R8(F e:aZ)(VM:ah):List (ah×aX):=((range e.objs.size).filterMap λg=>if g=VM\/(F.get? g).isSome=X then Y else (e.get? g).map λn=>(g,n))
def cB(F e:aZ)(VM r:ah):List (ah×aX):=((R8 F e VM).filter λu=>decide (u.1≠r))
structure Mod(UK:Φ)(aM:aC->Option ab)(UY:aZ):Prop where
 zM:UK.In UY
 glob:UY.Ns dx aM
 blt:∃BO,UY.Ns jc BO/\∀f:aC,f ≠ "__name__" -> BO f=e9 f
 nolimit:UY.NoLimit
 bm:∃bm n,aM "__builtins__" = Z (.ref bm)/\bm≠jc/\bm≠dx/\UY.get? bm=Z n/\n.cls=.type "module" /\ n.dict=Z jc/\n.data=.plain
structure aO where
 prog:bC
 w:bc
 K:Φ
 aM:aC->Option ab
 base:aZ
 A:bw
 N:List aC
 eI:ai
 kv:ax
 env:eu
 outer:List eu
 stack:List eu
 ex:List ah
 fn:aC->Bool
 calm:Bool
 dK:List (ah×aX)
 cF:ab->ai->Prop
variable{b:aO}
def ib(I:List eu):List ah:=(I.filterMap (·.frame))
abbrev aO.aa(b:aO):List ah:=ib b.outer
def oU(l:eO)(f:aC):Prop:=(l.names.lookup f=Z .local\/l.names.lookup f=Z .cell\/l.names.lookup f=Z .free)
def hc(l:eO)(f:aC):Prop:=(l.names.lookup f=Z .local\/l.names.lookup f=Z .cell)
def NA(UL:eu)(e:aZ)(t:aC->Option ab)(f:aC)(J:ab):Prop:=(
 (UL.kindOf f=Z .local/\t f=Z J)\/((UL.kindOf f=Z .cell\/UL.kindOf f=Z .free)/\∃o,UL.cells.lookup f=Z o/\e.IsCell o (Z J)))
def tC(UK:Φ)(o UT:ah): Prop :=( ∃n U a b c Ve d e H,UK.lookup o=Z n /\ n.cls=.type "code" /\ n.data=.fields U /\ U[11]? = Z (.ref UT) /\ U.getD 11 .none=.ref UT /\ U.getD 18 .none=.str a b /\
    U.getD 7 .none=.int c Ve /\ U.getD 9 .none=.bool d /\ U.getD 10 .none=.int e H /\ o ≠ UT)
def tC.hd{o UT:ah}(f:tC UK o UT)(q:UK.In e):Φc e o UT:=
 let ⟨n,U,a,b,d,Ve,g,h,H,c,j⟩:=f;⟨n,U,a,b,d,Ve,g,h,H,q _ _ c,j⟩
def RF{o UT:ah}(q:UK.In e)(c:Θ UK f=Z (o,UT))(r:Φc e o UT):tC UK o UT:=by
 let⟨n,U,a,b,d,Ve,g,h,H,i,j⟩:=r;have lk:∃Vk,UK.lookup o=Z Vk:=by
  unfold Θ at c;split at c
  ·split at c
   ·split at c
    ·split at c
     ·rename_i k;split at c
      ·cases c;exact⟨_,k⟩
      ·cases c
     ·cases c
    ·cases c
   ·cases c
  ·cases c
 let⟨Vk,y⟩:=lk;have B:=q _ _ y;rw[i]at B;cases B;exact⟨n,U,a,b,d,Ve,g,h,H,y,j⟩
def xJ(UK:Φ)(h:ax):Prop:=(∀o UT,Θ UK "_law_runs_of" = Z (o,UT)->h UT=Z .gN/\tC UK o UT)
structure aO.Ok(b:aO):Prop where
 mod:Mod b.K b.aM b.base
 kind:b.env.scope.kind=.function
 glob:b.env.globals=dx
 blt:b.env.builtins=jc
 above:b.eI.heap.objs.size<=b.env.locals
 inj:∀f x o,b.env.cells.lookup f=Z o->b.env.cells.lookup x=Z o->f=x
 has:∀f,(b.env.kindOf f=Z .cell\/b.env.kindOf f=Z .free)->∃o,b.env.cells.lookup f=Z o
 n2:∀f o,b.fn f=X->b.env.cells.lookup f=Z o->b.eI.heap.objs.size<=o
 hd:b.calm=X->b.A.handled=Y
 frames:b.A.frames=Z b.stack
 qQ:b.stack=b.outer\/(b.stack=b.env::b.outer/\b.env.frame=Z b.env.locals)
 Aq:∀d∈b.ex,d≠b.env.locals/\∀f o,b.env.cells.lookup f=Z o->o≠d
 bs:∀d n,b.base.get? d=Z n->b.eI.heap.get? d=Z n/\b.kv d=kO n
 ki:b.base.objs.size<=b.eI.heap.objs.size
 oG:∀d n,b.base.get? d=Z n->d∉b.ex
 pn:∀d∈b.ex,d∉b.aa
 iF:b.eI.heap.FunFrames b.base b.outer
 lh:(∀d∈b.aa,b.kv d=Y)/\xJ b.K b.kv
structure aF(b:aO)(R:List (ah×aX))(z:List (Option ak))(h:ax)(m:ai):Prop where
 ok:b.Ok
 os:m.os=b.eI.os
 bare:lS m.gens
 base:eW b.aa b.ex b.kv h b.eI.heap m.heap
 loc:∃t,m.heap.Ns b.env.locals t/\∀(a:Nat) (f:aC) (v:ak),b.N[a]?=Z f->z[a]?=Z (Z v)->oU b.env.scope f->∃J,bY v J/\NA b.env m.heap t f J
 cell:∀f o,b.env.cells.lookup f=Z o->∃v,m.heap.IsCell o v
 free:h b.env.locals=Y
 hF:∀f o,b.env.cells.lookup f=Z o->h o=Y
 pin:∀u∈b.dK++R,m.heap.get? u.1=Z u.2/\h u.1=Y/\u.1≠b.env.locals/\u.1∉b.aa/\∀v,u.2.data≠.cell v
 aY:d_ b.prog b.w h m.heap
 len:z.length=b.N.length
section
variable{b:aO}{R:List (ah×aX)}{z:List (Option ak)}{h Q:ax}{m:ai}{S:aZ}
def aO.Ok.Pa(ok:b.Ok){d:ah}{n:aX}(c:b.base.get? d=Z n):d∉b.aa:=λa=>by
 have:=(ok.iF.mem a).1;rw[c]at this;cases this
def aF.bs(l:aF b R z h m):∀d n,b.base.get? d=Z n->m.heap.get? d=Z n/\h d=kO n:=λd n c=>by
 let⟨y,B⟩:=l.ok.bs d n c;cases o:qU n with
 |none=>
  have s:b.kv d=Y:=B.trans (by rw[kO,o];rfl);exact⟨l.base.keep d n y s (l.ok.Pa c)<|l.ok.oG d n c,(l.base.free d n y s<|l.ok.oG d n c).trans<|s.symm.trans B⟩
 |some E=>
  have C:b.kv d=Z (.tup E):=B.trans (by rw[kO,o];rfl);exact⟨l.base.jL d n E y C<|l.ok.oG d n c,(l.base.jq d E C).trans<|C.symm.trans B⟩
def aF.fg(l:aF b R z h m):∀d n,b.base.get? d=Z n->m.heap.get? d=Z n:=λd n c=>(l.bs d n c).1
def aF.mod(l:aF b R z h m):Mod b.K b.aM b.base:=l.ok.mod
def aF.nD(l:aF b R z h m):b.K.In m.heap:=l.ok.mod.zM.keeps l.fg
def aF.nolimit(l:aF b R z h m):m.heap.NoLimit:=l.ok.mod.nolimit.keeps l.fg
def aF.lt(l:aF b R z h m):b.env.locals<m.heap.objs.size:=let ⟨_,a,_⟩:=l.loc;a.lt
def aF.gy(l:aF b R z h m):b.eI.heap.objs.size<=m.heap.objs.size:=df l.ok.above (l5 l.lt)
def aF.Lf(l:aF b R z h m){g:ah}(e:m.heap.objs.size<=g):g∉b.aa:=λa=>by
 let@⟨_,⟨@n,c,_⟩⟩:=l.ok.iF.mem a;exact absurd (d6 (bW c)<|df l.gy e) (gI _)
def aF.oO(l:aF b R z h m):∀f o,b.env.cells.lookup f=Z o->o≠b.env.locals:=λf o c k=>by
 let⟨v,@n,a,hd⟩:=l.cell f o c;let⟨@t,⟨Vk,T,@U9,d,e,W⟩,W⟩:=l.loc;rw[k,d]at a;cases a;rw[e]at hd;cases hd
def aF.iF(l:aF b R z h m):m.heap.FunFrames b.base b.outer:=by
 have all:∀(I:List eu),(∀d∈ib I,d∈b.aa)->b.eI.heap.FunFrames b.base I->m.heap.FunFrames b.base I:=by
  intro I;induction I with
  |nil=>intro W W;trivial
  |cons UL j g=>
   intro ar i;let@⟨o,⟨VM,@n,a,p,q,hd⟩,UQ⟩:=i;have e:VM∈b.aa:=ar VM (by unfold ib;rw[sh,a];exact mR);let⟨@bF,c⟩:=l.base.slot VM n q (l.ok.lh.1 VM e) e λk=>l.ok.pn VM k e;exact⟨o,⟨VM,_,a,p,c,hd⟩,g (λd f=>ar d (by unfold ib;rw[sh,a];exact lN _ f)) UQ⟩
 exact all b.outer (λ_ f=>f) l.ok.iF
def aF.stack(l:aF b R z h m):m.heap.FunFrames b.base b.stack:=by
 rcases l.ok.qQ with c|⟨c,a⟩
 ·rw[c];exact l.iF
 ·rw[c];let⟨@t,d,W⟩:=l.loc;refine .cons (by rw[l.ok.kind];decide) a d ?_ l.iF;exact aZ.get?_none_of_le (df l.ok.ki l.ok.above)
def aF.zh(l:aF b R z h m):∀d∈ib b.stack,d∈b.env.locals::b.aa:=λd a=>by
 rcases l.ok.qQ with c|⟨c,e⟩
 ·rw[c]at a;exact lN _ a
 ·rw[c]at a;unfold ib at a;rw[sh,e]at a;exact a
def aF.yI(l:aF b R z h m):∀d∈ib b.stack,h d=Y:=λd a=>by
 rcases b9.mp (l.zh d a) with c|a
 ·rw[c];exact l.free
 ·let@⟨_,⟨@n,e,_⟩⟩:=l.ok.iF.mem a;exact l.base.free d n e (l.ok.lh.1 d a) λk=>l.ok.pn d k a
def aF.cX(l:aF b R z h m):xJ b.K h:=λo UT c=>⟨(l.base.gD UT (l.ok.lh.2 o UT c).1).1,(l.ok.lh.2 o UT c).2⟩
def aF.step(l:aF b R z h m)(A:∀d∈VW,(d∈b.ex\/b.eI.heap.objs.size<=d)/\d≠b.env.locals/\(∀f o,b.env.cells.lookup f=Z o->o≠d)/\∀u∈b.dK++R,u.1≠d)(keep:∀d n,d≠b.env.locals->d∉b.aa->d∉VW->m.heap.get? d=Z n->h d=Y->S.get? d=Z n)(VU:∀d n,d≠b.env.locals->d∈b.aa->d∉VW->m.heap.get? d=Z n->h d=Y->∃bF,S.get? d=Z {n with slots:=bF})(free:∀d n,d∉VW->m.heap.get? d=Z n->h d=Y->Q d=Y)(O:∀d n,d∉VW->m.heap.get? d=Z n->∃Vk,S.get? d=Z Vk)(jL:∀d n E,d∉VW->m.heap.get? d=Z n->h d=Z (.tup E)->S.get? d=Z n)(jq:∀d E,h d=Z (.tup E)->Q d=Z (.tup E))(jV:∀d n J,h d=Z (.b6 n J)->Q d=Z (.b6 n J))(gD:∀d,h d=Z .gN->Q d=Z .gN/\(d∉VW->mu m.heap S d))(U8:∀t,m.heap.Ns b.env.locals t->S.Ns b.env.locals t)(aY:d_ b.prog b.w Q S)(P:lS VZ):
  aF b R z Q {m with heap:=S,gens:=VZ,drawn:=VD,toks:=Vd}:=by
 have G:∀d n,b.eI.heap.get? d=Z n->d≠b.env.locals:=λd n c=>cT (d6 (bW c) l.ok.above);have x:∀d n,b.eI.heap.get? d=Z n->d∉b.ex->d∉VW:=λd n c e g=>by
  rcases (A d g).1 with k|k
  ·exact e k
  ·exact absurd (d6 (bW c) k) (gI _)
 have H:∀f o,b.env.cells.lookup f=Z o->∀v,m.heap.IsCell o v->S.IsCell o v:=λf o c v ⟨n,y,hd⟩=>by
  have B:o∉VW:=λk=>(A o k).2.2.1 f o c rfl;by_cases L:o∈b.aa
  ·let⟨@bF,p⟩:=VU o n (l.oO f o c) L B y (l.hF f o c);exact⟨_,p,hd⟩
  ·exact⟨n,keep o n (l.oO f o c) L B y<|l.hF f o c,hd⟩
 refine⟨l.ok,l.os,P,⟨λd n c s g e=>?_,λd n c s g e=>?_,λd n c s e=>?_,λd n E c C e=>jL d n E (x d n c e) (l.base.jL d n E c C e)<|l.base.jq d E C,λd n c e=>?_,λd E c=>jq d E<|l.base.jq d E c,λd n E c=>jV d n E<|l.base.jV d n E c,λd c=>⟨(gD d (l.base.gD d c).1).1,λe U1 p=>((l.base.gD d c).2 e).trans ((gD d (l.base.gD d c).1).2 (x d _ p e)) U1 p⟩⟩,?_,λf o c=>?_,?_,λf o c=>?_,λu M=>?_,aY,l.len⟩
 ·exact keep d n (G d n c) g (x d n c e) (l.base.keep d n c s g e) (l.base.free d n c s e)
 ·let⟨@bF,i⟩:=l.base.slot d n c s g e;let⟨@T,F⟩:=VU d _ (G d n c) g (x d n c e) i (l.base.free d n c s e);exact⟨T,F⟩
 ·let⟨@Vk,i⟩:=l.base.there d n c e;exact free d Vk (x d n c e) i (l.base.free d n c s e)
 ·let⟨@Vk,i⟩:=l.base.there d n c e;exact O d Vk (x d n c e) i
 ·let⟨@t,U,al⟩:=l.loc;refine⟨t,U8 t U,λa f v i F am=>?_⟩;let⟨@J,j,I⟩:=al a f v i F am;refine⟨J,j,?_⟩;rcases I with I|⟨q,o,c,k⟩
  ·exact .inl I
  ·exact .inr ⟨q,o,c,H f o c _ k⟩
 ·let⟨@v,k⟩:=l.cell f o c;exact⟨v,H f o c v k⟩
 ·let⟨@t,⟨n,W,@W,y,W⟩,W⟩:=l.loc;exact free _ n (λk=>(A _ k).2.1 rfl) y l.free
 ·let⟨v,@n,y,hd⟩:=l.cell f o c;exact free o n (λk=>(A o k).2.2.1 f o c rfl) y (l.hF f o c)
 ·let@⟨c,s,ne,N,r⟩:=l.pin u M;have B:u.1∉VW:=λk=>(A u.1 k).2.2.2 u M rfl;exact⟨keep u.1 u.2 ne N B c s,free u.1 u.2 B c s,ne,N,r⟩
def aF.un(l:aF b R z h m)(J:eW b.aa [] h Q m.heap S)(aY:d_ b.prog b.w Q S):aF b R z Q {m with heap:=S,toks:=Vd}:=by
 let⟨@t,⟨n,T,@U9,e,j⟩,W⟩:=id l.loc;let⟨@bF,g⟩:=J.any e l.free ↥0;exact l.step (VZ:=m.gens) (VD:=m.drawn) (VW:=[]) (λ_ k=>nomatch k) (λd n W a W c s=>J.keep d n c s a ↥0) (λd n W a W c s=>J.slot d n c s a ↥0) (λd n W c s=>J.free d n c s ↥0) (λd n W c=>J.there d n c ↥0) (λd n E W c C=>J.jL d n E c C ↥0) J.jq J.jV (λd p=>⟨(J.gD d p).1,λ_=>(J.gD d p).2 ↥0⟩) (λr i=>by
  let⟨Vk,o,@q,f,VA⟩:=i;rw[e]at f;cases f;exact⟨_,o,q,g,VA⟩) aY l.bare
def aF.call(l:aF b R z h m)(J:eW (ib b.stack) VW h Q m.heap S)(aY:d_ b.prog b.w Q S)(q:lS VZ)(g:∀d∈VW,(d∈b.ex\/b.eI.heap.objs.size<=d)/\d≠b.env.locals/\(∀f o,b.env.cells.lookup f=Z o->o≠d)/\∀u∈b.dK++R,u.1≠d):
  aF b R z Q {m with heap:=S,gens:=VZ,drawn:=VD,toks:=Vd}:=by
 let⟨@t,⟨n,T,@U9,i,j⟩,W⟩:=id l.loc;let⟨@bF,e⟩:=J.any i l.free λk=>(g _ k).2.1 rfl;exact l.step (VW:=VW) g (λd n e r a c s=>J.keep d n c s (λk=>(b9.mp<|l.zh d k).elim e r) a) (λd n W W a c s=>J.any c s a) (λd n a c s=>J.free d n c s a) (λd n a c=>J.there d n c a) (λd n E a c C=>J.jL d n E c C a) J.jq J.jV J.gD (λA v=>by
  let⟨Vk,x,@y,p,VA⟩:=v;rw[i]at p;cases p;exact⟨_,x,y,e,VA⟩) aY q
def aF.turned{af:ah}(l:aF b R z h m)(q:∀d n,d≠af->m.heap.get? d=Z n->S.get? d=Z n)(r:h af=Y)(g:af≠b.env.locals)(y:af∈b.ex\/b.eI.heap.objs.size<=af)(B:∀f o,b.env.cells.lookup f=Z o->o≠af)(w:∀u∈b.dK++R,u.1≠af):aF b R z h {m with heap:=S,toks:=Vd}:=by
 have i:∀d J,h d=Z J->d≠af:=λd J c k=>by rw[k,r]at c;cases c
 refine l.step (VZ:=m.gens) (VD:=m.drawn) (VW:=[af]) (λd e=>?_) (λd n W W a c W=>q d n (λk=>a (by simp[k])) c) (λd n W W a c W=>⟨n.slots,q d n (λk=>a (by simp[k])) c⟩) (λ_ W W W s=>s)
  (λd n a c=>⟨n,q d n (λk=>a (by simp[k])) c⟩) (λd n W a c W=>q d n (λk=>a (by simp[k])) c) (λ_ W c=>c) (λ_ W W c=>c) (λd c=>⟨c,λe=>.of λn p=>q d n (λk=>e (by simp[k])) p⟩) (λt x=>?_) (λd J c=>?_) l.bare
 ·have c:d=af:=by simpa using e
  subst c;exact⟨y,g,B,w⟩
 ·let⟨n,T,@U9,A,j⟩:=x;exact⟨n,T,U9,q _ n (Ne.symm g) A,j⟩
 ·refine (l.aY d J c).eF (λo v a p=>q o v ?_ p) (λ_ p=>p) (λ_ W p=>p) λ_ W W p=>p;rcases a with k|k
  ·rw[k];exact i d J c
  ·exact i o _ k
def aF.tok(l:aF b R z h m)(C:Nat):aF b R z h {m with toks:=C}:=l.un (S:=m.heap) (Vd:=C) eW.refl l.aY
def aF.kept(l:aF b R z h m)(q:∀d J,m.heap.get? d=Z J->S.get? d=Z J):aF b R z h {m with heap:=S,toks:=Vd}:=l.un (eW.kept q) (l.aY.kept q)
def aF.laid(l:aF b R z h m)(q:∀d J,m.heap.get? d=Z J->S.get? d=Z J)(a:m.heap.objs.size<=g)(new:d0 b.prog b.w (upd h g n) S g n):
  aF b R z (upd h g n) {m with heap:=S,toks:=Vd}:=l.un (eW.laid q a<|l.aY.fresh a) (l.aY.laid q a new)
def aF.write{f c:ah}(l:aF b R z h m)(a:o2 (h f))(e:c=f\/h c=Z (.own f))(q:∀d J,d≠c->m.heap.get? d=Z J->S.get? d=Z J)(g:∃J,S.get? c=Z J)(new:d0 b.prog b.w (upd h f n) S f n):aF b R z (upd h f n) {m with heap:=S,toks:=Vd}:=l.un (eW.write a e q g) (l.aY.write a e q g new)
def aF.weak{c:List (Option ak)}(l:aF b R z h m)(d:c.length=z.length)(D:∀(a:Nat) v,c[a]?=Z (Z v)->z[a]?=Z (Z v)):aF b R c h m:=
 ⟨l.ok,l.os,l.bare,l.base,let ⟨t,e,g⟩:=l.loc;⟨t,e,λa f v i j k=>g a f v i (D a v j) k⟩,l.cell,l.free,l.hF,l.pin,l.aY,d.trans l.len⟩
def aF.nF{a:List (ah×aX)}(l:aF b R z h m)(e:∀u∈a,m.heap.get? u.1=Z u.2/\h u.1=Y/\u.1≠b.env.locals/\u.1∉b.aa/\∀v,u.2.data≠.cell v):aF b a z h m:=
 ⟨l.ok,l.os,l.bare,l.base,l.loc,l.cell,l.free,l.hF,λu c=>(ed.mp c).elim (λk=>l.pin u<|fl _ k)<|e u,l.aY,l.len⟩
def IM(b:Vb.Nodup){a i:Nat}{f:aC}(g:Vb[a]?=Z f)(d:Vb[i]?=Z f):a=i:=by
 let⟨@y,c⟩:=eV.mp g;let⟨@B,e⟩:=eV.mp d;exact (Dl b).mp (c.trans e.symm)
variable{A:Unit->ai->Prop}
def Gb{ay:fH}(l:aF b R z h m)(a1:b.N.Nodup)(UN:b.N[a]?=Z f)(B:hc b.env.scope f)(j:bY v J)(e:∀UI,aF b R (z.set a<|Z v) h UI->(∃g,aZ.SameBut g m.heap UI.heap/\(g=b.env.locals\/b.env.cells.lookup f=Z g))->A () UI)(bv:b.fn f=X\/b.env.scope.names.lookup f=Z .local:=by first|exact .inl rfl|exact .inr rfl|assumption):wpAny ay O (xo b.env f J) A UH m:=by
 let⟨@t,U,a2⟩:=id l.loc;have ca:(b.env.scope.kind==.class || (b.env.scope.kind==.module&&b.env.locals != b.env.globals))=av:=by rw[l.ok.kind];rfl
 have bd:a<z.length:=by rw[l.len];exact (eV.mp UN).1
 have oO:=l.oO;have be:∀{g:ah}{S:aZ},(∃n,m.heap.get? g=Z n/\h g=Y)->aZ.SameBut g m.heap S->d_ b.prog b.w h S:=λ{g S} cd ar d Vl c=>by
  let⟨@W,W,bi⟩:=cd;refine (l.aY d Vl c).eF (λo P F p=>(ar.2 o ?_).trans p) (λ_ p=>p) (λ_ W p=>p) λ_ W W p=>p;rintro rfl;rcases F with rfl|F
  ·rw[bi]at c;cases c
  ·rw[bi]at F;cases F
 rcases B with I|I
 ·refine wpAny_storeName_local I U (λS ce ar=>?_) ca;let⟨ch,W,@W,ci,W⟩:=id U;refine e _ ⟨l.ok,l.os,l.bare,⟨λd n c s L B=>?_,λd n c s L B=>?_,l.base.free,λd n E c C B=>(ar.2 d<|cT<|d6 (bW c) l.ok.above).trans<|l.base.jL d n E c C B,λd n c B=>?_,l.base.jq,l.base.jV,λd c=>⟨(l.base.gD d c).1,λB=>((l.base.gD d c).2 B).trans (.of λn p=>(ar.2 d λk=>by have y:=(l.base.gD d c).1;rw[k,l.free]at y;cases y).trans p)⟩⟩,⟨_,ce,λi x al y H am=>?_⟩,λx o c=>?_,l.free,l.hF,λu an=>?_,be ⟨ch,ci,l.free⟩ ar,by simpa using l.len⟩ ⟨_,ar,.inl rfl⟩
  ·exact (ar.2 d<|cT<|d6 (bW c) l.ok.above).trans (l.base.keep d n c s L B)
  ·let⟨@bF,y⟩:=l.base.slot d n c s L B;exact⟨bF,(ar.2 d<|cT<|d6 (bW c) l.ok.above).trans y⟩
  ·let⟨@Vk,y⟩:=l.base.there d n c B;exact⟨Vk,(ar.2 d<|cT<|d6 (bW c) l.ok.above).trans y⟩
  ·by_cases M:i=a
   ·subst M;rw[UN]at y;cases y;rw[tU bd]at H;cases H;exact⟨J,j,.inl ⟨I,by simp⟩⟩
   ·rw[ow (Ne.symm M)]at H;let⟨@ap,VA,p⟩:=a2 i x al y H am;refine⟨ap,VA,?_⟩;rcases p with ⟨q,c⟩|⟨q,o,c,k⟩
    ·refine .inl ⟨q,?_⟩;have:x≠f:=λc=>M (IM a1 y<|c ▸ UN);simp[this,c]
    ·exact .inr ⟨q,o,c,k.sameBut ar<|oO x o c⟩
  ·let⟨@P,k⟩:=l.cell x o c;exact⟨P,k.sameBut ar<|oO x o c⟩
  ·let@⟨c,s,ne,as,r⟩:=l.pin u an;exact⟨(ar.2 u.1 ne).trans c,s,ne,as,r⟩
 ·have Q:b.fn f=X:=by
   rcases bv with k|k
   ·exact k
   ·rw[k]at I;cases I
  let⟨@o,F⟩:=l.ok.has f (.inl I);let⟨@P,k⟩:=l.cell f o F;refine wpAny_storeName_cell l.ok.kind I F k (λS bm ar=>?_);let⟨@G,bn,cl⟩:=id k;refine e {m with heap:=S} ⟨l.ok,l.os,l.bare,⟨λd n c s L B=>?_,λd n c s L B=>?_,l.base.free,λd n E c C B=>(ar.2 d<|cT<|d6 (bW c)<|l.ok.n2 f o Q F).trans<|l.base.jL d n E c C B,λd n c B=>?_,l.base.jq,l.base.jV,λd c=>⟨(l.base.gD d c).1,λB=>((l.base.gD d c).2 B).trans (.of λn p=>(ar.2 d λk=>by have y:=(l.base.gD d c).1;rw[k,l.hF f o F]at y;cases y).trans p)⟩⟩,⟨t,U.sameBut ar<|Ne.symm<|oO f o F,λi x al y H am=>?_⟩,λx T c=>?_,l.free,l.hF,λu an=>?_,be ⟨G,bn,l.hF f o F⟩ ar,by simpa using l.len⟩ ⟨o,ar,.inr F⟩
  ·exact (ar.2 d<|cT<|d6 (bW c)<|l.ok.n2 f o Q F).trans (l.base.keep d n c s L B)
  ·let⟨@bF,y⟩:=l.base.slot d n c s L B;exact⟨bF,(ar.2 d<|cT<|d6 (bW c)<|l.ok.n2 f o Q F).trans y⟩
  ·let⟨@Vk,y⟩:=l.base.there d n c B;exact⟨Vk,(ar.2 d<|cT<|d6 (bW c)<|l.ok.n2 f o Q F).trans y⟩
  ·by_cases M:i=a
   ·subst M;rw[UN]at y;cases y;rw[tU bd]at H;cases H;exact⟨J,j,.inr ⟨.inl I,o,F,bm⟩⟩
   ·rw[ow (Ne.symm M)]at H;let⟨@ap,VA,p⟩:=a2 i x al y H am;refine⟨ap,VA,?_⟩;rcases p with p|⟨q,T,c,co⟩
    ·exact .inl p
    ·refine .inr ⟨q,T,c,co.sameBut ar ?_⟩;rintro rfl;exact M (IM a1 y<|l.ok.inj _ _ _ c F ▸ UN)
  ·by_cases bs:T=o
   ·subst bs;exact⟨_,bm⟩
   ·let⟨@cr,cs⟩:=l.cell x T c;exact⟨cr,cs.sameBut ar bs⟩
  ·let@⟨c,s,ne,as,r⟩:=l.pin u an;refine⟨(ar.2 u.1 ?_).trans c,s,ne,as,r⟩;intro p;rw[p,bn]at c;have db:G=u.2:=Option.some.inj c;exact r P (by rw[<-db];exact cl)
def AX{ay:fH}(l:aF b R z h m)(c:b.N.Nodup)(UN:b.N[a]?=Z f)(d:hc b.env.scope f)(j:bY v J)(e:∀UI,aF b R (z.set a<|Z v) h UI->A () UI)(g:b.fn f=X\/b.env.scope.names.lookup f=Z .local:=by first|exact .inl rfl|exact .inr rfl|assumption):wpAny ay O (xo b.env f J) A UH m:=
 Gb l c UN d j (λUI i W=>e UI i) g
def aF.Qj(l:aF b R z h m)(a:UI.os=m.os)(J:eW (ib b.stack) VW h Q m.heap UI.heap)(aY:d_ b.prog b.w Q UI.heap)(e:lS UI.gens)(g:∀d∈VW,(d∈b.ex\/b.eI.heap.objs.size<=d)/\d≠b.env.locals/\(∀f o,b.env.cells.lookup f=Z o->o≠d)/\∀u∈b.dK++R,u.1≠d):aF b R z Q UI:=by
 let⟨S,VZ,VD,Vd,Vk⟩:=UI;have c:Vk=m.os:=a;subst c;exact l.call (VZ:=VZ) (Vd:=Vd) (VD:=VD) J aY e g
end
abbrev fO:=ab->Option ah->ax->Prop
abbrev a7:=List (Option ak)
variable{z:a7}
abbrev cL:=ak->ax->Prop
abbrev cb:=a7->ax->cL->Prop
variable{VV:cb}
abbrev ea:=a7->ax->(Bool->ax->Prop)->Prop
variable{V0:ea}
abbrev eZ:=a7->ax->(List ak->ax->Prop)->Prop
structure oS where
 bz:a7->ax->Prop
 a5:cL
 fg:a7->ax->Prop:=λ_ _=>False
 ct:a7->ax->Prop:=λ_ _=>False
abbrev e4:=oS->a7->ax->Prop
variable{cX:e4}
def ec(b:aO)(R:List (ah×aX))(z:a7)(A:cL)(J:ab)(UI:ai):Prop:=(∃v Q,aF b R z Q UI/\bY v J/\A v Q)
def um(b:aO)(R:List (ah×aX))(z:a7)(A:Bool->ax->Prop)(d:Bool)(UI:ai):Prop:=(∃Q,aF b R z Q UI/\A d Q)
def QQ(b:aO)(R:List (ah×aX))(z:a7)(A:List ak->ax->Prop)(Va:List ab)(UI:ai):Prop:=(∃U Q,aF b R z Q UI/\cp U Va/\A U Q)
def oQ(b:aO)(R:List (ah×aX))(w:oS)(N:Flow)(UI:ai):Prop:=(
 match N with
 |.next=>∃a Q,aF b R a Q UI/\w.bz a Q
 |.brk=>∃a Q,aF b R a Q UI/\w.fg a Q
 |.cont=>∃a Q,aF b R a Q UI/\w.ct a Q
 |.ret J=>∃v a Q,aF b R a Q UI/\bY v J/\w.a5 v Q)
def wW(b:aO)(c:bh)(C:cb)(R:List (ah×aX)):Prop:=(
 ∀(m:ai) (z:a7) (h:ax) (A:cL),aF b R z h m->C z h A->wpAny (aR b.prog b.w) b.A (b7 c b.env) (ec b R z A) b.cF m)
def bD(b:aO)(c:bh)(C:cb):Prop:=(∀R,wW b c C R)
def Ik(b:aO)(c:bh)(C:ea)(R:List (ah×aX)):Prop:=(
 ∀(m:ai) (z:a7) (h:ax) (A:Bool->ax->Prop),aF b R z h m->C z h A->wpAny (aR b.prog b.w) b.A (qe c b.env<|b7 c b.env) (um b R z A) b.cF m)
def hs(b:aO)(c:bh)(C:ea):Prop:=(∀R,Ik b c C R)
def BK(b:aO)(c:bh)(C:ea)(a:dw ab):Prop:=(
 ∀(R:List (ah×aX)) (m:ai) (z:a7) (h:ax) (A:Bool->ax->Prop),aF b R z h m->C z h A->wpAny (aR b.prog b.w) b.A (qe c b.env a) (um b R z A) b.cF m)
def j9(b:aO)(c:bh)(C:ea):Prop:=(∀a,BK b c C a)
def j9.pt{C:ea}(e:j9 b c C):hs b c C:=e _
def El(b:aO)(T:List bh)(C:eZ)(UZ:Pos):Prop:=(
 ∀(R:List (ah×aX)) (m:ai) (z:a7) (h:ax) (A:List ak->ax->Prop),aF b R z h m->C z h A->wpAny (aR b.prog b.w) b.A (spliced<|e5 UZ<|bS T b.env) (QQ b R z A) b.cF m)
def hz(b:aO)(T:List bh)(C:eZ):Prop:=(∀UZ,El b T C UZ)
def Fi(b:aO)(L:cM)(C:e4)(R:List (ah×aX)):Prop:=(
 ∀(m:ai) (z:a7) (h:ax) (w:oS),aF b R z h m->C w z h->wpAny (aR b.prog b.w) b.A (exec L b.env) (oQ b R w) b.cF m)
def hT(b:aO)(L:cM)(C:e4):Prop:=(∀R,Fi b L C R)
def A_(b:aO)(L:List cM)(C:e4)(R:List (ah×aX)):Prop:=(
 ∀(m:ai) (z:a7) (h:ax) (w:oS),aF b R z h m->C w z h->wpAny (aR b.prog b.w) b.A (execs L b.env) (oQ b R w) b.cF m)
def hC(b:aO)(L:List cM)(C:e4):Prop:=(∀R,A_ b L C R)
def bZ{U_:Type}{C:dw U_}{A a:U_->ai->Prop}{ay:fH}(e:wpAny ay O C A UH m)(b:∀g m,A g m->a g m):wpAny ay O C a UH m:=f7 e b λ_ W f=>f
section
variable{b:aO}
def iH(a:Nat):cb:=(λz h A=>∃v,z[a]?=Z (Z v)/\A v h)
def mC(v:ak):cb:=(λ_ h A=>A v h)
def Gu(n:b.N[a]?=Z f)(p:oU b.env.scope f)(hd:(f==("__debug__" : aC))=av:=by decide)(q:(f==("__classdict__" : aC))=av:=by decide):bD b (.Name f UZ) (iH a):=by
 intro R m z h A l e;let⟨@v,c,e⟩:=e;let⟨@t,r,s⟩:=l.loc;let⟨@J,j,I⟩:=s a f v n c p;have g:ec b R z A J m:=⟨v,h,l,j,e⟩;rcases I with ⟨d,u⟩|⟨d,o,i,k⟩
 ·exact Ak (Gz l.ok.kind d r u g) hd
 ·rcases d with d|d
  ·exact Ak (C5 l.ok.kind d i k g) hd
  ·exact Ak (wpAny_loadName_free l.ok.kind d i k g q) hd
def mT{a i UZ}:bD b (.Constant (.int a) i UZ) (mC<|.int a):=λ_ W W h W l e=>wpAny_Constant_int ⟨.int a,h,l.tok _,⟨_,rfl⟩,e⟩
def KQ{d i UZ}:bD b (.Constant (.bool d) i UZ) (mC<|.aE d):=λ_ W W h W l e=>Constant_bool ⟨.aE d,h,l,rfl,e⟩
def Pt{i UZ}:bD b (.Constant .none i UZ) (mC .aS):=λ_ W W h W l e=>Constant_none ⟨.aS,h,l,rfl,e⟩
def Ly{f i UZ}:bD b (.Constant (.str f) i UZ) (mC<|.str f):=λ_ W W h W l e=>Calls.Constant_str ⟨.str f,h,l.tok _,⟨_,rfl⟩,e⟩
def eM(b:aO)(f:aC):Prop:=(b.env.kindOf f=Z .globalImplicit)
def D0(l:aF b R z h m)(a:eM b f)(c:b.aM f=Z J)(e:A J m)(hd:(f==("__debug__" : aC))=av:=by decide):wpAny (aR b.prog b.w) b.A (b7 (.Name f UZ) b.env) A UH m:=
 HS l.ok.kind a (Calls.loadGlobal_global (by rw[l.ok.glob];exact l.mod.glob.keeps l.fg) c e) hd
def m3(l:aF b R z h m)(a:eM b f)(c:b.aM f=Y)(d:e9 f=Z J)(e:A J m)(g:f ≠ "__name__" := by decide)(hd:(f==("__debug__" : aC))=av:=by decide):wpAny (aR b.prog b.w) b.A (b7 (.Name f UZ) b.env) A UH m:=by
 let⟨@i,y,B⟩:=l.mod.blt;exact HS l.ok.kind a (Calls.loadGlobal_builtin (by rw[l.ok.glob];exact l.mod.glob.keeps l.fg) c (by rw[l.ok.blt];exact y.keeps l.fg) ((B f g).trans d) e) hd
def MG(a:eM b f)(c:b.aM f=Z J)(j:bY v J)(hd:(f==("__debug__" : aC))=av:=by decide):bD b (.Name f UZ) (mC v):=
 λ_ W W h W l e=>D0 l a c ⟨v,h,l,j,e⟩ hd
def Oi(a:eM b f)(c:b.aM f=Y)(d:e9 f=Z J)(j:bY v J)(g:f ≠ "__name__" := by decide)(hd:(f==("__debug__" : aC))=av:=by decide):bD b (.Name f UZ) (mC v):=
 λ_ W W h W l e=>m3 l a c d ⟨v,h,l,j,e⟩ g hd
variable{g d:bh}{VC cX:cb}{UZ:Pos}
def aW(C:cb):ea:=(λz h A=>C z h λf UP=>∃o,f=.aE o/\A o UP)
variable{gZ i:ea}{cB:List bh}
def Df(C J:ea):ea:=(λz h A=>C z h λo UP=>if o=X then J z UP A else A av UP)
def FN(C J:ea):ea:=(λz h A=>C z h λo UP=>if o=X then A X UP else J z UP A)
def NN(C:ea):ea:=(λz h A=>C z h λo UP=>A (!o) UP)
def Nt(a:hs b g gZ):j9 b (.BoolOp .And [g] UZ) gZ:=by
 intro d R m z h A l e;refine isTrue_and (bZ (a R m z h A l e) λo f c=>?_);cases o with
 |true=>exact isTrue_and_nil c
 |false=>exact c
def Ro(a:hs b g gZ):j9 b (.BoolOp .Or [g] UZ) gZ:=by
 intro d R m z h A l e;refine isTrue_or (bZ (a R m z h A l e) λo f c=>?_);cases o with
 |false=>exact isTrue_or_nil c
 |true=>exact c
def Mm(f:hs b g gZ)(j:j9 b (.BoolOp .And (d::cB) UZ) i):j9 b (.BoolOp .And (g::d::cB) UZ) (Df gZ i):=by
 intro k R m z h A l e;refine isTrue_and (bZ (f R m z h _ l e) λo n p=>?_);let⟨@UP,a,c⟩:=p;cases o with
 |true=>exact j k R n z UP A a c
 |false=>exact⟨UP,a,c⟩
def Q8(f:hs b g gZ)(j:j9 b (.BoolOp .Or (d::cB) UZ) i):j9 b (.BoolOp .Or (g::d::cB) UZ) (FN gZ i):=by
 intro k R m z h A l e;refine isTrue_or (bZ (f R m z h _ l e) λo n p=>?_);let⟨@UP,a,c⟩:=p;cases o with
 |true=>exact⟨UP,a,c⟩
 |false=>exact j k R n z UP A a c
def KC(a:hs b g gZ):hs b (.UnaryOp .Not g UZ) (NN gZ):=by
 intro R m z h A l e;exact isTrue_not (a R m z h (λo UP=>A (!o) UP) l e)
def KW(VC cX:cb):cb:=(λz h A=>VC z h λf UP=>∃o,f=.aE o/\if o=X then cX z UP A else A (.aE av) UP)
def Ke(VC:cb):cb:=(λz h A=>VC z h λf UP=>∃o,f=.aE o/\A (.aE<|!o) UP)
def OD{Vw}{C:cb}(e:bD b g C):bD b (.BoolOp Vw [g] UZ) C:=λR m z h A l a=>BoolOp_one (e R m z h A l a)
def Pm(i:bD b g VC)(j:bD b (.BoolOp .And (d::cB) UZ) cX):bD b (.BoolOp .And (g::d::cB) UZ) (KW VC cX):=by
 intro R m z h A l e;refine BoolOp_and (bZ (i R m z h _ l e) λv k n=>?_);let⟨f,@UP,c,p,a⟩:=n;let⟨@o,rfl,a⟩:=a;cases p;refine mn ?_;cases o with
 |true=>exact j R k z UP A c a
 |false=>exact⟨.aE av,UP,c,rfl,a⟩
def Nv(c:bD b g VC):bD b (.UnaryOp .Not g UZ) (Ke VC):=by
 intro R m z h A l e;refine UnaryOp_ (bZ (c R m z h _ l e) λv k d=>?_);let⟨f,@UP,i,j,a⟩:=d;let⟨@o,rfl,a⟩:=a;cases j;exact not_of (mn ⟨.aE<|!o,UP,i,rfl,a⟩)
def P9(C:ea)(VC cX:cb):cb:=(λz h A=>C z h λo UP=>if o=X then VC z UP A else cX z UP A)
def LA(i:hs b o gZ)(j:bD b g VC)(k:bD b d cX):bD b (.IfExp o g d UZ) (P9 gZ VC cX):=by
 intro R m z h A l e;refine wpAny_IfExp (bZ (i R m z h _ l e) λr a n=>?_);let⟨@UP,c,f⟩:=n;cases r with
 |true=>exact j R a z UP A c f
 |false=>exact k R a z UP A c f
end
def c9(UK:Φ)(h:ax)(g:ah)(E:List ak):Prop:=(
 jE h g (.lst E)\/
  ∃(n:aX) (UW:Array ab) (s:Nat),UK.lookup g=Z n/\n.cls=.type "list" /\ n.dict=Y/\n.data=.seq UW s/\UW.size<=sizeLine/\cp E UW.toList)
def cC(UK:Φ)(h:ax)(g:ah)(E:List ak):Prop:=(
 jE h g (.tup E)\/
  ∃(n:aX) (UW:Array ab) (s:Nat),UK.lookup g=Z n/\n.cls=.type "tuple" /\ n.data=.seq UW s/\UW.size<=sizeLine/\cp E UW.toList)
def ME:ab->Option ak
 |.none=>Z .aS
 |.bool d=>Z (.aE d)
 |.int a _=>Z (.int a)
 |.str f _=>Z (.str f)
 |.bytes d _=>Z (.r6 d)
 |.float d _=>Z (.A0 d)
 |.ref g=>Z (.ref g)
 |.type s=>Z (.ty s)
 |_=>Y
def bY.abs{f:ak}(j:bY f J):ME J=Z f:=by
 cases f with
 |aS=>cases j;rfl
 |aE _=>cases j;rfl
 |int _=>let⟨@C,rfl⟩:=j;rfl
 |str _=>let⟨@C,rfl⟩:=j;rfl
 |r6 _=>let⟨@C,rfl⟩:=j;rfl
 |A0 _=>let⟨@C,rfl⟩:=j;rfl
 |ref _=>cases j;rfl
 |ty _=>cases j;rfl
def bY.inj{f:ak}(j:bY f J)(p:bY x J):f=x:=Option.some.inj (j.abs.symm.trans p.abs)
theorem cp.inj:∀{E U0:List ak}{Va:List ab},cp E Va->cp U0 Va->E=U0
 |_,_,_,.nil,.nil=>rfl
 |_,_,_,.cons j C,.cons VA Vd=>by rw[j.inj VA,cp.inj C Vd]
section
variable{b:aO}{R:List (ah×aX)}{z:a7}{h:ax}{m:ai}{g:ah}{E U0:List ak}
def c9.of(e:h g=Z (.lst E)):c9 UK h g E:=.inl (.inl e)
def cC.of(e:h g=Z (.tup E)):cC UK h g E:=.inl (.inl e)
def aF.list(l:aF b R z h m)(e:c9 b.K h g E):∃UW:List ab,cp E UW/\PlainL m.heap g UW.toArray/\E.length<=sizeLine:=by
 rcases e with e|⟨n,UW,s,a,d,hd,ar,f,j⟩
 ·let@⟨k,⟨UW,@s,j,c⟩⟩:=e.ok l.aY;exact⟨UW,j,⟨_,s,c,rfl,rfl,rfl⟩,k⟩
 ·refine⟨UW.toList,j,⟨n,s,l.nD g n a,d,hd,by simpa using ar⟩,?_⟩;have c:=j.length;simp only[dk]at c;lia
def aF.tuple(l:aF b R z h m)(e:cC b.K h g E):∃UW:List ab,cp E UW/\rM m.heap g UW.toArray/\E.length<=sizeLine:=by
 rcases e with e|⟨n,UW,s,a,d,ar,f,j⟩
 ·let@⟨k,⟨@UW,j,u⟩⟩:=e.ok l.aY;exact⟨UW,j,u.tup,k⟩
 ·refine⟨UW.toList,j,⟨n,l.nD g n a,d,s,by simpa using ar⟩,?_⟩;have c:=j.length;simp only[dk]at c;lia
def aF.LR(l:aF b R z h m)(e:c9 b.K h g E)(S:c9 b.K h g U0):E=U0:=by
 let⟨@UW,j,⟨n,@s,c,W,W,r⟩,W⟩:=l.list e;let⟨@w,VA,⟨Vk,@d,a,W,W,VD⟩,W⟩:=l.list S;rw[c]at a;cases a;rw[r]at VD;injection VD with Vz _;have:UW=w:=by simpa using congrArg Array.toList Vz
 subst this;exact j.inj VA
def aF.zt(l:aF b R z h m)(e:cC b.K h g E)(S:cC b.K h g U0):E=U0:=by
 let⟨@UW,j,⟨@n,c,W,⟨@s,r⟩⟩,W⟩:=l.tuple e;let⟨@w,VA,⟨@Vk,a,W,⟨@d,VD⟩⟩,W⟩:=l.tuple S;rw[c]at a;cases a;rw[r]at VD;injection VD with Vz _;have:UW=w:=by simpa using congrArg Array.toList Vz
 subst this;exact j.inj VA
end
abbrev aO.ky(b:aO)(UH:ab->ai->Prop):aO:={b with cF:=UH}
abbrev aO.jN(b:aO):aO:=b.ky λ_ _=>False
def aO.Ok.ky(ok:b.Ok)(UH:ab->ai->Prop):(b.ky UH).Ok:=
 ⟨ok.mod,ok.kind,ok.glob,ok.blt,ok.above,ok.inj,ok.has,ok.n2,ok.hd,ok.frames,ok.qQ,ok.Aq,ok.bs,ok.ki,ok.oG,ok.pn,ok.iF,ok.lh⟩
def aO.Ok.mI(ok:(b.ky UH).Ok):b.Ok:=
 ⟨ok.mod,ok.kind,ok.glob,ok.blt,ok.above,ok.inj,ok.has,ok.n2,ok.hd,ok.frames,ok.qQ,ok.Aq,ok.bs,ok.ki,ok.oG,ok.pn,ok.iF,ok.lh⟩
section
variable{b:aO}{R:List (ah×aX)}{z:a7}{h:ax}{m:ai}{UH:ab->ai->Prop}
def aF.ky(l:aF b R z h m)(UH:ab->ai->Prop):aF (b.ky UH) R z h m:=⟨l.ok.ky UH,l.os,l.bare,l.base,l.loc,l.cell,l.free,l.hF,l.pin,l.aY,l.len⟩
def aF.mI(l:aF (b.ky UH) R z h m):aF b R z h m:=⟨l.ok.mI,l.os,l.bare,l.base,l.loc,l.cell,l.free,l.hF,l.pin,l.aY,l.len⟩
def oQ.mI{w:oS}{N:Flow}(e:oQ (b.ky UH) R w N UI):oQ b R w N UI:=by
 cases N with
 |next=>let⟨a,@Q,l,p⟩:=e;exact⟨a,Q,l.mI,p⟩
 |brk=>let⟨a,@Q,l,p⟩:=e;exact⟨a,Q,l.mI,p⟩
 |cont=>let⟨a,@Q,l,p⟩:=e;exact⟨a,Q,l.mI,p⟩
 |ret J=>let⟨v,a,@Q,l,j,p⟩:=e;exact⟨v,a,Q,l.mI,j,p⟩
def hC.jN{L:List cM}{C:e4}(e:hC b.jN L C):hC b L C:=λR m z h w l a=>
 f7 (e R m z h w (l.ky _) a) (λ_ W p=>p.mI) λ_ W k=>False.elim k
end
section
variable{b:aO}{L:cM}{cB:List cM}{C J:e4}{c:bh}{VV:cb}{UZ:Pos}
def So:e4:=(λw z h=>w.bz z h)
def Gy(C J:e4):e4:=(λw z h=>C {w with bz:=J w} z h)
def Ko:hC b [] So:=λ_ W z h W l e=>t2 ⟨z,h,l,e⟩
def L_(y:hT b L C)(B:hC b cB J):hC b (L::cB) (Gy C J):=by
 intro R m z h w l e;refine Ey (bZ (y R m z h {w with bz:=J w} l e) λN a p=>?_);cases N with
 |next=>
  let⟨c,@Q,d,p⟩:=p;exact B R a c Q w d p
 |ret v=>exact p
 |brk=>exact p
 |cont=>exact p
def Na(y:hT b L C):hC b [L] C:=by
 intro R m z h w l e;refine Ey (bZ (y R m z h w l e) λN a p=>?_);cases N with
 |next=>exact t2 p
 |ret v=>exact p
 |brk=>exact p
 |cont=>exact p
def aF.quiet(l:aF b R z h m):interactive b.env=av:=by simp[interactive,l.ok.kind]
def Nz(VV:cb):e4:=(λw z h=>VV z h λ_ UP=>w.bz z UP)
def Kc(a:bD b c VV)(ar:oj c Y UZ.line b.env=pure av:=by rfl):hT b (.Expr c UZ) (Nz VV):=by
 intro R m z h w l e;exact wpAny_Expr_any (bZ (a R m z h _ l e) λv i ⟨f,UP,d,j,g⟩=>⟨z,UP,d,g⟩) l.quiet ar
def QG(VV:cb):e4:=(λw z h=>VV z h w.a5)
def OH(a:bD b c VV):hT b (.Return (Z c) UZ) (QG VV):=by
 intro R m z h w l e;exact wpAny_Return_some (bZ (a R m z h _ l e) λv j ⟨f,UP,d,g,i⟩=>⟨f,z,UP,d,g,i⟩)
def Sz(o:ea)(C J:e4):e4:=(λw z h=>o z h λd UP=>if d=X then C w z UP else J w z UP)
def QR{g d:List cM}(i:hs b o V0)(j:hC b g C)(k:hC b d J):hT b (.If o g d UZ) (Sz V0 C J):=by
 intro R m z h w l e;refine wpAny_If (bZ (i R m z h _ l e) λr a n=>?_);let⟨@UP,c,f⟩:=n;cases r with
 |true=>exact j R a z UP w c f
 |false=>exact k R a z UP w c f
end
abbrev gY:=ak->a7->ax->(a7->ax->Prop)->Prop
abbrev kP:=List ak->a7->ax->(a7->ax->Prop)->Prop
def HM(b:aO)(c:bh)(C:gY)(R:List (ah×aX)):Prop:=(
 ∀(m:ai) (z:a7) (h:ax) (v:ak) (J:ab) (A:a7->ax->Prop),aF b R z h m->bY v J->C v z h A->
  wpAny (aR b.prog b.w) b.A (hr c b.env J) (λ_ UI=>∃a Q,aF b R a Q UI/\A a Q) b.cF m)
def jI(b:aO)(a:bh)(C:gY):Prop:=(∀R,HM b a C R)
def Bo(b:aO)(c:List bh)(C:kP)(R:List (ah×aX)):Prop:=(
 ∀(m:ai) (z:a7) (h:ax) (U:List ak) (Va:List ab) (A:a7->ax->Prop),aF b R z h m->cp U Va->C U z h A->
  wpAny (aR b.prog b.w) b.A (assignInOrder ((fm c b.env).map (·.2)) Va) (λ_ UI=>∃a Q,aF b R a Q UI/\A a Q) b.cF m)
def oK(b:aO)(a:List bh)(C:kP):Prop:=(∀R,Bo b a C R)
abbrev xH:=ak->ak->ak->ax->(ax->Prop)->Prop
def yt(b:aO)(C:xH):Prop:=(
 ∀(R:List (ah×aX)) (m:ai) (z:a7) (h:ax) (n a v:ak) (c d J:ab) (A:ax->Prop),aF b R z h m->bY n c->bY a d->bY v J->C n a v h A->
  wpAny (aR b.prog b.w) b.A (tI c d J) (λ_ UI=>∃Q,aF b R z Q UI/\A Q) b.cF m)
abbrev vW:=ak->ak->ax->cL->Prop
def yv(b:aO)(Vw:qg)(C:vW):Prop:=(
 ∀(R:List (ah×aX)) (m:ai) (z:a7) (h:ax) (f x:ak) (v J:ab) (A:cL),aF b R z h m->bY f v->bY x J->C f x h A->
  wpAny (aR b.prog b.w) b.A (inplaceOp Vw v J) (ec b R z A) b.cF m)
section
variable{b:aO}{UZ:Pos}
def y3(a:Nat):gY:=(λv z h A=>A (z.set a<|Z v) h)
def x7(c:b.N.Nodup)(UN:b.N[a]?=Z f)(d:hc b.env.scope f)(g:b.fn f=X\/b.env.scope.names.lookup f=Z .local:=by first|exact .inl rfl|exact .inr rfl|assumption):jI b (.Name f UZ) (y3 a):=by
 intro R m z h v J A l j e;exact Eb (AX l c UN d j (λUI i=>⟨_,h,i,e⟩) g)
def Ou:kP:=(λU z h A=>U=[]/\A z h)
def Rt(C:gY)(J:kP):kP:=(λU z h A=>∃v j,U=v::j/\C v z h λa Q=>J j a Q A)
def CW:oK b [] Ou:=by
 intro R m z h U Va A l j e;let@⟨c,e⟩:=e;subst c;cases j;exact assignInOrder_nil ⟨z,h,l,e⟩
def z6{C:gY}{J:kP}(y:jI b c C)(B:oK b T J)(ar:(fm (c::T) b.env).map (·.2)=hr c b.env::(fm T b.env).map (·.2):=by rfl):oK b (c::T) (Rt C J):=by
 intro R m z h U Va A l j e;let⟨v,@n,a,e⟩:=e;subst a;cases j with
 |cons j d=>
  rw[ar];refine assignInOrder_cons (bZ (y R m z h _ _ _ l j e) λ_ f g=>?_);let⟨Wb,@UP,i,k⟩:=g;exact B R f Wb UP _ _ A i d k
def JJ(UK:Φ)(s:Nat)(C:kP):gY:=(λv z h A=>∃g E,v=.ref g/\cC UK h g E/\E.length=s/\C E z h A)
def Kz{C:kP}(i:b.calm=X)(e:oK b T C)(k:(fm T b.env).length=s:=by rfl)(o:(fm T b.env).findIdx? (·.1)=Y:=by rfl):jI b (.Tuple T q UZ) (JJ b.K s C):=by
 intro R m z h v J A l j a;let⟨g,@E,p,r,t,a⟩:=a;subst p;cases j;let⟨@UW,f,bP,x⟩:=l.tuple r;refine DI (l.ok.hd i) bP (by simp[k,<-t,f.length]) o λS u=>?_;have w:aF b R z h {m with heap:=S}:=l.kept (Vd:=m.toks) λd n c=>u d n (cT<|bW c) c;exact e R _ z h E _ A w ⇑f a
def Pn(t b:cb)(C:xH):gY:=(λv z h A=>t z h λn UP=>b z UP λa U6=>C n a v U6 λc=>A z c)
def Tv{n a:bh}{t i:cb}{C:xH}(k:bD b n t)(UN:bD b a i)(ar:yt b C)(o:∀v,hr (.Subscript n a UZ) b.env v=(do
   let c <-holding [v] (b7 n b.env)
   let d <-holding [v,c] (b7 a b.env)
   standAt UZ
   holding [v,c,d] (tI c d v)
   release [v,c,d] []):=by intro W;rfl):jI b (.Subscript n a UZ) (Pn t i C):=by
 intro R m z h v J A l j e;rw[o];refine ao (gP<|bZ (k R m z h _ l e) λc p g=>?_);let⟨f,@UP,q,r,s⟩:=g;refine ao (gP<|bZ (UN R p z UP _ q s) λd u g=>?_);let⟨x,@U6,w,y,B⟩:=g;refine ao (wd<|ao<|gP<|bZ (ar R u z U6 f x v c d J _ w r y j B) λ_ G g=>?_);let⟨@D,E,F⟩:=g;exact wpAny_release ⟨z,D,E,F⟩
def Az(VV:cb)(F:gY):e4:=(λw z h=>VV z h λf UP=>F f z UP w.bz)
def MI{F:gY}(a:bD b c VV)(d:jI b Ve F)(ar:u2 [Ve] c UZ.line b.env=pure av:=by rfl)(g:tT [Ve] c b.env=pure Y:=by rfl)(y:(fm [Ve] b.env).map (·.2)=[hr Ve b.env]:=by rfl):hT b (.Assign [Ve] c UZ) (Az VV F):=by
 intro R m z h w l e;refine BB (bZ (a R m z h _ l e) λv i ⟨f,UP,j,k,n⟩=>?_) ar g;rw[y];exact bZ (d R i z UP f v _ j k n) λ_ o p=>p
def RP(d:b.N.Nodup)(UN:b.N[a]?=Z f)(g:hc b.env.scope f)(i:bD b c VV)(ar:oj c (Z<|.Name f V5) UZ.line b.env=pure av:=by rfl)(j:b.fn f=X\/b.env.scope.names.lookup f=Z .local:=by first|exact .inl rfl|exact .inr rfl|assumption):
  hT b (.Assign [.Name f V5] c UZ) (Az VV<|y3 a):=by
 intro R m z h w l e;refine wpAny_Assign_Name (bZ (i R m z h _ l e) λv q ⟨x,UP,k,n,o⟩=>?_) ar;exact AX k d UN g n (λr p=>⟨_,UP,p,o⟩) j
def QI(a i:Nat)(VC:eZ):e4:=(λw z h=>VC z h λU UP=>∃v D,U=[v,D]/\w.bz ((z.set a<|Z v).set i<|Z D) UP)
def Kd(a:Nat)(VV:cb)(b:vW):e4:=(λw z h=>∃f,z[a]?=Z (Z f)/\VV z h λx UP=>b f x UP λk U6=>w.bz (z.set a<|Z k) U6)
def QY{Vw:qg}{n:vW}(p:b.N.Nodup)(UN:b.N[a]?=Z f)(g:hc b.env.scope f)(r:bD b c VV)(s:yv b Vw n)(u:b.fn f=X\/b.env.scope.names.lookup f=Z .local:=by first|exact .inl rfl|exact .inr rfl|assumption):
  hT b (.AugAssign (.Name f V5) Vw c UZ) (Kd a VV n):=by
 intro R m z h w l e;let⟨@v,y,e⟩:=e;let⟨@t,B,C⟩:=l.loc;have E:oU b.env.scope f:=by rcases g with q|q;exact .inl q;exact .inr (.inl q)
 let⟨@J,j,I⟩:=C a f v UN y E;refine wpAny_AugAssign_Name ?_;have go:wpAny (aR b.prog b.w) b.A (b7 c b.env) (λD F=>wpAny (aR b.prog b.w) b.A (inplaceOp Vw J D) (λj G=>wpAny (aR b.prog b.w) b.A (xo b.env f j) (λ_=>oQ b R w .next) b.cF G) b.cF F) b.cF m:=by
  refine bZ (r R m z h _ l e) λD H i=>?_;let⟨x,@UP,L,M,P⟩:=i;refine bZ (s R H z UP v x J D _ L j M P) λk ap i=>?_;let⟨as,@U6,Q,S,T⟩:=i;exact AX Q p UN g S (λa1 U=>⟨_,U6,U,T⟩) u
 rcases I with ⟨d,al⟩|⟨d,o,am,an⟩
 ·exact Gz l.ok.kind d B al go
 ·rcases d with d|d
  ·exact C5 l.ok.kind d am an go
  ·rcases g with q|q
   ·have:b.env.scope.names.lookup f=Z .free:=d;rw[q]at this;cases this
   ·have:b.env.scope.names.lookup f=Z .free:=d;rw[q]at this;cases this
def Ia(N:Int->Int->Int):vW:=(λf x h A=>∃a i,f=.int a/\x=.int i/\A (.int<|N a i) h)
def L5:yv b .Add (Ia λa i=>a+i):=by
 intro R m z h f x v J A l c d e;let⟨a,@i,g,j,p⟩:=e;subst g;subst j;let⟨@C,rfl⟩:=c;let⟨@Vd,rfl⟩:=d;exact iadd_int ⟨.int _,h,l.tok _,⟨_,rfl⟩,p⟩
def OE(o:ea)(cX:e4):e4:=(λw z h=>∃W:Nat->a7->ax->Prop,(∃t,W t z h)/\∀t z h,W t z h->
 o z h λd UP=>if d=X then ∃Vb:a7->ax->Prop,(∀a Q,Vb a Q->∃b,b<t/\W b a Q)/\cX {w with bz:=Vb,ct:=Vb,fg:=w.bz} z UP else w.bz z UP)
def S5(q:sy (aR b.prog b.w) b.A b.env b.cF)(x:hs b o V0)(y:hC b VY cX):hT b (.While o VY [] UZ) (OE V0 cX):=by
 intro R m z h w l e;let⟨@W,⟨@B,C⟩,turn⟩:=e;refine wpAny_While (codeAny_whileLoop (λs UI=>∃r Q,aF b R r Q UI/\W s r Q) ?_ B ⟨z,h,l,C⟩);rintro s E ⟨Wb,UP,F,G⟩;refine nT q (bZ (x R E Wb UP _ F<|turn s Wb UP G) λd H I=>?_);let⟨@U6,t,f⟩:=I;cases d with
 |true=>
  let⟨@Vb,u,f⟩:=f;rw[aK rfl];refine nT q (bZ (y R H Wb U6 _ t f) λN J g=>?_);cases N with
  |next=>
   let⟨a,@c,i,j⟩:=g;let⟨@k,n,p⟩:=u a c j;exact⟨k,n,a,c,i,p⟩
  |cont=>
   let⟨a,@c,i,j⟩:=g;let⟨@k,n,p⟩:=u a c j;exact⟨k,n,a,c,i,p⟩
  |brk=>exact g
  |ret v=>exact g
 |false=>
  rw[aL cU];exact t2 ⟨Wb,U6,t,f⟩
end
structure ig where
 go:Nat->ax->Prop
 rP:Nat->ax->ak->ax->Prop
 stop:Nat->ax->Prop
def jJ(b:aO)(R:List (ah×aX))(h:ax)(d:ah):Prop:=(
 h d=Y/\d≠b.env.locals/\d∉b.aa/\(d∈b.ex\/b.eI.heap.objs.size<=d)/\(∀f o,b.env.cells.lookup f=Z o->o≠d)/\∀u∈b.dK++R,u.1≠d)
def aF.qc(l:aF b R z h m)(a:m.heap.objs.size<=d)(e:Q d=Y):jJ b R Q d:=by
 refine⟨e,hi<|d6 l.lt a,l.Lf a,.inr<|df l.gy a,λf o c k=>?_,λu g k=>?_⟩
 ·let⟨@v,p⟩:=l.cell f o c;exact absurd (d6 p.lt (by rw[k];exact a)) (gI _)
 ·exact absurd (d6 (bW (l.pin u g).1) (by rw[k];exact a)) (gI _)
structure oF(UT:bC)(D:bc)(UK:Φ)(Ve:bh)(VP:ig)(cc:List ah)(af:ah)(i:Nat->aZ->Prop):Prop where
 mem:af∈cc
 obj:∀a e,i a e->∀d∈cc,∃n,e.get? d=Z n/\∀v,n.data≠.cell v
 keep:∀a e S,i a e->(∀d∈cc,∀n,e.get? d=Z n->S.get? d=Z n)->i a S
 item:∀(b:aO),b.prog=UT->b.w=D->b.K=UK->b.calm=X->∀(a:Nat) (R:List (ah×aX)) (m:ai) (z:a7) (h:ax) (UH:ab->ai->Prop),aF b R z h m->(∀d∈cc,jJ b R h d)->i a m.heap->VP.go a h->
  wpAny (aR UT D) b.A (fb<|.ref af) (λj s1=>∃J,j=Z J/\
   wpAny (aR UT D) b.A (sq Ve (.ref af) J) (λ_ s2=>∃f Q,aF b R z Q s2/\bY f J/\VP.rP a h f Q/\i (a+1) s2.heap/\∀d∈cc,Q d=Y) UH s1) UH m
 done:∀(b:aO),b.prog=UT->b.w=D->b.K=UK->b.calm=X->∀(a:Nat) (R:List (ah×aX)) (m:ai) (z:a7) (h:ax) (UH:ab->ai->Prop),aF b R z h m->(∀d∈cc,jJ b R h d)->i a m.heap->VP.stop a h->
  wpAny (aR UT D) b.A (fb<|.ref af) (λj s1=>j=Y/\aF b R z h s1) UH m
 self:∀(O:bw) (a:Nat) (m:ai) (A:ab->ai->Prop) (UH:ab->ai->Prop),i a m.heap->A (.ref af) m->wpAny (aR UT D) O (mZ<|.ref af) A UH m
abbrev c1:=a7->ax->(ig->ax->Prop)->Prop
def Cw(b:aO)(R:List (ah×aX))(z:a7)(Ve:bh)(UG:ig->ax->Prop)(c:ab)(a:ai):Prop:=(
 ∃(af:ah) (cc:List ah) (i:Nat->aZ->Prop) (VP:ig) (Q:ax),c=.ref af/\aF b R z Q a/\oF b.prog b.w b.K Ve VP cc af i/\i 0 a.heap/\(∀d∈cc,jJ b R Q d)/\UG VP Q)
def Gp(b:aO)(Ve VQ:bh)(Wa:c1)(R:List (ah×aX)):Prop:=(
 ∀(m:ai) (z:a7) (h:ax) (UG:ig->ax->Prop),aF b R z h m->Wa z h UG->
  wpAny (aR b.prog b.w) b.A (b7 VQ b.env) (λv a=>wpAny (aR b.prog b.w) b.A (mZ v) (Cw b R z Ve UG) b.cF a) b.cF m)
def jb(b:aO)(Ve VQ:bh)(Wa:c1):Prop:=(∀R,Gp b Ve VQ Wa R)
def vg{ay:fH}{UH:ab -> ai -> Prop}{af:ah}{n:aX}{s:String}{U:Array ab}{A:Unit -> ai -> Prop}(b:m.heap.get? af=Z n)(c:n.cls=.type s)(hd:n.data=.fields U)(d:["enumerate", "zip", "dict_itemiterator", "dict_reverseitemiterator", "odict_iterator", "itertools.zip_longest", "itertools.pairwise"].contains s=av)(a:A () m): wpAny ay O (sq Ve (.ref af) J) A UH m:=by
  unfold sq;cases Ve <;> first
    | exact aQ a
    | (cases J <;> first
        | exact aQ a
        | (refine ao (xt b ?_)
           rw [c,hd];show wpAny ay O (if (["enumerate", "zip", "dict_itemiterator", "dict_reverseitemiterator", "odict_iterator", "itertools.zip_longest", "itertools.pairwise"].contains s&&U[0]? == Z (cP _))=X then _ else _) A UH m;rw [aL (by intro e; rw [d,Bool.false_and]at e; cases e)];exact aQ a))
def rS(UK:Φ)(g:ah):ig:=(
 ⟨λa h=>∃E f,c9 UK h g E/\E[a]?=Z f,λa h f Q=>Q=h/\∀E,c9 UK h g E->E[a]?=Z f,λa h=>∃E,c9 UK h g E/\E.length<=a⟩)
def tS(UK:Φ)(g:ah):ig:=(
 ⟨λa h=>∃E f,cC UK h g E/\E[a]?=Z f,λa h f Q=>Q=h/\∀E,cC UK h g E->E[a]?=Z f,λa h=>∃E,cC UK h g E/\E.length<=a⟩)
def t6(UJ:Int)(s:Nat):ig:=(⟨λa W=>a<s,λa h f Q=>Q=h/\f=.int (UJ+a),λa W=>s<=a⟩)
theorem N5(g af:ah):oF UT D UK Ve (rS UK g) [af] af (λa e=>e.IsListIter af g a) where
 mem:=by simp
 obj:=λa e L d i=>by
  have c:d=af:=by simpa using i
  subst c;let⟨@n,c,o,r⟩:=L;exact⟨n,c,λv k=>by rw[r]at k;cases k⟩
 keep:=λa e S L q=>L.at λn c=>q af ↥0 n c
 item:=by
  intro b s t w H a R m z h UH l j L x;subst s t w;let⟨E,@f,p,y⟩:=x;let⟨@UW,A,u,M⟩:=l.list p;let⟨@J,N,O⟩:=A.get y;let@⟨VS,B,P,C,F,G⟩:=j af ↥0;refine wpAny_pyNext_list_item L u.isList (x:=J) ⇑N λS I cz=>?_;have Q:aF b R z h {m with heap:=S}:=l.turned (Vd:=m.toks) (λd n i c=>(cz.2 d i).trans c) VS B C F G;let⟨@n,c,o,r⟩:=id I;exact⟨J,rfl,vg (m:={m with heap:=S}) c o r ∅ ⟨f,h,Q,O,⟨rfl,λU0 T=>by rw[l.LR T p];exact y⟩,I,λd i=>(j d i).1⟩⟩
 done:=by
  intro b s t w H a R m z h UH l j L x;subst s t w;let⟨@E,p,y⟩:=x;let⟨@UW,A,u,M⟩:=l.list p;let@⟨VS,B,P,C,F,G⟩:=j af ↥0;have al:=A.length;exact wpAny_pyNext_list_end (l.ok.hd H) L u.isList (by simp;lia) λS U=>⟨rfl,l.turned (Vd:=m.toks) (λd n i c=>U d n i c) VS B C F G⟩
 self:=λ_ W W W W L e=>wpAny_pyIter_listiter L e
theorem NI(g af:ah):oF UT D UK Ve (tS UK g) [af] af (λa e=>e.IsTupleIter af g a) where
 mem:=by simp
 obj:=λa e L d i=>by
  have c:d=af:=by simpa using i
  subst c;let⟨@n,c,o,r⟩:=L;exact⟨n,c,λv k=>by rw[r]at k;cases k⟩
 keep:=λa e S L q=>L.at λn c=>q af ↥0 n c
 item:=by
  intro b s t w H a R m z h UH l j L x;subst s t w;let⟨E,@f,p,y⟩:=x;let⟨@UW,A,u,M⟩:=l.tuple p;let⟨@J,N,O⟩:=A.get y;let@⟨VS,B,P,C,F,G⟩:=j af ↥0;refine wpAny_pyNext_tuple_item L (show m.heap.IsTuple g UW.toArray from u) (x:=J) ⇑N λS I cz=>?_;have Q:aF b R z h {m with heap:=S}:=l.turned (Vd:=m.toks) (λd n i c=>(cz.2 d i).trans c) VS B C F G;let⟨@n,c,o,r⟩:=id I;exact⟨J,rfl,vg (m:={m with heap:=S}) c o r ∅ ⟨f,h,Q,O,⟨rfl,λU0 T=>by rw[l.zt T p];exact y⟩,I,λd i=>(j d i).1⟩⟩
 done:=by
  intro b s t w H a R m z h UH l j L x;subst s t w;let⟨@E,p,y⟩:=x;let⟨@UW,A,u,M⟩:=l.tuple p;let@⟨VS,B,P,C,F,G⟩:=j af ↥0;have al:=A.length;exact wpAny_pyNext_tuple_end (l.ok.hd H) L (show m.heap.IsTuple g UW.toArray from u) (by simp;lia) λS U=>⟨rfl,l.turned (Vd:=m.toks) (λd n i c=>U d n i c) VS B C F G⟩
 self:=λ_ W W W W L e=>wpAny_pyIter_tupleiter L e
theorem OI(af:ah)(UJ:Int)(s:Nat):oF UT D UK Ve (t6 UJ s) [af] af (λa e=>IsRangeIter e af (UJ+(a:Nat)*1) ((s:Int)-(a:Nat)) 1) where
 mem:=by simp
 obj:=λa e L d f=>by
  have c:d=af:=by simpa using f
  subst c;exact⟨_,L,λv k=>by
   have B:Data.fields _=Data.cell v:=k;cases B⟩
 keep:=λa e S L q=>q af ↥0 _ L
 item:=by
  intro b i j o p a R m z h UH l g L r;subst i j o;let@⟨VS,t,E,u,x,y⟩:=g af ↥0;have W:=kU.range (prog:=b.prog) (w:=b.w) (l.ok.hd p) af UJ 1 s;refine W.item a m _ _ r L λv S Vq F A G=>?_;let⟨@C,rfl⟩:=F;have H:aF b R z h {m with heap:=S,toks:=Vq}:=l.turned (λd n f c=>G d n ⇑f c) VS t u x y;refine⟨_,rfl,vg (m:={m with heap:=S,toks:=Vq}) (s := "range_iterator") A rfl rfl ∅ ⟨.int<|UJ+a,h,H,⟨C,?_⟩,⟨rfl,rfl⟩,A,λd f=>(g d f).1⟩⟩;rw[Cu]
 done:=by
  intro b i j o p a R m z h UH l g L r;subst i j o;let@⟨VS,t,E,u,x,y⟩:=g af ↥0;exact wpAny_pyNext_range_end (l.ok.hd p) L (by have:s<=a:=r;lia) λS I=>⟨rfl,l.turned (Vd:=m.toks) (λd n f c=>I d n f c) VS t u x y⟩
 self:=λ_ U U U U L e=>wpAny_pyIter_rangeiter L e
section
variable{b:aO}{Ve:bh}
def Lv{UG:ig->ax->Prop}{UJ UN:Int}{C J v:iz}{Vq:Nat}(l:aF b R z h m)(y : -(2^62)<=UJ)(B:UJ<2^62)(e : -(2^62)<=UN)(f:UN<2^62)(p:UG (t6 UJ (UN-UJ).toNat) h):wpAny (aR b.prog b.w) b.A (mZ<|.ref m.heap.objs.size) (Cw b R z Ve UG) UH {m with heap:=m.heap.push {cls:=.type "range",data:=.fields #[.int UJ C,.int UN J,.int 1 v]},toks:=Vq}:=by
 refine wpAny_pyIter_range (IsRange.new ..) (small_one y B e f) ?_;have a:aF b R z h {m with heap:=m.heap.push {cls:=.type "range",data:=.fields #[.int UJ C,.int UN J,.int 1 v]},toks:=Vq}:=l.kept λd n c=>bT _ c;refine⟨(m.heap.push {cls:=.type "range",data:=.fields #[.int UJ C,.int UN J,.int 1 v]}).objs.size,[(m.heap.push {cls:=.type "range",data:=.fields #[.int UJ C,.int UN J,.int 1 v]}).objs.size],_,_,h,rfl,
  a.kept (Vd:=Vq) λd n c=>bT _ c,OI _ UJ (UN-UJ).toNat,?_,λd g=>?_,p⟩
 ·have i:UJ+((0:Nat):Int)*1=UJ:=by simp
  have j:(((UN-UJ).toNat:Nat):Int)-((0:Nat):Int)=br.Range.rangeSize UJ UN 1:=by rw[rangeSize_one];split<;>lia
  show IsRangeIter _ _ (UJ+((0:Nat):Int)*1) ((((UN-UJ).toNat:Nat):Int)-((0:Nat):Int)) 1;rw[i,j];exact cR _ rfl
 ·have c:d=(m.heap.push {cls:=.type "range",data:=.fields #[.int UJ C,.int UN J,.int 1 v]}).objs.size:=by simpa using g
  subst c;exact a.qc (bb _) (a.aY.fresh<|bb _)
def K1(VC:eZ):c1:=(λz h UG=>VC z h λU UP=>∃i:Int,U=[.int i] /\ -(2^62)<=i/\i<2^62/\UG (t6 0 i.toNat) UP)
def Rr{g:bh}{VC:eZ}{u:Pos}(d:eM b "range")(f:b.aM "range" = Y)(k:hz b [g] VC)(ar:bS [g] b.env=[(av,b7 g b.env)]:=by rfl):jb b Ve (.Call (.Name "range" u) [g] [] UZ) (K1 VC):=by
 intro R m z h UG l e;refine Call_ (m3 l d f boot_range<|uA (bZ (k UZ R m z h _ l e) λVa s ⟨U,UP,n,o,a⟩=>?_) ar rfl);let⟨@i,c,a,q,p⟩:=a;subst c;cases o with
 |cons j r=>
  cases r;let⟨@C,rfl⟩:=j;exact call_range_1 (Lv n ⋯ ⋯ a q ⇑p)
def G4(Wa:c1)(F:gY)(cX:e4):e4:=(λw z h=>Wa z h λVP UP=>∃W:Nat->Nat->a7->ax->Prop,(∃t,W 0 t z UP)/\∀a t z h,W a t z h->
 (VP.stop a h/\w.bz z h)\/(VP.go a h/\∃Vb:a7->ax->Prop,(∀b Q,Vb b Q->∃c,c<t/\W (a+1) c b Q)/\∀f Q,VP.rP a h f Q->F f z Q λd U6=>cX {w with bz:=Vb,ct:=Vb,fg:=w.bz} d U6))
def mX(cc:List ah)(e:aZ):List (ah×aX):=(cc.filterMap λd=>(e.get? d).map λn=>(d,n))
def tM{n:aX}(a:d∈cc)(c:e.get? d=Z n):(d,n)∈mX cc e:=qp.mpr ⟨d,a,by rw[c];rfl⟩
def BU{u:ah×aX}(a:u∈mX cc e):u.1∈cc/\e.get? u.1=Z u.2:=by
 let⟨@d,b,c⟩:=qp.mp a;cases p:e.get? d with
 |none=>rw[p]at c;cases c
 |some n=>
  rw[p]at c;have f:(d,n)=u:=Option.some.inj c;subst f;exact⟨b,p⟩
def aF.pinned(l:aF b R z h m)(f:∀d∈cc,jJ b R h d)(g:∀d∈cc,∃n,m.heap.get? d=Z n/\∀v,n.data≠.cell v):aF b (R++mX cc m.heap) z h m:=
 l.nF λu i=>(ed.mp i).elim (λk=>l.pin u<|dT _ k) λk=>by
  let@⟨a,c⟩:=BU k;let@⟨VS,j,o,_⟩:=f u.1 a;let⟨@n,e,r⟩:=g u.1 a;rw[c]at e;cases e;exact⟨c,VS,j,o,r⟩
def aF.uu{bQ:List (ah×aX)}(l:aF b (R++bQ) z h m):aF b R z h m:=l.nF λu a=>l.pin u (dT _<|fl _ a)
def MK{VQ:bh}{Wa:c1}{F:gY}(x:sy (aR b.prog b.w) b.A b.env b.cF)(P:b.calm=X)(UN:jb b Ve VQ Wa)(as:jI b Ve F)(g:hC b VY cX)(ar:∀f,mW VQ b.env f=pure f:=by intro O;rfl):hT b (.For Ve VQ VY [] UZ) (G4 Wa F cX):=by
 intro R m z h w l e;refine wpAny_For (bZ (UN R m z h _ l e) λv fr y=>bZ y λf0 f1 B=>?_) ar;let⟨af,cc,i,VP,@U6,c,a1,UO,a2,S,⟨@W,⟨@bd,be⟩,turn⟩⟩:=B;subst c;have I:∀{Q:ax},(∀d∈cc,Q d=Y)->∀d∈cc,jJ b R Q d:=λbi d g=>⟨bi d g,(S d g).2⟩;refine codeAny_forLoop_any (λs UI=>∃a C Q,aF b R C Q UI/\i a UI.heap/\(∀d∈cc,Q d=Y)/\W a s C Q) ?_ bd ⟨0,z,U6,a1,a2,λd g=>(S d g).1,be⟩;rintro s T ⟨a,E,H,U,al,am,bm⟩;rcases turn a s E H bm with ⟨stop,bn⟩|⟨go,Vb,bs,step⟩
 ·refine nT x (bZ (UO.done b rfl rfl rfl P a R T E H b.cF U (I am) al stop) λj bv u=>?_);let@⟨UQ,ca⟩:=u;subst UQ;exact t2 ⟨E,H,ca,bn⟩
 ·refine nT x (bZ (UO.item b rfl rfl rfl P a R T E H b.cF U (I am) al go) λj bv u=>?_);let⟨@J,UQ,cd⟩:=u;subst UQ;refine nT x (bZ cd λ_ an u=>?_);let⟨f,@ap,ce,ch,ci,L,cl⟩:=u;have co:=ce.pinned (I cl) (UO.obj _ _ L);refine nT x (bZ (as _ an E ap f J _ co ch<|step f ap ci) λ_ cr u=>?_);let⟨cs,@db,ds,dL⟩:=u;refine nT x (bZ (g _ cr cs db _ ds dL) λN M q=>?_);have again:∀{k:a7}{o:ax},aF b (R++mX cc an.heap) k o M->Vb k o->∃t,t<s/\∃a C Q,aF b R C Q M/\i a M.heap/\(∀d∈cc,Q d=Y)/\W a t C Q:=λ{k o} p G=>by
   let⟨@eq,ev,ex⟩:=bs k o G;refine⟨eq,ev,a+1,k,o,p.uu,UO.keep _ _ _ L λd g n c=>(p.pin (d,n)<|dT _<|dT _<|tM g c).1,λd g=>?_,ex⟩;let⟨@n,c,r⟩:=UO.obj _ _ L d g;exact (p.pin (d,n)<|dT _<|dT _<|tM g c).2.1
  cases N with
  |next=>let⟨k,@o,p,G⟩:=q;exact again p G
  |cont=>let⟨k,@o,p,G⟩:=q;exact again p G
  |brk=>let⟨k,@o,p,q⟩:=q;exact⟨k,o,p.uu,q⟩
  |ret v=>let⟨fd,k,@o,p,fn,q⟩:=q;exact⟨fd,k,o,p.uu,fn,q⟩
end
abbrev bU:=ak->ak->ax->cL->Prop
variable{VA j:bU}
def dH(b:aO)(N:ab->ab->dw ab)(j:bU):Prop:=(
 ∀(R:List (ah×aX)) (m:ai) (z:a7) (h:ax) (f x:ak) (v J:ab) (A:cL),aF b R z h m->bY f v->bY x J->j f x h A->
  wpAny (aR b.prog b.w) b.A (N v J) (ec b R z A) b.cF m)
def xh(b:aO)(N:ab->dw ab)(j:ak->ax->cL->Prop):Prop:=(
 ∀(R:List (ah×aX)) (m:ai) (z:a7) (h:ax) (f:ak) (v:ab) (A:cL),aF b R z h m->bY f v->j f h A->
  wpAny (aR b.prog b.w) b.A (N v) (ec b R z A) b.cF m)
def eR(b:aO)(N:ab)(j:List ak->ax->cL->Prop):Prop:=(
 ∀(R:List (ah×aX)) (m:ai) (z:a7) (h:ax) (E:List ak) (Va:List ab) (A:cL),aF b R z h m->cp E Va->j E h A->
  wpAny (aR b.prog b.w) b.A (call N Va) (ec b R z A) b.cF m)
def NT(b:aO)(j:ak->ax->(Bool->ax->Prop)->Prop):Prop:=(
 ∀(R:List (ah×aX)) (m:ai) (z:a7) (h:ax) (f:ak) (v:ab) (A:Bool->ax->Prop),aF b R z h m->bY f v->j f h A->
  wpAny (aR b.prog b.w) b.A (truthy v) (um b R z A) b.cF m)
def wb(j:bU)(VC cX:cb):cb:=(λz h A=>VC z h λf UP=>cX z UP λx U6=>j f x U6 A)
def QX(j:ak->ax->cL->Prop)(VC:cb):cb:=(λz h A=>VC z h λf UP=>j f UP A)
def pX(aN:Int->Int->Prop)(F:Int->Int->ak):bU:=(λf x h A=>∃a i,f=.int a/\x=.int i/\aN a i/\A (F a i) h)
def l7(F:Int->Int->ak):bU:=(λf x h A=>∃a i,f=.int a/\x=.int i/\A (F a i) h)
def B6(F:Int->ak):ak->ax->cL->Prop:=(λf h A=>∃a,f=.int a/\A (F a) h)
section
variable{b:aO}{g d o:bh}{VC cX V0:cb}{UZ:Pos}
def Ar(i:bD b g VC)(j:bD b d cX){R:List (ah×aX)}{m:ai}{z:a7}{h:ax}{UG:ak->ak->ax->Prop}(l:aF b R z h m)(e:VC z h λf UP=>cX z UP λx U6=>UG f x U6){A:ab->ai->Prop}{N:ab->ab->dw ab}(k:∀v J a f x U6,aF b R z U6 a->bY f v->bY x J->UG f x U6->wpAny (aR b.prog b.w) b.A (N v J) A b.cF a):
  wpAny (aR b.prog b.w) b.A (b7 g b.env) (λv n=>wpAny (aR b.prog b.w) b.A (b7 d b.env) (λJ o=>wpAny (aR b.prog b.w) b.A (N v J) A b.cF o) b.cF n) b.cF m:=by
 refine bZ (i R m z h _ l e) λv p c=>?_;let⟨f,@UP,q,r,s⟩:=c;refine bZ (j R p z UP _ q s) λJ a c=>?_;let⟨x,@U6,t,u,y⟩:=c;exact k v J a f x U6 t r u y
def RT{Vw:qg}(a:dH b (gi Vw) j)(c:bD b g VC)(i:bD b d cX):bD b (.BinOp g Vw d UZ) (wb j VC cX):=by
 intro R m z h A l e;exact wpAny_BinOp (Ar c i l e λv J k f x U6 n o q p=>a R k z U6 f x v J A n o q p)
def Cr{Vw:UnaryOp}{j:ak->ax->cL->Prop}(a:xh b (unaryOp Vw) j)(c:bD b g VC):bD b (.UnaryOp Vw g UZ) (QX j VC):=by
 intro R m z h A l e;exact UnaryOp_ (bZ (c R m z h _ l e) λv d ⟨f,UP,i,k,n⟩=>a R d z UP f v A i k n)
def wq{aN:Int->Int->Prop}(c:∀(a i:Int) (C J:iz) (m:ai) (A:ab->ai->Prop) (UH:ab->ai->Prop),aN a i->A (.int (F a i) m.toks) {m with toks:=m.toks+1}->wpAny (aR b.prog b.w) b.A (N (.int a C)<|.int i J) A UH m):
  dH b N (pX aN λa i=>.int<|F a i):=by
 intro R m z h f x v J A l d g e;let⟨a,@i,rfl,rfl,j,p⟩:=e;let⟨@C,rfl⟩:=d;let⟨@Vd,rfl⟩:=g;exact c a i C Vd m _ _ j ⟨.int<|F a i,h,l.tok _,⟨_,rfl⟩,p⟩
def Hv(c:∀(a i:Int) (C J:iz) (m:ai) (A:ab->ai->Prop) (UH:ab->ai->Prop),A (.int (F a i) m.toks) {m with toks:=m.toks+1}->wpAny (aR b.prog b.w) b.A (N (.int a C)<|.int i J) A UH m):
  dH b N (l7 λa i=>.int<|F a i):=by
 intro R m z h f x v J A l d g e;let⟨a,@i,rfl,rfl,p⟩:=e;let⟨@C,rfl⟩:=d;let⟨@Vd,rfl⟩:=g;exact c a i C Vd m _ _ ⟨.int<|F a i,h,l.tok _,⟨_,rfl⟩,p⟩
def wL{F:Int->Int->Bool}(c:∀(a i:Int) (C J:iz) (m:ai) (A:ab->ai->Prop) (UH:ab->ai->Prop),A (.bool<|F a i) m->wpAny (aR b.prog b.w) b.A (N (.int a C)<|.int i J) A UH m):
  dH b N (l7 λa i=>.aE<|F a i):=by
 intro R m z h f x v J A l d g e;let⟨a,@i,rfl,rfl,p⟩:=e;let⟨@C,rfl⟩:=d;let⟨@Vd,rfl⟩:=g;exact c a i C Vd m _ _ ⟨.aE<|F a i,h,l,rfl,p⟩
def QZ(a i:Int):Prop:=(0<i/\i<1073741824)
def R4(a i:Int):Prop:=(0<=i/\i<=1000000/\a.natAbs<2^64)
def M5:dH b (gi .Add) (l7 λa i=>.int<|a+i):=Hv λ_ W W W W W W p=>add_int p
def Qr:dH b (gi .Sub) (l7 λa i=>.int<|a-i):=Hv λ_ W W W W W W p=>sub_int p
def Od:dH b (gi .FloorDiv) (pX QZ λa i=>.int<|a/i):=wq λa i W W W W W c p=>by
 have y:(0:Int)<i:=c.1;have B:i<1073741824:=c.2;exact floordiv_int ⋯ (by rw[Int.fdiv_eq_ediv_of_nonneg a ⋯];exact p) (.inl (PyProof.noPylong_small ⋯))
def M1:dH b (gi .Mod) (pX (λ_ i=>0<i) λa i=>.int<|a%i):=wq λa i W W W W W c p=>by
 have y:(0:Int)<i:=c;exact mod_int' ⋯ (by rw[Int.fmod_eq_emod_of_nonneg a ⋯];exact p)
def PC:dH b (gi .Pow) (pX R4 λa i=>.int<|a^i.toNat):=wq λ_ W W W W W W c p=>pow_int_small c.1 c.2.1 c.2.2 p
def Nd{N:ab->dw ab}{F:Int->Int}(c:∀(a:Int) (C:iz) (m:ai) (A:ab->ai->Prop) (UH:ab->ai->Prop),A (.int (F a) m.toks) {m with toks:=m.toks+1}->wpAny (aR b.prog b.w) b.A (N<|.int a C) A UH m):
  xh b N (B6 λa=>.int<|F a):=by
 intro R m z h f v A l d e;let⟨@a,rfl,p⟩:=e;let⟨@C,rfl⟩:=d;exact c a C m _ _ ⟨.int<|F a,h,l.tok _,⟨_,rfl⟩,p⟩
def Il:xh b (unaryOp .USub) (B6 λa=>.int<|-a):=Nd λ_ W W W W p=>neg_int p
def Dt{A:cL}{q a:Bool}(l:aF b R z h m)(p:A (.aE q) h)(c:q=a):ec b R z A (.bool a) m:=by
 subst c;exact⟨.aE q,h,l,rfl,p⟩
def Sb:dH b (d1 .Lt) (l7 λa i=>.aE<|decide (a<i)):=wL λ_ W W W W W W p=>lt_int p
def O5:dH b (d1 .LtE) (l7 λa i=>.aE<|decide (a<=i)):=wL λ_ W W W W W W p=>le_int p
def JE:dH b (d1 .Gt) (l7 λa i=>.aE<|decide (i<a)):=wL λ_ W W W W W W p=>gt_int p
def Ta:dH b (d1 .GtE) (l7 λa i=>.aE<|decide (i<=a)):=wL λ_ W W W W W W p=>ge_int p
def R3:dH b (d1 .Is) (λf x h A=>x=.aS/\A (.aE<|decide (f=.aS)) h):=by
 intro R m z h f x v J A l a c e;let@⟨rfl,p⟩:=e;cases c;refine is_none_gen (Dt l p ?_);cases f<;>first
  | (cases a;rfl)
  | (let⟨@C,rfl⟩:=a;rfl)
def S6:dH b (d1 .IsNot) (λf x h A=>x=.aS/\A (.aE<|!decide (f=.aS)) h):=by
 intro R m z h f x v J A l a c e;let@⟨rfl,p⟩:=e;cases c;refine isnot_none_gen (Dt l p ?_);cases f<;>first
  | (cases a;rfl)
  | (let⟨@C,rfl⟩:=a;rfl)
def dH.or(e:dH b N j)(S:dH b N VA):dH b N (λf x h A=>j f x h A\/VA f x h A):=by
 intro R m z h f x v J A l a c p;rcases p with p|p
 ·exact e R m z h f x v J A l a c p
 ·exact S R m z h f x v J A l a c p
def eJ(d:bh){Vw:kF}(e:Vw≠.In:=by decide)(B:Vw≠.NotIn:=by decide):oD Vw d=av:=by
 have a:(Vw==kF.In)=av:=by cases Vw<;>first|rfl|exact absurd rfl e
 have b:(Vw==kF.NotIn)=av:=by cases Vw<;>first|rfl|exact absurd rfl B
 cases d<;>simp[oD,a,b]
def OC(a:dH b (d1 Vw) j)(c:bD b g VC)(i:bD b d cX)(k:oD Vw d=av):bD b (.Compare g [Vw] [d] UZ) (wb j VC cX):=by
 intro R m z h A l e;exact wpAny_Compare1 (Ar c i l e λv J n f x U6 o q r p=>a R n z U6 f x v J A o q r p) k
def Jd(C:cb):ea:=(λz h A=>C z h λf Q=>∃q,f=.aE q/\A q Q)
def Je(a:dH b (d1 Vw) j)(i:bD b g VC)(n:bD b d cX)(p:oD Vw d=av):hs b (.Compare g [Vw] [d] UZ) (Jd<|wb j VC cX):=by
 intro R m z h A l e;refine wpAny_isTrue_Compare1 (bZ (i R m z h _ l e) λv r ⟨f,UP,s,t,u⟩=>bZ (n R r z UP _ s u) λJ w ⟨x,U6,y,B,C⟩=>
  bZ (a R w z U6 f x v J _ y t B C) λo H ⟨k,D,E,F,q,c,G⟩=>?_) p;subst c;cases F;exact mn ⟨D,E,G⟩
def Ck(j VA:bU)(VC cX V0:cb):cb:=(λz h A=>VC z h λf UP=>cX z UP λx U6=>j f x U6 λk a=>∃q,k=.aE q/\
 (if q=X then V0 z a λb c=>VA x b c A else A (.aE av) a))
def Sf{a:kF}(t:dH b (d1 Vw) j)(u:dH b (d1 a) VA)(w:bD b g VC)(y:bD b d cX)(B:bD b o V0)(C:lastMarks [Vw,a] [d,o]=av:=by with_unfolding_all rfl):hs b (.Compare g [Vw,a] [d,o] UZ) (Jd<|Ck j VA VC cX V0):=by
 intro R m z h A l e;refine isTrue_chain (bZ (w R m z h _ l e) λv D ⟨f,UP,E,F,G⟩=>test_link (bZ (y R D z UP _ E G) λJ H ⟨x,U6,I,i,L⟩=>
  bZ (t R H z U6 f x v J _ I F i L) λr M ⟨k,n,p,N,q,c,s⟩=>?_)) C;subst c;cases N;refine mn ?_;cases q with
 |false=>
  let⟨@bi,O,P⟩:=s;cases O;exact ite_ff ⟨n,p,P⟩
 |true=>
  refine ite_tt (test_last<|bZ (B R M z n _ p s) λQ S ⟨T,U,al,am,an⟩=>bZ (u R S z U x T J Q _ al i am an) λVD bm ap=>?_);let⟨bn,@as,a1,a2,⟨@Vt,bd,be⟩⟩:=ap;subst bd;cases a2;exact mn ⟨as,a1,be⟩
def xl(UK:Φ)(f:ak)(h:ax)(q:Bool):Prop:=(
 match f with
 |.aS=>q=av
 |.aE d=>q=d
 |.int a=>q=(a != 0)
 |.str x=>x.length<=sizeLine/\q=((x.length:Int) != 0)
 |.r6 x=>x.size<=sizeLine/\q=((x.size:Int) != 0)
 |.ref u=>(∃E,c9 UK h u E/\q=!E.isEmpty)\/(∃E,cC UK h u E/\q=!E.isEmpty)\/∃UX,h u=Z (.dn UX)/\q=!UX.isEmpty
 |_=>False)
def MD{U7:Type}{UX:List (U7×ak)}{U:List (U7×ab)}(j:fX UX U):(!U.isEmpty)=!UX.isEmpty:=by
 cases j<;>rfl
def Hh{UW:List ab}(j:cp E UW):(!UW.toArray.isEmpty)=!E.isEmpty:=by
 cases j<;>simp
def pQ:(sizeLine:Nat)<2^63:=by rw[tZ];decide
def OJ:NT b (λf h A=>∃q,xl b.K f h q/\A q h):=by
 intro R m z h f v A l i e;let⟨@q,c,p⟩:=e;have y:=pQ;have ar:sizeLine=16777216:=tZ;cases f with
 |aS=>
  cases i;have g:q=av:=c;subst g;exact truthy_none ⟨h,l,p⟩
 |aE d=>
  cases i;have g:q=d:=c;subst g;exact mn ⟨h,l,p⟩
 |int a=>
  let⟨@C,rfl⟩:=i;have g:q=(a != 0):=c;subst g;exact PySem.P.truthy_int ⟨h,l,p⟩
 |str x=>
  let⟨@C,rfl⟩:=i;obtain⟨r,g⟩:x.length<=sizeLine/\q=((x.length:Int) != 0):=c;subst g;exact PySem.P.truthy_str ⋯ ⟨h,l.tok _,p⟩
 |r6 x=>
  let⟨@C,rfl⟩:=i;obtain⟨r,g⟩:x.size<=sizeLine/\q=((x.size:Int) != 0):=c;subst g;exact PySem.W.truthy_bytes ⋯ ⟨h,l.tok _,p⟩
 |ref u=>
  cases i;have g:(∃E,c9 b.K h u E/\q=!E.isEmpty)\/(∃E,cC b.K h u E/\q=!E.isEmpty)\/∃UX,h u=Z (.dn UX)/\q=!UX.isEmpty:=c;rcases g with ⟨E,k,g⟩|⟨E,k,g⟩|⟨UX,k,g⟩
  ·subst g;let⟨@UW,j,bQ,n⟩:=l.list k;have o:=j.length;exact wpAny_truthy_list bQ.isList (by simp only[cJ];lia) ⟨h,l.tok _,by rw[Hh j];exact p⟩
  ·subst g;let⟨@UW,j,bQ,n⟩:=l.tuple k;have o:=j.length;exact truthy_tuple bQ (by simp only[cJ];lia) ⟨h,l.tok _,by rw[Hh j];exact p⟩
  ·subst g;obtain⟨n,s,U,j,t⟩:UX.length<=sizeLine/\(u==h_)=av/\∃U,fX UX U/\m.heap.DictOf (l0 b.prog b.w) u U:=l.aY u _ k;have o:UX.length=U.length:=eg.length j;exact wpAny_truthy_dict s t ⋯ ⟨h,l.tok _,by rw[MD j];exact p⟩
 |_=>exact (show False from c).elim
def MZ(c:bD b g VC)(d:∀a,qe g b.env a=(do let v <-a;standAt g.pos;holding [v] (truthy v))):
  hs b g (λz h A=>VC z h λf Q=>∃q,xl b.K f Q q/\A q Q):=by
 intro R m z h A l e;exact isTrue_plain (bZ (c R m z h _ l e) λv i ⟨f,UP,j,k,n⟩=>OJ R i z UP f v A j k n) (d _)
def Ku:dH b (gi .Add) (λf x h A=>∃a i,f=.str a/\x=.str i/\a.length+i.length<=sizeLine/\A (.str<|a++i) h):=by
 intro R m z h f x v J A l c d e;let⟨a,@i,rfl,rfl,g,p⟩:=e;let⟨@C,rfl⟩:=c;let⟨@Vd,rfl⟩:=d;exact add_str (λVd Vq=>⟨.str<|a++i,h,l.tok _,⟨_,rfl⟩,p⟩) g
def iM{f:ak}(j:cp [f] Va):∃J,Va=[J]/\bY f J:=by
 cases j with
 |cons a b=>cases b;exact⟨_,rfl,a⟩
def tu{f:ak}(j:cp [f,x] Va):∃J a,Va=[J,a]/\bY f J/\bY x a:=by
 cases j with
 |cons b c=>
  cases c with
  |cons d e=>cases e;exact⟨_,_,rfl,b,d⟩
def Pf(d:b.calm=X):eR b (.builtin "max") (λE h A=>∃a i,E=[.int a,.int i]/\A (.int<|if i>a then i else a) h):=by
 intro R m z h E Va A l j e;let⟨a,@i,rfl,p⟩:=e;let⟨J,@f,rfl,⟨@C,rfl⟩,⟨@Vd,rfl⟩⟩:=tu j;refine max_two_ints (l.ok.hd d) λS Vq q=>⟨_,h,l.kept q,?_,p⟩;by_cases c:i>a
 ·rw[aK c,aK c];exact⟨_,rfl⟩
 ·rw[aL c,aL c];exact⟨_,rfl⟩
def K7(d:b.calm=X):eR b (.builtin "min") (λE h A=>∃a i,E=[.int a,.int i]/\A (.int<|if i<a then i else a) h):=by
 intro R m z h E Va A l j e;let⟨a,@i,rfl,p⟩:=e;let⟨J,@f,rfl,⟨@C,rfl⟩,⟨@Vd,rfl⟩⟩:=tu j;refine min_two_ints (l.ok.hd d) λS Vq q=>⟨_,h,l.kept q,?_,p⟩;by_cases c:i<a
 ·rw[aK c,aK c];exact⟨_,rfl⟩
 ·rw[aL c,aL c];exact⟨_,rfl⟩
def Mu:eR b (.type "int") (λE h A=>(∃a,E=[.int a]/\A (.int a) h)\/∃q,E=[.aE q]/\A (.int<|if q then 1 else 0) h):=by
 intro R m z h E Va A l j e;rcases e with ⟨a,rfl,p⟩|⟨q,rfl,p⟩
 ·let⟨@J,rfl,⟨@C,rfl⟩⟩:=iM j;exact call_int_int ⟨.int a,h,l,⟨_,rfl⟩,p⟩
 ·let⟨@J,rfl,c⟩:=iM j;cases c;exact call_int_bool ⟨.int<|if q then 1 else 0,h,l.tok _,⟨_,rfl⟩,p⟩
end
def jl.some_of{n:Option ab}(j:jl (Z v) n):∃J,n=Z J/\bY v J:=by
 cases n with
 |none=>exact (show False from j).elim
 |some J=>exact⟨J,rfl,j⟩
structure dB(q:Nat)(O:bw):Prop where
 hd:O.handled=Y
 vV:O.depth+3*q+5<CF
 un:O.units+16*q+200<bR
 jP:O.guards=Z []
def dB.mono{i:Nat}(j:dB q O)(e:i<=q):dB i O:=⟨j.hd,by have:=j.vV;lia,by have:=j.un;lia,j.jP⟩
def dB.deeper(j:dB (q+1) O)(UL:eu):dB q (O.deeper UL):=
 ⟨j.hd,by have:=j.vV;show O.depth+1+3*q+5<_;lia,by have:=j.un;show O.units+3+16*q+200<_;lia,j.jP⟩
def dB.in1(j:dB (q+1) O):dB q O.in1:=
 ⟨j.hd,by have:=j.vV;show O.depth+3*q+5<_;lia,by have:=j.un;show O.units+1+16*q+200<_;lia,j.jP⟩
def dB.depth(j:dB q O):O.depth<CF:=by have:=j.vV;lia
def LM:eZ:=(λ_ h A=>A [] h)
def QP(VC:cb)(ll:eZ):eZ:=(λz h A=>VC z h λf UP=>ll z UP λE U6=>A (f::E) U6)
section
variable{b:aO}{c:bh}{T:List bh}{VV:cb}{C:eZ}{UZ:Pos}
def uk:hz b [] LM:=λ_ W W W h A l e=>yP ⟨[],h,l,.nil,e⟩
def vh(d:bD b c VV)(UQ:hz b T C)(ar:bS (c::T) b.env=(av,b7 c b.env)::bS T b.env:=by rfl):hz b (c::T) (QP VV C):=by
 intro UZ R m z h A l e;rw[ar];show wpAny _ _ (spliced ((av,b7 c b.env)::e5 UZ (bS T b.env))) _ _ m;refine z0 (bZ (d R m z h _ l e) λJ g a=>?_);let⟨f,@UP,i,j,k⟩:=a;refine bZ (UQ UZ R g z UP _ i k) λVa q a=>?_;let⟨E,@U6,n,o,p⟩:=a;exact⟨f::E,U6,n,.cons j o,p⟩
def JS(C:eZ):cb:=(λz h A=>C z h λE UP=>E.length<=sizeLine/\∀u,UP u=Y->A (.ref u) (upd UP u<|.tup E))
def Jz(C:eZ):cb:=(λz h A=>C z h λE UP=>E.length<=sizeLine/\∀u,UP u=Y->A (.ref u) (upd UP u<|.lst E))
def OO{g}(e:hz b T C):bD b (.Tuple T g UZ) (JS C):=by
 intro R m z h A l i;refine wpAny_Tuple_spliced (bZ (e UZ R m z h _ l i) λVa a ⟨E,UP,f,j,k,p⟩=>⟨by rw[<-j.length];exact k,?_⟩);have n:UP a.heap.objs.size=Y:=f.aY.fresh (bb _);refine⟨.ref a.heap.objs.size,upd UP a.heap.objs.size<|.tup E,f.laid (Vd:=a.toks) (λd J c=>bT _ c) (bb _) ?_,rfl,p _ n⟩;exact⟨k,Va,j,⟨_,cR _ rfl,rfl,_,rfl⟩⟩
def BP(e:hz b T C):bD b (.List T UZ) (Jz C):=by
 intro R m z h A l g;refine wpAny_List_spliced (bZ (e UZ R m z h _ l g) λVa a ⟨E,UP,f,j,k,p⟩=>⟨by rw[<-j.length];exact k,?_⟩);have i:UP a.heap.objs.size=Y:=f.aY.fresh (bb _);refine⟨.ref a.heap.objs.size,upd UP a.heap.objs.size<|.lst E,f.laid (Vd:=a.toks) (λd J c=>bT _ c) (bb _) ?_,rfl,p _ i⟩;exact⟨k,Va,0,j,cR _ rfl⟩
end
abbrev jR:=List ak->ax->cL->fO->Prop
abbrev kx:=List eu->ax->ai->fO->ab->ai->Prop
variable{V3:kx}
structure wa(UT:bC)(D:bc)(UK:Φ)(aM:aC->Option ab)(UY:aZ)(O:bw)(VF:List eu)(m:ai)(h:ax):Prop where
 frames:O.frames=Z VF
 mod:Mod UK aM UY
 bs:∀d n,UY.get? d=Z n->m.heap.get? d=Z n/\h d=kO n
 ki:UY.objs.size<=m.heap.objs.size
 iF:m.heap.FunFrames UY VF
 lh:(∀d∈ib VF,h d=Y)/\xJ UK h
 aY:d_ UT D h m.heap
 bare:lS m.gens
def y5(VF:List eu)(UT:bC)(D:bc)(h:ax)(m:ai)(A:cL)(J:ab)(UI:ai):Prop:=(
 ∃v Q,UI.os=m.os/\lS UI.gens/\eW (ib VF) [] h Q m.heap UI.heap/\d_ UT D Q UI.heap/\bY v J/\A v Q)
def NS(V3:kx)(VF:List eu)(UT:bC)(D:bc)(h:ax)(m:ai)(A:cL)(UH:fO)(j:rU)(UI:ai):Prop:=(
 match j with
 |.ok (.ret J)=>y5 VF UT D h m A J UI
 |.ok _=>False
 |.error c=>V3 VF h m UH c UI)
structure h5(UT:bC)(D:bc)(UK:Φ)(aM:aC->Option ab)(UY:aZ)(V3:kx)(q:Nat)(N:ah)(fd:gG)(U1:List aC)(VX:jR):Prop where
 len:∀U h A UH,VX U h A UH->U.length=U1.length
 run:∀(O:bw) (VF:List eu) (m:ai) (h:ax) (args:Args) (Va:List ab) (U:List ak) (A:cL) (UH:fO),dB q O->wa UT D UK aM UY O VF m h->nu m fd args (U1.zip Va)->cp U Va->VX U h A UH->
  codeAny (aR UT D) O (.call (.ref N) args) (NS V3 VF UT D h m A UH) m
section
variable{b:aO}{R:List (ah×aX)}{z:a7}{h:ax}{m UI:ai}
def aF.QF(l:aF b R z h m):wa b.prog b.w b.K b.aM b.base b.A b.stack m h:=
 ⟨l.ok.frames,l.ok.mod,l.bs,df l.ok.ki l.gy,l.stack,⟨l.yI,l.cX⟩,l.aY,l.bare⟩
def aF.after{A:cL}(l:aF b R z h m)(e:y5 b.stack b.prog b.w h m A J UI):ec b R z A J UI:=by
 let⟨v,@Q,U5,a,un,aY,j,p⟩:=e;let⟨c,F,r,C,f⟩:=UI;obtain rfl:f=m.os:=U5;exact⟨v,Q,l.call (S:=c) (VZ:=F) (VD:=r) (Vd:=C) (VW:=[]) un aY a (λd k=>absurd k ↥0),j,p⟩
end
def Fx(VX:jR)(i:List ak)(UH:fO)(C:eZ):cb:=(λz h A=>C z h λU UP=>VX (U++i) UP A UH)
def jg(UK:Φ)(fd:gG)(U1:List aC)(H:List ab):Prop:=(
 ∀(m:ai) (Va:List ab),UK.In m.heap->(Va++H).length=U1.length->nu m fd ⟨Va,[]⟩ (U1.zip<|Va++H))
def jg.all{fd:gG}(e:∀Va:List ab,Va.length=U1.length->jx fd ⟨Va,[]⟩=pure (U1.zip Va)):jg UK fd U1 []:=λm Va W a=>by
 rw[b8]at a ⊢;exact .of_eq (e Va a)
def z7(V3:kx)(b:aO)(UH:fO):Prop:=(∀(R:List (ah×aX)) (z:a7) (h:ax) (m:ai) (c:ab) (UI:ai),aF b R z h m->V3 b.stack h m UH c UI->b.cF c UI)
section
variable{b:aO}{V3:kx}{q:Nat}{N aN:ah}{fd:gG}{U1:List aC}{VX:jR}{i:List ak}{H:List ab}{UH:fO}{f t:aC}{u UZ V6:Pos}{c n:bh}{T:List bh}{VC:cb}{C:eZ}
def Le{A:cL}(P:h5 b.prog b.w b.K b.aM b.base V3 q N fd U1 VX)(UQ:dB q b.A)(f:jg b.K fd U1 H)(hd:cp i H)(g:z7 V3 b UH)(l:aF b R z h m)(j:cp U Va)(e:VX (U++i) h A UH):wpAny (aR b.prog b.w) b.A (call (.ref N) Va) (ec b R z A) b.cF m:=by
 have d:cp (U++i) (Va++H):=j.append hd;have k:(Va++H).length=U1.length:=by rw[<-d.length];exact P.len _ _ _ _ e
 refine zg (td (P.run b.A b.stack m h ⟨Va,[]⟩ (Va++H) (U++i) A UH UQ l.QF (f m Va l.nD k) d e) λj UI a=>?_);cases j with
 |error c=>exact g R z h m c UI l a
 |ok aT=>
  cases aT with
  |ret J=>exact l.after a
  |next=>exact False.elim a
  |brk=>exact False.elim a
  |cont=>exact False.elim a
def RO(P:h5 b.prog b.w b.K b.aM b.base V3 q N fd U1 VX)(UQ:dB q b.A)(d:eM b f)(g:b.aM f=Z (.ref N))(k:Γ b.K (.ref N)=X)(n:jg b.K fd U1 H)(hd:cp i H)(o:z7 V3 b UH)(r:hz b (c::T) C)(s:(f==("__debug__" : aC))=av:=by decide)(t:bS (c::T) b.env=(av,b7 c b.env)::bS T b.env:=by rfl)(v:(e5 UZ<|bS T b.env).any (·.1)=av:=by rfl):
  bD b (.Call (.Name f u) (c::T) [] UZ) (Fx VX i UH C):=by
 intro R m z h A l e;refine rQ (D0 l d g ?_ s);refine PySem.W.callWith_K (h₀:=b.base) l.ok.mod.zM k (bZ (r UZ R m z h _ l e) λVa y ⟨U,UP,a,j,p⟩=>⟨a.nD,?_⟩) t v;exact Le P UQ n hd o a j p
end
structure ks(Vb UT:List aC)(l:eO):Prop where
 kind:l.kind=.function
 co:l.isCoroutine=av
 gen:l.isGenerator=av
 aj:Vb.Nodup
 pre:Vb.take UT.length=UT
 par:∀f∈UT,l.names.lookup f=Z .local\/l.names.lookup f=Z .cell
 LG:∀x∈l.names,x.2≠.free
theorem DJ{a:aC->Option cZ}{f:aC}:∀{binds:List (aC×ab)}{t:aC->Option ab},(∀v,(f,v)∉binds)->bindL a binds t f=t f
 |[],_,_=>rfl
 | (s,v)::j,t,e=>by
  unfold bindL;rw[DJ λD b=>e D<|lN _ b];split
  ·have:f≠s:=by rintro rfl;exact e v mR
   simp[this]
  ·rfl
theorem DC{a:aC->Option cZ}{f:aC}:∀{binds:List (aC×ab)}{t:aC->Option ab},(∀v,(f,v)∉binds)->bindC a binds t f=t f
 |[],_,_=>rfl
 | (s,v)::j,t,e=>by
  unfold bindC;rw[DC λD b=>e D<|lN _ b];split
  ·rfl
  ·have:f≠s:=by rintro rfl;exact e v mR
   simp[this]
theorem IF{b:aC->Option cZ}{f:aC}{v:ab}:∀{UT:List aC}{U:List ab}{a:Nat}{t:aC->Option ab},UT.Nodup->UT[a]?=Z f->U[a]?=Z v->b f=Z .local->
  bindL b (UT.zip U) t f=Z v
 |[],_,_,_,_,e,_,_=>by simp at e
 |_::_,[],_,_,_,_,e,_=>by simp at e
 |u::UT,D::U,0,t,aj,y,B,c=>by
  simp at y B;subst y;subst B;show bindL b ((u,D)::UT.zip U) t u=_;unfold bindL;rw[DJ λv d=>(gC.mp aj).1 (yJ d).1,aK c];simp
 |u::UT,D::U,a+1,t,aj,y,B,c=>by
  show bindL b ((u,D)::UT.zip U) t f=_;unfold bindL;exact IF (a:=a) (gC.mp aj).2 ⇑y ⇑B c
theorem Dy{b:aC->Option cZ}{f:aC}{v:ab}:∀{UT:List aC}{U:List ab}{a:Nat}{t:aC->Option ab},UT.Nodup->UT[a]?=Z f->U[a]?=Z v->b f≠Z .local->
  bindC b (UT.zip U) t f=Z v
 |[],_,_,_,_,e,_,_=>by simp at e
 |_::_,[],_,_,_,_,e,_=>by simp at e
 |u::UT,D::U,0,t,aj,y,B,c=>by
  simp at y B;subst y;subst B;show bindC b ((u,D)::UT.zip U) t u=_;unfold bindC;rw[DC λv d=>(gC.mp aj).1 (yJ d).1,aL c];simp
 |u::UT,D::U,a+1,t,aj,y,B,c=>by
  show bindC b ((u,D)::UT.zip U) t f=_;unfold bindC;exact Dy (a:=a) (gC.mp aj).2 ⇑y ⇑B c
def start(Vb:List aC)(U:List ak):a7:=(U.map Z++List.replicate (Vb.length-U.length) Y)
def ja(V3:kx)(UT:bC)(D:bc)(UK:Φ)(aM:aC->Option ab)(UY:aZ)(Vb:List aC)(VN:aC)(U2:eO)(N:ah)(a:ab)(O:bw)(VF:List eu)(m:ai)(h:ax)(UH:fO):aO where
 prog:=UT
 w:=D
 K:=UK
 aM:=aM
 base:=UY
 A:=O.deeper (h3 VN U2 m.heap.objs.size N a)
 N:=Vb
 eI:=m
 kv:=h
 env:=h3 VN U2 m.heap.objs.size N a
 outer:=VF
 stack:=h3 VN U2 m.heap.objs.size N a::VF
 ex:=[]
 calm:=X
 fn:=λ_=>X
 dK:=[]
 cF:=λc UI=>wpAny (aR UT D) (O.deeper<|h3 VN U2 m.heap.objs.size N a) (leaving (h3 VN U2 m.heap.objs.size N a) c) (λ_ b=>V3 VF h m UH c b) (λd b=>V3 VF h m UH d b) UI
def Hc{l:eO}(e:l.names.lookup f=Z .cell):∃o,(xu s l.names []).lookup f=Z o:=by
 have p:=Hk l.names s [] (.inl e);exact rH.mp p
def PF{N:ah}{n:ab}{VF:List eu}{t:ai}{UH:fO}(UM:ks Vb U1 U2)(hd:O.handled=Y)(b:wa UT D UK aM UY O VF m h)(F:U.length=U1.length)(j:cp U Va)(f:InCallC m m.heap.objs.size (bindL (h3 VN U2 m.heap.objs.size N n).kindOf (U1.zip Va) λ_=>Y) (xu (m.heap.objs.size+1) U2.names []) (bindC (h3 VN U2 m.heap.objs.size N n).kindOf (U1.zip Va) λ_=>Y) t):
  aF (ja V3 UT D UK aM UY Vb VN U2 N n O VF m h UH) [] (start Vb U) h t:=by
 have G:U1.length<=Vb.length:=by have:=congrArg List.length UM.pre;rw[g_]at this;lia
 let⟨y,@Vq,rfl,w⟩:=f.done;have r:∀d:ah,d∉(ja V3 UT D UK aM UY Vb VN U2 N n O VF m h UH).ex:=λd k=>absurd (show d∈([]:List ah) from k) ↥0;refine⟨⟨b.mod,UM.kind,rfl,rfl,bb _,λx k o y B=>?_,λx i=>?_,λx o W e=>?_,λ_=>hd,CH b.frames,.inr ⟨rfl,rfl⟩,λd k=>absurd k<|r d,b.bs,b.ki,λd W W=>r d,λd k=>absurd k<|r d,b.iF,b.lh⟩,
  rfl,b.bare,eW.kept w,⟨_,f.toInCall.ns,λa x v y B H=>?_⟩,λx o e=>⟨_,f.cell x o e⟩,b.aY.fresh<|bb _,λx o e=>?_,λu l=>absurd (show u∈([]:List (ah×aX)) from l) ↥0,b.aY.kept w,?_⟩
 ·exact name_of_addr f.apart (PySem.mem_of_lookup y) (PySem.mem_of_lookup B)
 ·have i:U2.names.lookup x=Z .cell\/U2.names.lookup x=Z .free:=i;rcases i with i|i
  ·exact Hc i
  ·exact absurd rfl (UM.LG _<|PySem.mem_of_lookup i)
 ·exact l5 (f.above x o<|PySem.mem_of_lookup e)
 ·have UN:a<U.length:=by
   unfold start at B;by_cases UN:a<U.length
   ·exact UN
   ·rw[kH ⇑UN]at B;rw[List.getElem?_replicate]at B;split at B<;>cases B
  have C:U[a]?=Z v:=by
   unfold start at B;rw[mc ⇑UN,dU]at B;cases c:U[a]? with
   |none=>rw[c]at B;cases B
   |some g=>rw[c]at B;cases B;rfl
  let⟨@J,z,E⟩:=j.get C;have l:U1[a]?=Z x:=by
   rw[<-UM.pre,List.getElem?_take_of_lt ⋯];exact y
  have A:U1.Nodup:=by rw[<-UM.pre];exact UM.aj.sublist (rE _ _)
  refine⟨J,E,?_⟩;rcases UM.par x (gF l) with q|q
  ·exact .inl ⟨q,IF A l z q⟩
  ·let⟨@o,c⟩:=Hc (s:=m.heap.objs.size+1) q;refine .inr ⟨.inl q,o,c,?_⟩;have p:=f.cell x o c;rw[Dy A l z (by show U2.names.lookup x≠_;rw[q];decide)]at p;exact p
 ·exact b.aY.fresh (l5<|f.above x o<|PySem.mem_of_lookup e)
 ·unfold start;show _=Vb.length;rw[dW,bl,List.length_replicate];lia
def Hz{N:ah}{name:aC}{VO:tc}{g cv i Vr k ct G:ab}{w V2:Option ah}{y:Array (Option ab)}{VX:jR}(lk:UK.lookup N=Z ⟨G,V2,.func<|Ξ name VN VO VY U2 g cv i Vr w k ct,y⟩)(z:Φa UK k VN=X)(UM:ks Vb U1 U2)(len:∀U h A UH,VX U h A UH->U.length=U1.length)(B:∀(O:bw) (VF:List eu) (m:ai) (h:ax) (U:List ak) (A:cL) (UH:fO),dB q (O.deeper<|h3 VN U2 m.heap.objs.size N k)->VX U h A UH->
   ∃C,hC (ja V3 UT D UK aM UY Vb VN U2 N k O VF m h UH) VY C/\C {bz:=λ_ Q=>A .aS Q,a5:=A} (start Vb U) h):
  h5 UT D UK aM UY V3 (q+1) N (Ξ name VN VO VY U2 g cv i Vr w k ct) U1 VX:=by
 refine⟨len,λO VF m h args Va U A UH UQ a E j o=>?_⟩;have F:=len _ _ _ _ o;have r:UK.In m.heap:=a.mod.zM.keeps λd n c=>(a.bs d n c).1;have H:m.heap.NoLimit:=a.mod.nolimit.keeps λd n c=>(a.bs d n c).1;have I:∀x∈U1.zip Va,U2.names.lookup x.1=Z .local\/(U2.names.lookup x.1=Z .cell/\((xu (m.heap.objs.size+1) U2.names []).lookup x.1).isSome=X):=λ⟨s,v⟩ L=>by
  rcases UM.par s (yJ L).1 with p|p
  ·exact .inl p
  ·exact .inr ⟨p,Hk _ _ _<|.inl p⟩
 refine codeAny_call_function UQ.depth (r _ _ lk) rfl UM.co UM.gen rfl (PySem.W.codeRec_of r z) (E _ _ _ _ ?_);refine wpAny_newFunctionEnv_cells UM.kind I λUL M t f=>?_;subst M;refine⟨H.keeps f.toInCall.keep,codeAny_func ?_⟩;let⟨@C,bP,P⟩:=B O VF m h U A UH (UQ.deeper _) o;have l:aF (ja V3 UT D UK aM UY Vb VN U2 N k O VF m h UH) [] (start Vb U) h t:=PF UM UQ.hd a F j f;refine f7 (bP [] t (start Vb U) h _ l P) (λaT UI ar=>?_) λc UI ar=>ar;have u:∀{b:a7}{Q:ax}{v:ak}{J:ab},aF (ja V3 UT D UK aM UY Vb VN U2 N k O VF m h UH) [] b Q UI->bY v J->A v Q->y5 VF UT D h m A J UI:=
  λ{b Q v J} VP e p=>⟨v,Q,VP.os,VP.bare,VP.base,VP.aY,e,p⟩;cases aT with
 |ret J=>
  let⟨v,b,@Q,VP,e,p⟩:=ar;exact u VP e p
 |next=>
  let⟨b,@Q,VP,p⟩:=ar;exact u (v:=ak.aS) (J:=ab.none) VP rfl p
 |brk=>
  let⟨T,@T,T,p⟩:=ar;exact False.elim p
 |cont=>
  let⟨T,@T,T,p⟩:=ar;exact False.elim p
section
variable{b:aO}{f:aC}{u UZ:Pos}{c:bh}{T:List bh}{C:eZ}{id UO:String}{j:List ak->ax->cL->Prop}
def CV(j:List ak->ax->cL->Prop)(C:eZ):cb:=(λz h A=>C z h λU UP=>j U UP A)
def Iv(a:eR b (.builtin id) j)(d:eM b f)(g:b.aM f=Y)(i:e9 f=Z (.builtin id))(k:hz b (c::T) C)(n:f ≠ "__name__" := by decide)(o:(f==("__debug__" : aC))=av:=by decide)(p:bS (c::T) b.env=(av,b7 c b.env)::bS T b.env:=by rfl)(q:(e5 UZ<|bS T b.env).any (·.1)=av:=by rfl):bD b (.Call (.Name f u) (c::T) [] UZ) (CV j C):=by
 intro R m z h A l e;refine rQ (m3 l d g i ?_ n o);exact Hu (bZ (k UZ R m z h _ l e) λVa r ⟨U,UP,s,t,v⟩=>a R r z UP U Va A s t v) p q
def OM(a:eR b (.type UO) j)(d:eM b f)(g:b.aM f=Y)(i:e9 f=Z (.type UO))(k:hz b (c::T) C)(n:f ≠ "__name__" := by decide)(o:(f==("__debug__" : aC))=av:=by decide)(p:bS (c::T) b.env=(av,b7 c b.env)::bS T b.env:=by rfl)(q:(e5 UZ<|bS T b.env).any (·.1)=av:=by rfl):bD b (.Call (.Name f u) (c::T) [] UZ) (CV j C):=by
 intro R m z h A l e;refine rQ (m3 l d g i ?_ n o);exact uA (bZ (k UZ R m z h _ l e) λVa r ⟨U,UP,s,t,v⟩=>a R r z UP U Va A s t v) p q
end
end L2
namespace l2
open PyProof.Rows
theorem KZ(O:bw)(m:ai)(g:Int)(C:iz)(o:Int)(J:iz)(US:bC)(D:bc)(UH:ab->ai->Prop)(A:ab->ai->Prop)(e:A (.bool<|decide (g<o)) m):
  wpAny (aR US D) O (n4 .Lt (.int g C)<|.int o J) A UH m:=
 (S1 e:wpAny (aR US D) O (d1 .Lt (.int g C)<|.int o J) A UH m)
section
open PySem.SeqAt
open PySem.AutoSeq1 (wpAny_loadPart')
open PySem.MeetsSeq PySem.MeetsSeq2 PySem.MeetsSeq3
end
section
variable{US:bC}{D:bc}{O:bw}{UH:ab->ai->Prop}{m:ai}
def ON{C d:ah}{U a:List ab}{A:ab->ai->Prop}(bP:rM m.heap C U.toArray)(o:rM m.heap d a.toArray)(g:U≠[])(y:a=[]->A (.ref C) m)(B:a≠[]->A (.ref m.heap.objs.size) {m with heap:=m.heap.push {cls:=.type "tuple",data:=.seq (U++a).toArray} })(p:U.length+a.length<=sizeLine):wpAny (aR US D) O (gi .Add (.ref C)<|.ref d) A UH m:=by
 let⟨@⟨cls,h,data,bF⟩,b,i,⟨@s,hd⟩⟩:=id bP;let⟨@⟨q,j,data2,k⟩,e,l,⟨@VT,n⟩⟩:=id o;simp only at i hd l n;subst i hd l n;have c:U.toArray++a.toArray=(U++a).toArray:=by simp
 by_cases f:a=[]
 ·exact Af ⟨_,b,rfl⟩ ⟨_,e,rfl⟩ yi AW zm yq (Am _ _)
   (tuple_addW1 C d U.toArray a.toArray s VT h j bF k ⇑g (by simp[f])) ⟨b,e,y f⟩
 ·refine Af ⟨_,b,rfl⟩ ⟨_,e,rfl⟩ yi AW zm yq (Am _ _)
   (tuple_addW2 C d U.toArray a.toArray s VT h j bF k ⇑g ⇑f (by rw[cJ,cJ];exact p)) ⟨b,e,?_⟩;rw[c];exact B f
end
end l2
namespace L2
open Spec PyProof.Rows
variable{g u:ah}{b:aO}{S:aZ}{A:ab->ai->Prop}{Q h:ax}{UX:List (List V×ak)}{D:bc}{UT:bC}{J:Option ab}{n:Option ak}{Vd i s:Nat}{w UW Va:List ab}{m:ai}{z:a7}{R:List (ah×aX)}{j:bU}{U_:Type}{a:Int}{E:List (List V×ah×ab)}
abbrev dc:=a7->ax->(Option Int->ax->Prop)->Prop
section
variable{b:aO}{c:bh}{VV:cb}{UJ UN:Option bh}{Wf y:dc}{UZ VI:Pos}
def Mq(UK:Φ):bU:=(λf x h A=>∃g d E U0,f=.ref g/\x=.ref d/\cC UK h g E/\cC UK h d U0/\E≠[]/\E.length+U0.length<=sizeLine/\
 (U0=[]->A (.ref g) h)/\(U0≠[]->∀u,h u=Y->A (.ref u) (upd h u<|.tup<|E++U0)))
def cp.wQ{E:List ak}(j:cp E Va):Va=[]↔E=[]:=by
 cases j with
 |nil=>simp
 |cons _ _=>simp
def JM:dH b (gi .Add) (Mq b.K):=by
 intro R m z h f x v J A l j o e;let⟨g,d,E,@U0,rfl,rfl,q,r,s,i,t,u⟩:=e;cases j;cases o;let⟨@UW,c,w,W⟩:=l.tuple q;let⟨@y,a,VI,W⟩:=l.tuple r;refine l2.ON w VI (λk=>s<|c.wQ.mp k) (λk=>⟨.ref g,h,l,rfl,t<|a.wQ.mp k⟩) (λk=>?_) (by rw[<-c.length,<-a.length];exact i);refine⟨.ref m.heap.objs.size,_,l.laid (Vd:=m.toks) (n:=.tup (E++U0)) (λd Vl p=>bT _ p) (bb _) ?_,rfl,u (λD=>k<|a.wQ.mpr D) _<|l.aY.fresh<|bb _⟩;exact⟨by rw[dW];exact i,_,c.append a,og.new _ _⟩
end
def jC(s:Nat)(a:Int):Option Nat:=(if 0<=a then (if a<s then Z a.toNat else Y) else if -(s:Int)<=a then Z (a+s).toNat else Y)
def eH{U_:Type}(E:List U_)(a:Int):Option U_:=((jC E.length a).bind λi=>E[i]?)
def Bc(e:jC s a=Z i):seqIndex? a s=Z i/\i<s /\ -(s:Int)<=a/\a<s:=by
 unfold jC at e;by_cases b:0<=a
 ·rw[aK b]at e;by_cases y:a<s
  ·rw[aK y]at e;have c:a.toNat=i:=Option.some.inj e;exact⟨by rw[Ae b y,c],⋯,⋯,y⟩
  ·rw[aL y]at e;cases e
 ·rw[aL b]at e;by_cases y : -(s:Int)<=a
  ·rw[aK y]at e;have c:(a+s).toNat=i:=Option.some.inj e;exact⟨by rw[zr ⋯ y,c],⋯,y,⋯⟩
  ·rw[aL y]at e;cases e
def B9{E:List U_}{v:U_}(e:eH E a=Z v):∃i,seqIndex? a E.length=Z i/\E[i]?=Z v/\i<E.length /\ -(E.length:Int)<=a/\a<E.length:=by
 unfold eH at e;cases c:jC E.length a with
 |none=>rw[c]at e;cases e
 |some i=>
  rw[c]at e;let@⟨y,B,b,d⟩:=Bc c;exact⟨i,y,e,B,b,d⟩
def F2{E:List U_}{v:U_}(e:E[i]?=Z v):eH E (i:Int)=Z v:=by
 have a:i<E.length:=(eV.mp e).1;have c:jC E.length (i:Int)=Z i:=by
  unfold jC;rw[aK ⋯,aK ⋯];simp
 unfold eH;rw[c];exact e
def mD(d:bh):Prop:=(∀n a,subscripted d av n a=operate [n,a] (getItem n a))
def iv(b:aO)(j:bU):Prop:=(
 ∀(t a:bh) (R:List (ah×aX)) (m:ai) (z:a7) (h:ax) (f x:ak) (v J:ab) (A:cL),aF b R z h m->bY f v->bY x J->j f x h A->
  subscripted a av v J=operate [v,J] (getItem v J)->wpAny (aR b.prog b.w) b.A (subscriptTail t a v J) (ec b R z A) b.cF m)
def Ag(b:aO)(id:String)(j:ak->List ak->ax->cL->Prop):Prop:=(
 ∀(R:List (ah×aX)) (m:ai) (z:a7) (h:ax) (f:ak) (E:List ak) (v:ab) (Va:List ab) (A:cL),aF b R z h m->bY f v->cp E Va->j f E h A->
  wpAny (aR b.prog b.w) b.A (call (.builtin id) (v::Va)) (ec b R z A) b.cF m)
section
variable{b:aO}{g d:bh}{VC cX:cb}{UZ:Pos}
def iv.or{VA:bU}(e:iv b j)(S:iv b VA):iv b (λf x h A=>j f x h A\/VA f x h A):=by
 intro t a R m z h f x v J A l c d p ar;rcases p with p|p
 ·exact e t a R m z h f x v J A l c d p ar
 ·exact S t a R m z h f x v J A l c d p ar
def sH(UQ:iv b j)(a:bD b g VC)(c:bD b d cX)(ar:mD d):bD b (.Subscript g d UZ) (wb j VC cX):=by
 intro R m z h A l e;exact Subscript_ (Ar a c l e λv J i f x U6 k n o p=>UQ g d R i z U6 f x v J A k n o p<|ar _ _)
def Oh(UK:Φ):bU:=(λf x h A=>∃u E a v,f=.ref u/\x=.int a/\c9 UK h u E/\eH E a=Z v/\A v h)
def KN(UK:Φ):bU:=(λf x h A=>∃u E a v,f=.ref u/\x=.int a/\cC UK h u E/\eH E a=Z v/\A v h)
def q2:iv b (Oh b.K):=by
 intro t I R m z h f x v J A l o q e ar;let⟨u,E,a,@k,rfl,rfl,r,s,p⟩:=e;cases o;let⟨@C,rfl⟩:=q;let⟨@UW,j,bQ,L⟩:=l.list r;let⟨@i,y,B,M,w,F⟩:=B9 s;let⟨@D,d,G⟩:=j.get B;have H:=j.length;have N:=pQ;have g:ec b R z A D m:=⟨k,h,l,G,p⟩;by_cases n:0<=a
 ·have c:a.toNat=i:=by
   rw[Ae n F]at y;exact Option.some.inj y
  exact item_listR bQ.isList n ⋯ (by rw[c];simpa using d) g ar
 ·have c:(a+(UW.toArray.size:Int)).toNat=i:=by
   rw[zr ⋯ w]at y;rw[cJ,<-H];exact Option.some.inj y
  exact FK (x:=D) bQ.isList.typeIs slot_list_getitem.lookup
   (wpAny_getItem_list_neg (Q:=λj UI=>j=D/\ec b R z A j UI) bQ.isList ⋯ (by rw[cJ]<;>lia) ⋯ (by rw[c];simpa using d) ⟨rfl,g⟩) ar
def EK:iv b (KN b.K):=by
 intro t w R m z h f x v J A l c d e ar;let⟨u,E,a,@k,rfl,rfl,g,n,p⟩:=e;cases c;let⟨@C,rfl⟩:=d;let⟨@UW,j,bQ,F⟩:=l.tuple g;let⟨@i,y,B,G,H,I⟩:=B9 n;let⟨@D,o,q⟩:=j.get B;have r:=j.length;have L:=pQ;have s:ec b R z A D m:=⟨k,h,l,q,p⟩;exact FK (x:=D) bQ.typeIs slot_tuple_getitem.lookup
  (getItem_tuple (j:=i) (Q:=λj UI=>j=D/\ec b R z A j UI) bQ ⋯ ⋯ (by rw[cJ,<-r];exact y) ⇑o ⟨rfl,s⟩) ar
def Q3(UW:List ab)(s i:Nat)(J:ab):aX.mapSeq (·.setIfInBounds i J) {cls:=.type "list",data:=.seq UW.toArray s}={cls:=.type "list",data:=.seq (UW.set i J).toArray s}:=by
 simp[aX.mapSeq]
variable{E:List ak}
def aF.lst(l:aF b R z h m)(e:h u=Z (.lst E)):
  ∃(UW:List ab) (s:Nat),cp E UW/\m.heap.get? u=Z {cls:=.type "list",data:=.seq UW.toArray s}/\E.length<=sizeLine:=by
 let@⟨k,⟨UW,@s,j,c⟩⟩:=l.aY u _ e;exact⟨UW,s,j,c,k⟩
def aF.JZ{U0:List ak}{a:Nat}{N:aX->aX}(l:aF b R z h m)(e:h u=Z (.lst E))(i:m.heap.get? u=Z {cls:=.type "list",data:=.seq UW.toArray s})(g:N {cls:=.type "list",data:=.seq UW.toArray s}={cls:=.type "list",data:=.seq w.toArray a})(j:cp U0 w)(k:U0.length<=sizeLine)(C:Nat):
  aF b R z (upd h u<|.lst U0) {m with heap:=m.heap.update u N,toks:=C}:=by
 have c:(m.heap.update u N).get? u=Z {cls:=.type "list",data:=.seq w.toArray a}:=by
  rw[l6 N i (by rw[g]<;>rfl),g]
 refine l.write (f:=u) (c:=u) (by rw[e];trivial) (.inl rfl) (λd J n p=>(gJ _ _<|Ne.symm n).trans p) ⟨_,c⟩ ?_;exact⟨k,w,a,j,c⟩
def Mi:ak->ak->ak->ax->(ax->Prop)->Prop:=(λn a v h A=>∃u E q i,n=.ref u/\a=.int q/\h u=Z (.lst E)/\jC E.length q=Z i/\A (upd h u<|.lst<|E.set i v))
def Js:yt b Mi:=by
 intro R m z h n a v H I J A l k x D e;let⟨u,E,q,@i,rfl,rfl,g,F,p⟩:=e;cases k;let⟨@C,rfl⟩:=x;let⟨UW,@s,j,c,G⟩:=l.lst g;let@⟨y,B,o,r⟩:=Bc F;have d:=j.length;have L:=pQ;have t:aF b R z (upd h u<|.lst<|E.set i v) {m with heap:=m.heap.update u (aX.mapSeq (·.setIfInBounds i J))}:=
  l.JZ g c (Q3 UW s i J) (j.set D i) (by rw[u9];exact G) m.toks;by_cases w:0<=q
 ·have f:q.toNat=i:=by
   rw[Ae w r]at y;exact Option.some.inj y
  exact PySem.W.ki_setAt c w ⋯ (by rw[cJ,<-d];exact r) (by rw[f];exact⟨_,t,p⟩)
 ·have f:(q+(UW.toArray.size:Int)).toNat=i:=by
   rw[zr ⋯ o]at y;rw[cJ,<-d];exact Option.some.inj y
  exact PySem.W.ki_setBack c ⋯ (by rw[cJ,<-d];exact o) ⋯ (by rw[f];exact⟨_,t,p⟩)
def EL:eR b (.builtin "len") (λE h A=>∃u U0,E=[.ref u]/\(c9 b.K h u U0\/cC b.K h u U0)/\A (.int U0.length) h):=by
 intro R m z h E Va A l j e;let⟨u,@U0,rfl,a,p⟩:=e;let⟨@J,rfl,d⟩:=iM j;cases d;have g:=pQ;rcases a with a|a
 ·let⟨@UW,VA,bQ,f⟩:=l.list a;have c:=VA.length;exact Calls.call_len_list bQ.isList (by simp only[cJ]<;>lia) ⟨.int U0.length,h,l.tok _,⟨m.toks+1,by rw[cJ,c]⟩,p⟩
 ·let⟨@UW,VA,bQ,f⟩:=l.tuple a;have c:=VA.length;exact len_tuple bQ (by simp only[cJ]<;>lia) ⟨.int U0.length,h,l.tok _,⟨m.toks+1,by rw[cJ,c]⟩,p⟩
def OW:eR b (.builtin "len") (λE h A=>∃k,E=[.str k]/\k.length<=sizeLine/\A (.int k.length) h):=by
 intro R m z h E Va A l j e;let⟨@k,rfl,a,p⟩:=e;let⟨@J,rfl,⟨@C,rfl⟩⟩:=iM j;have c:=pQ;exact len_str ⋯ ⟨.int k.length,h,l.tok _,⟨_,rfl⟩,p⟩
def eR.or{N:ab}{j VA:List ak->ax->cL->Prop}(e:eR b N j)(S:eR b N VA):eR b N (λE h A=>j E h A\/VA E h A):=by
 intro R m z h E Va A l V7 p;rcases p with p|p
 ·exact e R m z h E Va A l V7 p
 ·exact S R m z h E Va A l V7 p
def Sx:eR b (.type "list") (λE h A=>∃u U0,E=[.ref u]/\(c9 b.K h u U0\/cC b.K h u U0)/\∀I,h I=Y->A (.ref I) (upd h I<|.lst U0)):=by
 intro R m z h E Va A l j e;let⟨u,@U0,rfl,f,p⟩:=e;let⟨@J,rfl,q⟩:=iM j;cases q;have o:∀(UW:List ab),cp U0 UW->U0.length<=sizeLine->∀(S:aZ) (a:Nat),(∀d Vk,m.heap.get? d=Z Vk->S.get? d=Z Vk)->
   S.get? m.heap.objs.size=Z {cls:=.type "list",dict:=Y,data:=.seq UW.toArray a,slots:=#[]}->ec b R z A (.ref m.heap.objs.size) {m with heap:=S}:=λUW VA g S a dE c=>
  ⟨.ref m.heap.objs.size,_,l.laid (Vd:=m.toks) dE (bb _)<|show d0 b.prog b.w _ S _ (.lst U0) from ⟨g,UW,a,VA,c⟩,rfl,p _<|l.aY.fresh<|bb _⟩;rcases f with f|f
 ·let⟨@UW,VA,bQ,g⟩:=l.list f;have r:=VA.length;let⟨@n,i,k,⟨@s,hd⟩⟩:=bQ.isList;exact HR u (.inl rfl) i k hd (λS a dE c=>o UW VA g S a dE c) (by simp only[cJ]<;>lia)
 ·let⟨@UW,VA,bQ,g⟩:=l.tuple f;have r:=VA.length;let⟨@n,i,k,⟨@s,hd⟩⟩:=bQ;exact HR u (.inr rfl) i k hd (λS a dE c=>o UW VA g S a dE c) (by simp only[cJ]<;>lia)
def JK:eR b (.type "tuple") (λE h A=>∃u U0,E=[.ref u]/\((c9 b.K h u U0/\∀I,h I=Y->A (.ref I) (upd h I<|.tup U0))\/(cC b.K h u U0/\A (.ref u) h))):=by
 intro R m z h E Va A l j e;let⟨u,@U0,rfl,e⟩:=e;let⟨@J,rfl,i⟩:=iM j;cases i;rcases e with ⟨a,p⟩|⟨a,p⟩
 ·let⟨@UW,VA,bQ,f⟩:=l.list a;have o:=VA.length;refine call_tuple_list bQ.isList (λS dE=>?_) (by simp only[cJ]<;>lia);have g:aF b R z h {m with heap:=S}:=l.kept (Vd:=m.toks) dE;have k:aF b R z (upd h S.objs.size<|.tup U0) {m with heap:=S.push {cls:=.type "tuple",data:=.seq UW.toArray} }:=
   g.laid (Vd:=m.toks) (λd n c=>bT _ c) (bb _) (show d0 b.prog b.w _ _ _ (.tup U0) from ⟨f,UW,VA,og.new _ _⟩);exact⟨.ref S.objs.size,_,k,rfl,p _<|g.aY.fresh<|bb _⟩
 ·let⟨@UW,VA,bQ,f⟩:=l.tuple a;exact call_tuple_same bQ ⟨.ref u,h,l,rfl,p⟩
def lp(UK:Φ)(UO:String)(f:ak)(h:ax):Prop:=(match f with
 |.str _=>UO = "str"
 |.int _=>UO = "int"
 |.ref u=>(UO = "list" /\ ∃E,c9 UK h u E)\/(UO = "tuple" /\ ∃n,UK.lookup u=Z n/\n.cls=.type "tuple" /\ n.dict=Y)\/
   (UO = "dict" /\ ((∃UX,h u=Z (.dn UX))\/∃UX,h u=Z (.aJ UX)))\/(UO = "set" /\ ∃UM s,h u=Z (.set UM s))
 |_=>False)
def HE{UO:String}{f:ak}{v:ab}(l:aF b R z h m)(j:bY f v)(ty:lp b.K UO f h):
  m.TypeIs v UO/\∀g,v=.ref g->∃Vl,m.heap.get? g=Z Vl/\Vl.dict=Y:=by
 cases f with
 |str k=>
  let⟨@C,rfl⟩:=j;cases (show UO = "str" from ty);exact⟨z1 m k C,λ_ c=>nomatch c⟩
 |int a=>
  let⟨@C,rfl⟩:=j;cases (show UO = "int" from ty);exact⟨typeIs_int m a C,λ_ c=>nomatch c⟩
 |ref u=>
  cases j;rcases ty with ⟨rfl,E,i⟩|⟨rfl,n,d,p,hd⟩|⟨rfl,d⟩|⟨rfl,UM,s,d⟩
  ·let⟨@UW,W,bQ,W⟩:=l.list i;refine⟨bQ.isList.typeIs,λg c=>?_⟩;cases c;let⟨n,@s,c,o,hd,W⟩:=bQ;exact⟨n,c,hd⟩
  ·refine⟨⟨n,l.nD u n d,p⟩,λg c=>?_⟩;cases c;exact⟨n,l.nD _ n d,hd⟩
  ·have k:∃n,m.heap.get? u=Z n/\n.ExactDict:=by
    rcases d with ⟨UX,d⟩|⟨UX,d⟩
    ·let@⟨_,_,⟨@_,_,⟨n,_,@_,c,Vs,_⟩⟩⟩:=l.aY u _ d;exact⟨n,c,Vs⟩
    ·let@⟨_,_,⟨@_,_,⟨n,_,@_,c,Vs,_⟩⟩⟩:=l.aY u _ d;exact⟨n,c,Vs⟩
   let⟨@n,c,Vs⟩:=k;refine⟨⟨n,c,Vs.1⟩,λg e=>?_⟩;cases e;exact⟨n,c,Vs.2.1⟩
  ·let⟨n,W,W,@W,c,Vs,W⟩:=l.aY u _ d;refine⟨⟨n,c,Vs.1⟩,λg e=>?_⟩;cases e;exact⟨n,c,Vs.2.1⟩
 |_=>exact False.elim ty
def Oc(UK:Φ)(UO:String)(j:ak->List ak->ax->cL->Prop)(t:cb):cb:=(λz h A=>t z h λf UP=>lp UK UO f UP/\j f [] UP A)
def PH(UK:Φ)(UO:String)(j:ak->List ak->ax->cL->Prop)(t:cb)(C:eZ):cb:=(λz h A=>t z h λf UP=>lp UK UO f UP/\C z UP λE U6=>j f E U6 A)
variable{n c:bh}{T:List bh}{t:cb}{C:eZ}{name:aC}{V6 M:Pos}{UO id:String}{j:ak->List ak->ax->cL->Prop}
def MM(bX:wI UO)(VU:nS UO name id)(d:pC (.builtin id)=pure (.type "method_descriptor"))(g:Ag b id j)(i:bD b n t)(k:mY n name b.env (b7 n b.env)=b7 n b.env:=by rfl)(o:(V6.endLine==M.line)=X:=by rfl):bD b (.Call (.Attribute n name V6) [] [] M) (Oc b.K UO j t):=by
 intro R m z h A l e;refine wpAny_Call_method0_late k o (bZ (i R m z h _ l e) λv p q=>?_);let⟨f,@UP,a,c,ty,r⟩:=q;let@⟨y,B⟩:=HE a c ty;exact⟨UO,id,bX,VU,d,y,B,AZ rfl<|Gf<|g R p z UP f [] v [] A a c .nil r⟩
def Et(bX:wI UO)(VU:nS UO name id)(k:pC (.builtin id)=pure (.type "method_descriptor"))(o:Ag b id j)(p:bD b n t)(q:hz b (c::T) C)(r:mY n name b.env (b7 n b.env)=b7 n b.env:=by rfl)(s:((e5 M<|bS (c::T) b.env).all (λf=>!f.1)&&(uc M<|uB [] b.env).all (λf=>f.1.isSome)
   && decide ((c::T).length+([]:List md).length+(if ([]:List md).isEmpty then 0 else 1)<30))=X:=by rfl)(u:(V6.endLine==M.line)=X:=by rfl)(ar:bS (c::T) b.env=(av,b7 c b.env)::bS T b.env:=by rfl)(w:(e5 M<|bS T b.env).any (·.1)=av:=by rfl):
  bD b (.Call (.Attribute n name V6) (c::T) [] M) (PH b.K UO j t C):=by
 intro R m z h A l e;refine wpAny_Call_method_late r s u rfl (bZ (p R m z h _ l e) λv x a=>?_);let⟨f,@UP,d,g,ty,D⟩:=a;let@⟨y,B⟩:=HE d g ty;refine⟨UO,id,bX,VU,k,y,B,?_⟩;have i:=q M R x z UP _ d D;rw[ar]at i ⊢;refine AZ (by show (av || (e5 M<|bS T b.env).any (·.1))=av;rw[w]<;>rfl) (HD ?_);refine bZ i λVa E a=>?_;let⟨U,@U6,F,G,H⟩:=a;exact o R E z U6 f U v Va A F g G H
end
def AP(b:aO)(id:String)(j:ak->List ak->ax->cL->Prop):Prop:=(
 ∀(R:List (ah×aX)) (m:ai) (z:a7) (h:ax) (f:ak) (E:List ak) (v:ab) (Va:List ab) (A:cL),aF b R z h m->bY f v->cp E Va->j f E h A->
  wpAny (aR b.prog b.w) b.A (call (.builtin id) (v::Va)) (ec b R z A) b.cF m)
theorem cp.one:∀{f:ak}{Va:List ab},cp [f] Va->∃J,Va=[J]/\bY f J
 |_,_,.cons j .nil=>⟨_,rfl,j⟩
theorem cp.zero:∀{Va:List ab},cp [] Va->Va=[]
 |_,.nil=>rfl
def cp.dropLast{E:List ak}(e:cp E Va):cp E.dropLast Va.dropLast:=by
 induction e with
 |nil=>exact .nil
 |cons j C a=>
  cases C with
  |nil=>exact .nil
  |cons p Vd=>exact .cons j a
def TU(I:List U_):I.eraseIdx (I.length-1)=I.dropLast:=by
 induction I with
 |nil=>rfl
 |cons g j a=>
  cases j with
  |nil=>rfl
  |cons d j=>
   have c:(g::d::j).length-1=((d::j).length-1)+1:=by
    have y:(g::d::j).length=j.length+2:=rfl;have B:(d::j).length=j.length+1:=rfl;lia
   rw[c,List.eraseIdx_cons_succ,a];all_goals rfl
section
variable{b:aO}{R:List (ah×aX)}{z:a7}{h:ax}{m:ai}{I d:ah}{E U0 VG:List ak}
def aF.xy{N:Array ab->Array ab}(l:aF b R z h m)(a:h I=Z (.lst E))(c:m.heap.get? I=Z {cls:=.type "list",data:=.seq UW.toArray s})(d:N UW.toArray=w.toArray)(e:cp U0 w)(g:U0.length<=sizeLine):
  aF b R z (upd h I<|.lst U0) {m with heap:=m.heap.update I (aX.mapSeq N),toks:=Vd}:=by
 have p:=Fl c N;rw[d]at p;refine l.write (f:=I) (c:=I) (by rw[a];exact trivial) (.inl rfl) (λk J i j=>(gJ m.heap (aX.mapSeq N)<|Ne.symm i).trans j) ⟨_,p⟩ ?_;exact⟨g,w,_,e,p⟩
def aF.Oy(l:aF b R z h m)(a:cp U0 UW)(c:U0.length<=sizeLine):
  aF b R z (upd h m.heap.objs.size<|.lst U0) {m with heap:=m.heap.push {cls:=.type "list",data:=.seq UW.toArray},toks:=Vd}:=
 l.laid (λ_ W p=>bT _ p) (bb _) ⟨c,UW,0,a,cR _ rfl⟩
def aF.fresh(l:aF b R z h m):h m.heap.objs.size=Y:=l.aY.fresh (bb _)
def aF.dY(l:aF b R z h m)(a:h I=Z (.lst E)):E.length<=sizeLine/\∃(UW:List ab) (s:Nat),cp E UW/\E.length=UW.length/\m.heap.get? I=Z {cls:=.type "list",data:=.seq UW.toArray s}:=by
 let@⟨k,⟨UW,@s,j,c⟩⟩:=l.aY I _ a;exact⟨k,UW,s,j,j.length,c⟩
def R0(e:s<=sizeLine):br.List.listTooLong s=av:=by
 unfold br.List.listTooLong;exact el ⋯
end
section
variable{b:aO}
def SN:ak->List ak->ax->cL->Prop:=(λf U h A=>∃I E x,f=.ref I/\U=[x]/\h I=Z (.lst E)/\E.length<sizeLine/\A .aS (upd h I<|.lst<|E++[x]))
def G7:AP b "list.append" SN:=by
 intro R m z h f U v Va A l d g e;let⟨I,E,@x,rfl,rfl,a,n,p⟩:=e;cases d;let⟨@J,rfl,i⟩:=g.one;let@⟨k,⟨UW,@s,j,o,c⟩⟩:=l.dY a;refine ub I4 ⟨_,c,rfl⟩ Bt (Fm _ _) (DP I UW.toArray s J (by rw[cJ];lia)) ⟨c,?_⟩;refine⟨.aS,_,l.xy (w:=UW++[J]) a c ↥0 (j.append<|.cons i .nil) ?_,rfl,p⟩;rw[dW,jj];lia
def OX:ak->List ak->ax->cL->Prop:=(λf U h A=>∃I d E VG,f=.ref I/\U=[.ref d]/\h I=Z (.lst E)/\h d=Z (.lst VG)/\E.length+VG.length<=sizeLine/\A .aS (upd h I<|.lst<|E++VG))
def NF:AP b "list.extend" OX:=by
 intro R m z h f U v Va A l i n e;let⟨I,d,E,@VG,rfl,rfl,g,o,y,p⟩:=e;cases i;let⟨@J,rfl,q⟩:=n.one;cases q;let@⟨k,⟨UW,@s,j,B,c⟩⟩:=l.dY g;let@⟨C,⟨a,@VT,r,D,t⟩⟩:=l.dY o;have u:UW.toArray.size+a.toArray.size<=sizeLine:=by rw[cJ,cJ];lia
 have x:¬ (!UW.toArray.isEmpty&&br.List.listTooLong (UW.toArray.size+a.toArray.size))=X:=by
  rw[R0 u,H7];exact cU
 refine ub F.slot_list_extend ⟨_,c,rfl⟩ F.entry_list_extend (F.args_list_extend_2 _ _)
  (AutoSeq1.list_extend_list_list_0 I UW.toArray s d a.toArray VT x (by rw[cJ];lia) ⋯) ⟨c,t,?_⟩;refine⟨.aS,_,l.xy (w:=UW++a) g c ↥0 (j.append r) ?_,rfl,p⟩;rw[dW];lia
def Nq:ak->List ak->ax->cL->Prop:=(λf U h A=>∃I E x,f=.ref I/\U=[]/\h I=Z (.lst E)/\E[E.length-1]?=Z x/\A x (upd h I<|.lst E.dropLast))
def QW:AP b "list.pop" Nq:=by
 intro R m z h f U v Va A l d g e;let⟨I,E,@x,rfl,rfl,a,i,p⟩:=e;cases d;have n:=g.zero;subst n;let@⟨k,⟨UW,@s,j,o,c⟩⟩:=l.dY a;let⟨@J,q,r⟩:=j.get i;have t:UW.toArray[UW.toArray.size-1]?=Z J:=by
  show UW.toArray[UW.length-1]?=Z J;rw[<-eA,<-o];exact q
 refine ub F.slot_list_pop ⟨_,c,rfl⟩ F.entry_list_pop (F.args_list_pop_1 _) (MeetsSeq.list_pop_last I UW.toArray s J t (by rw[cJ];lia)) ⟨c,?_⟩;refine⟨x,_,l.xy (w:=UW.dropLast) a c ?_ j.dropLast ?_,r,p⟩
 ·show UW.toArray.eraseIdxIfInBounds (UW.toArray.size-1)=UW.dropLast.toArray;rw[cJ,IT,TU]
 ·rw[List.length_dropLast];lia
def TZ:bU:=(λf x h A=>∃I d E VG,f=.ref I/\x=.ref d/\h I=Z (.lst E)/\h d=Z (.lst VG)/\E.length+VG.length<=sizeLine/\∀u,h u=Y->A (.ref u) (upd h u<|.lst<|E++VG))
def TS:dH b (gi .Add) TZ:=by
 intro R m z h f x v J A l g i e;let⟨I,d,E,@VG,rfl,rfl,n,o,u,p⟩:=e;cases g;cases i;let@⟨k,⟨UW,@s,j,w,c⟩⟩:=l.dY n;let@⟨y,⟨a,@VT,q,B,r⟩⟩:=l.dY o;refine PySem.P.add_list c r ?_ (by rw[cJ,cJ];lia);have t:UW.toArray++a.toArray=(UW++a).toArray:=by simp
 rw[t];exact⟨.ref _,_,l.Oy (Vd:=m.toks) (j.append q) (by rw[dW];lia),rfl,p _ l.fresh⟩
end
section
variable{U7:Type}[DecidableEq U7]
def ho(UX:List (U7×ak))(q:U7):Option ak:=((UX.find? λa=>decide (a.1=q)).map (·.2))
def iq(UX:List (U7×ak))(q:U7)(v:ak):List (U7×ak):=(
 if (UX.any λa=>decide (a.1=q))=X then UX.map (λa=>if a.1=q then (a.1,v) else a) else UX++[(q,v)])
def uW{u:U7×ak}{j:List (U7×ak)}{q:U7}(c:u.1=q):ho (u::j) q=Z u.2:=by simp[ho,kN,c]
def tx{u:U7×ak}{j:List (U7×ak)}{q:U7}(c:¬ u.1=q):ho (u::j) q=ho j q:=by simp[ho,kN,c]
theorem HI(q:U7):∀UX:List (U7×ak),(UX.any λa=>decide (a.1=q))=(ho UX q).isSome
 |[]=>rfl
 |u::j=>by
  rw[oR];by_cases c:u.1=q
  ·simp only[uW c,dQ c,Hg,Option.isSome_some]
  ·rw[tx c,el c,GO];exact HI q j
def DA(UX:List (U7×ak))(q:U7)(v:ak):(iq UX q v).length<=UX.length+1:=by
 unfold iq;split
 ·rw[bl];lia
 ·rw[dW,dz,iW];lia
def jl.sv(j:jl n J):n.isSome=J.isSome:=by
 cases n with
 |none=>cases J with
  |none=>rfl
  |some _=>exact (show False from j).elim
 |some _=>cases J with
  |none=>exact (show False from j).elim
  |some _=>rfl
def jl.getD{r:ak}{VD:ab}(j:jl n J)(a:bY r VD):bY (n.getD r) (J.getD VD):=by
 cases n with
 |none=>cases J with
  |none=>exact a
  |some _=>exact (show False from j).elim
 |some _=>cases J with
  |none=>exact (show False from j).elim
  |some _=>exact j
def fX.val{UX:List (U7×ak)}{U:List (U7×ab)}(j:fX UX U)(q:U7):jl (ho UX q) (oy U q):=by
 unfold fX at j;induction j with
 |nil=>exact True.intro
 |@cons u p U1 a e C f=>
  let@⟨y,B⟩:=e;by_cases c:u.1=q
  ·have b:p.1=q:=y.symm.trans c;have d:oy (p::a) q=Z p.2:=by simp[oy,kN,b]
   rw[uW c,d];exact B
  ·have b:¬ p.1=q:=λk=>c (y.trans k);have d:oy (p::a) q=oy a q:=by simp[oy,kN,b]
   rw[tx c,d];exact f
def fX.any{UX:List (U7×ak)}{U:List (U7×ab)}(j:fX UX U)(q:U7):(UX.any λa=>decide (a.1=q))=U.any λa=>decide (a.1=q):=by
 unfold fX at j;induction j with
 |nil=>rfl
 |cons e C b=>rw[oR,oR,b,e.1]
def fX.yN{UX:List (U7×ak)}{U:List (U7×ab)}(j:fX UX U)(q:U7){x:ak}{J:ab}(b:bY x J):
  fX (UX.map λa=>if a.1=q then (a.1,x) else a) (U.map λa=>if a.1=q then (a.1,J) else a):=by
 unfold fX at j ⊢;induction j with
 |nil=>exact .nil
 |@cons u p U1 f e C d=>
  rw[cw,cw];refine .cons ?_ d;let@⟨y,B⟩:=e;by_cases c:u.1=q
  ·rw[aK c,aK<|y.symm.trans c];exact⟨y,b⟩
  ·rw[aL c,aL<|λk=>c<|y.trans k];exact⟨y,B⟩
def fX.put{UX:List (U7×ak)}{U:List (U7×ab)}(j:fX UX U)(q:U7){x:ak}{J:ab}(a:bY x J):fX (iq UX q x) (stored U q J):=by
 unfold iq stored;rw[j.any q];by_cases c:(U.any λb=>decide (b.1=q))=X
 ·rw[aK c,aK c];exact j.yN q a
 ·rw[aL c,aL c];exact eg.snoc j ⟨rfl,a⟩
def fX.length{UX:List (U7×ak)}{U:List (U7×ab)}(j:fX UX U):UX.length=U.length:=eg.length j
end
def sx{q:ew}{J:ab}(j:bY (cv q) J):(l0 UT D).is q J=X:=by
 cases q with
 |inl a=>let⟨@C,c⟩:=(show ∃C,J=ab.int a C from j);subst c;exact NX UT D a C
 |inr f=>let⟨@C,c⟩:=(show ∃C,J=ab.str f C from j);subst c;exact MV UT D f C
abbrev hQ(h:ax):List (List V×ak)->List (List V×ah×ab)->Prop:=eg λu p=>u.1=p.1/\iE h u.1 p.2.1/\bY u.2 p.2.2
def hQ.val(j:hQ h UX E)(q:List V):jl (ho UX q) ((l4 E q).map (·.2)):=by
 induction j with
 |nil=>exact True.intro
 |@cons u p U1 a e C f=>
  let@⟨y,_,B⟩:=e;by_cases c:u.1=q
  ·have b:p.1=q:=y.symm.trans c;have d:l4 (p::a) q=Z p.2:=by simp[l4,kN,b]
   rw[uW c,d];exact B
  ·have b:¬ p.1=q:=λk=>c (y.trans k);have d:l4 (p::a) q=l4 a q:=by simp[l4,kN,b]
   rw[tx c,d];exact f
def hQ.yN(j:hQ h UX E)(q:List V){x:ak}{J:ab}(b:bY x J):
  hQ h (UX.map λa=>if a.1=q then (a.1,x) else a) (E.map<|putAt q J):=by
 induction j with
 |nil=>exact .nil
 |@cons u p U1 g e C d=>
  rw[cw,cw];refine .cons ?_ d;let@⟨y,B,f⟩:=e;unfold putAt;by_cases c:u.1=q
  ·rw[aK c,aK<|y.symm.trans c];exact⟨y,B,b⟩
  ·rw[aL c,aL<|λk=>c<|y.trans k];exact⟨y,B,f⟩
def hQ.put(j:hQ h UX E)(q:List V){d:ah}{x:ak}{J:ab}(b:iE h q d)(a:bY x J):
  hQ h (iq UX q x) (storedH E q d J):=by
 have c:(UX.any λe=>decide (e.1=q))=(l4 E q).isSome:=by
  rw[HI,(j.val q).sv,vk]
 unfold iq storedH;rw[c];by_cases p:(l4 E q).isSome=X
 ·rw[aK p,aK p];exact j.yN q a
 ·rw[aL p,aL p];exact eg.snoc j ⟨rfl,b,a⟩
def hQ.keeps(j:hQ h UX E)(bP:∀d U0,h d=Z (.tup U0)->Q d=Z (.tup U0)):hQ Q UX E:=
 eg.uh j λ_ W k=>⟨k.1,k.2.1.mono bP,k.2.2⟩
section
variable{UT:bC}{D:bc}{h:ax}{e:aZ}{g:ah}
def FI{J:e1}(ok:d_ UT D h e)(c:jE h g J):d0 UT D h e g J:=c.ok ok
def mK{UX:List (ew×ak)}(ok:d_ UT D h e)(c:jE h g (.dn UX)):UX.length<=sizeLine/\(g==h_)=av/\∃U,fX UX U/\e.DictOf (l0 UT D) g U:=
 show d0 UT D h e g (.dn UX) from FI ok c
def PK{UX:List (ew×ak)}(ok:d_ UT D h e)(c:h g=Z (.dn UX)):UX.length<=sizeLine/\(g==h_)=av/\∃U,fX UX U/\e.DictOf (l0 UT D) g U:=mK ok (.inl c)
mutual
theorem cf.e8(ok:d_ UT D h e):∀{r:V}{v:ak}{J:ab},cf h r v->bY v J->de e r J
 |.aS,_,_,c,j=>by cases (show _=ak.aS from c);exact j
 |.aE d,_,_,c,j=>by cases (show _=ak.aE d from c);exact j
 |.int a,_,_,c,j=>by cases (show _=ak.int a from c);exact j
 |.str f,_,_,c,j=>by cases (show _=ak.str f from c);exact j
 |.fn g,_,_,c,j=>by cases (show _=ak.ref g from c);exact j
 |.tup H,_,_,c,j=>by
  let⟨g,@E,rfl,y,B⟩:=c;cases j;let@⟨_,⟨@UW,b,⟨@n,i,k,⟨@s,l⟩⟩⟩⟩:=(show d0 UT D h e g (.tup E) from ok g _ y);exact⟨g,n,UW.toArray,s,rfl,i,(Prod.mk.inj k).1,l,by simpa using bI.e8 ok B b⟩
 |.aT H,_,_,c,j=>by
  let⟨g,E,@n,rfl,y,B⟩:=c;cases j;exact⟨g,rfl⟩
 |.fd,_,_,c,j=>by
  let⟨g,@n,rfl,y⟩:=c;cases j;exact⟨g,rfl⟩
theorem bI.e8(ok:d_ UT D h e):∀{H:List V}{U:List ak}{Va:List ab},bI h H U->cp U Va->dG e H Va
 |[],_,_,c,j=>by cases (show _=[] from c);cases j;rfl
 |r::H,_,_,c,j=>by
  let⟨v,@C,rfl,y,B⟩:=c;cases j with
  |cons a b=>exact⟨_,_,rfl,cf.e8 ok y a,bI.e8 ok B b⟩
end
def qG{M:List V}(ok:d_ UT D h e)(c:iE h M g):(fs UT D).is e M g:=⟨c.1,c.2.e8 ok rfl⟩
def sr{UT:bC}{D:bc}{O:bw}(e:O.units+20<bR):(fs UT D).room O.in1:=show O.units+1+10<bR by lia
def oe(ok:d_ UT D h e)(c:jE h g (.aJ UX)):UX.length<=sizeLine/\(g==h_)=av/\
  ∃E,hQ h UX E/\e.DictOfH (fs UT D) g E:=by
 let@⟨k,x,⟨@E,j,⟨n,T,@U9,y,B,d,i,l⟩⟩⟩:=(show d0 UT D h e g (.aJ UX) from FI ok c);refine⟨k,x,E,j,n,T,U9,y,B,d,i,λf a=>?_,l⟩;have all:∀{I:List (List V×ak)}{t:List (List V×ah×ab)},hQ h I t->∀f∈t,(fs UT D).is e f.1 f.2.1:=by
  intro I t p;induction p with
  |nil=>intro f a;exact nomatch a
  |@cons u p U1 o b C m=>
   intro f a;rcases b9.mp a with c|a
   ·subst c;exact qG ok (by rw[<-b.1];exact b.2.1)
   ·exact m f a
 exact all j f a
def Qf(ok:d_ UT D h e)(c:h g=Z (.aJ UX)):UX.length<=sizeLine/\(g==h_)=av/\
  ∃E,hQ h UX E/\e.DictOfH (fs UT D) g E:=oe ok (.inl c)
end
def f9(h:ax)(g:ah)(x:ak)(j:Option ak):Prop:=(
 (∃UX q,jE h g (.dn UX)/\x=cv q/\j=ho UX q)\/∃UX q d,jE h g (.aJ UX)/\x=.ref d/\iE h q d/\j=ho UX q)
def nJ(h:ax)(g:ah)(x v:ak)(Q:ax):Prop:=(
 (∃UX q,h g=Z (.dn UX)/\x=cv q/\UX.length<sizeLine/\Q=upd h g (.dn<|iq UX q v))\/
 ∃UX q d,h g=Z (.aJ UX)/\x=.ref d/\iE h q d/\UX.length<sizeLine/\Q=upd h g (.aJ<|iq UX q v))
def f9.k{h:ax}{g:ah}{UX:List (ew×ak)}{q:ew}(c:h g=Z (.dn UX)):f9 h g (cv q) (ho UX q):=.inl ⟨UX,q,.inl c,rfl,rfl⟩
def f9.t{h:ax}{g d:ah}{UX:List (List V×ak)}{q:List V}(c:h g=Z (.aJ UX))(a:iE h q d):f9 h g (.ref d) (ho UX q):=.inr ⟨UX,q,d,.inl c,rfl,a,rfl⟩
def nJ.k{h:ax}{g:ah}{UX:List (ew×ak)}{q:ew}{v:ak}(c:h g=Z (.dn UX))(a:UX.length<sizeLine):nJ h g (cv q) v (upd h g<|.dn<|iq UX q v):=.inl ⟨UX,q,c,rfl,a,rfl⟩
def nJ.t{h:ax}{g d:ah}{UX:List (List V×ak)}{q:List V}{v:ak}(c:h g=Z (.aJ UX))(a:iE h q d)(b:UX.length<sizeLine):
  nJ h g (.ref d) v (upd h g<|.aJ<|iq UX q v):=.inr ⟨UX,q,d,c,rfl,a,b,rfl⟩
section
variable{b:aO}{R:List (ah×aX)}{z:a7}{h:ax}{m:ai}{g:ah}{x v:ak}{J j:ab}{n:Option ak}{O:bw}{UH:ab->ai->Prop}
def aF.big(l:aF b R z h m):h_<m.heap.objs.size:=by
 have e:dx<m.heap.objs.size:=(l.mod.glob.keeps l.fg).lt;exact ql ∅ e
def Lg(s:O.units+20<bR)(l:aF b R z h m)(F:f9 h g x (Z v))(r:bY x J)(e:∀a UI,aF b R z h UI->bY v a->A a UI):
  wpAny (aR b.prog b.w) O (getItem (.ref g) J) A UH m:=by
 rcases F with ⟨UX,q,c,f,I⟩|⟨UX,q,d,c,f,t,I⟩
 ·subst f;let@⟨k,hd,⟨@U,i,j⟩⟩:=mK l.aY c;let⟨@a,o,p⟩:=jl.some_of (v:=v) (n:=oy U q) (by rw[I];exact i.val q);exact wpAny_getItem_of (sx r) j.mapOf o (e a _ (l.tok _) p)
 ·subst f;cases (show J=ab.ref d from r);let@⟨k,hd,⟨@E,i,j⟩⟩:=oe l.aY c;let⟨@a,o,p⟩:=jl.some_of (v:=v) (n:=(l4 E q).map (·.2)) (by rw[I];exact i.val q);let⟨@u,y,B⟩:=cm.mp o;refine wpAny_getItem_heap (sr s) (qG l.aY t) j y ?_;rw[B];exact e a _ (l.tok _) p
def yL(o:O.units+20<bR)(l:aF b R z h m)(F:f9 h g x n)(j:bY x J)(e:∀UI,aF b R z h UI->A (.bool n.isSome) UI):
  wpAny (aR b.prog b.w) O (d1 .In J<|.ref g) A UH m:=by
 rcases F with ⟨UX,q,c,a,I⟩|⟨UX,q,d,c,a,r,I⟩
 ·subst a;let@⟨k,hd,⟨@U,f,i⟩⟩:=mK l.aY c;refine wpAny_in_of (sx j) hd i.mapOf ?_;rw[<-(f.val q).sv,<-I];exact e _ (l.tok _)
 ·subst a;cases (show J=ab.ref d from j);let@⟨k,hd,⟨@E,f,i⟩⟩:=oe l.aY c;refine wpAny_in_heap (sr o) (qG l.aY r) hd i ?_;have p:=(f.val q).sv;rw[vk]at p;rw[<-p,<-I];exact e _ (l.tok _)
def yn(o:O.units+20<bR)(l:aF b R z h m)(F:f9 h g x n)(j:bY x J)(e:∀UI,aF b R z h UI->A (.bool<|!n.isSome) UI):
  wpAny (aR b.prog b.w) O (d1 .NotIn J<|.ref g) A UH m:=by
 rcases F with ⟨UX,q,c,a,I⟩|⟨UX,q,d,c,a,r,I⟩
 ·subst a;let@⟨k,hd,⟨@U,f,i⟩⟩:=mK l.aY c;refine wpAny_notIn_of (sx j) hd i.mapOf ?_;rw[<-(f.val q).sv,<-I];exact e _ (l.tok _)
 ·subst a;cases (show J=ab.ref d from j);let@⟨k,hd,⟨@E,f,i⟩⟩:=oe l.aY c;refine wpAny_notIn_heap (sr o) (qG l.aY r) hd i ?_;have p:=(f.val q).sv;rw[vk]at p;rw[<-p,<-I];exact e _ (l.tok _)
def BC{Vl:e1}(l:aF b R z h m)(a:o2 (h g))(ar:aZ.SameBut g m.heap S)(e:∃p,S.get? g=Z p)(new:d0 b.prog b.w (upd h g Vl) S g Vl):
  aF b R z (upd h g Vl) {m with heap:=S,toks:=Vd}:=
 l.write (f:=g) (c:=g) a (.inl rfl) (λd p i k=>(ar.2 d i).trans k) e new
def LW{UX:List (ew×ak)}{U:List (ew×ab)}(k:UX.length<=sizeLine)(hd:(g==h_)=av)(a:fX UX U)(b:S.DictOf (l0 UT D) g U):
  d0 UT D Q S g (.dn UX):=⟨k,hd,U,a,b⟩
def EH{A:Unit->ai->Prop}(L:O.units+20<bR)(l:aF b R z h m)(F:nJ h g x v Q)(y:bY x J)(C:bY v j)(e:∀UI,aF b R z Q UI->A () UI):
  wpAny (aR b.prog b.w) O (tI (.ref g) J j) A UH m:=by
 rcases F with ⟨UX,q,c,n,I,r⟩|⟨UX,q,d,c,n,G,I,r⟩
 ·subst n r;let@⟨k,hd,⟨@U,a,s⟩⟩:=PK l.aY c;have t:U.length<=sizeLine:=by rw[<-a.length];exact k
  have u:(iq UX q v).length<=sizeLine:=by have:=DA UX q v;lia
  refine wpAny_setItem_pairs (hsz:=t) (sx y) s λS f ar=>e _ ?_;have N:∃p,S.get? g=Z p:=let ⟨p,_,_,i,_⟩:=f;⟨p,i⟩
  exact BC l (by rw[c];exact True.intro) ar N (LW u hd (a.put q C) f)
 ·subst n r;cases (show J=ab.ref d from y);let@⟨k,hd,⟨@E,a,s⟩⟩:=Qf l.aY c;have t:E.length<=sizeLine:=by rw[<-eg.length a];exact k
  have u:(iq UX q v).length<=sizeLine:=by have:=DA UX q v;lia
  refine wpAny_setItem_heap (hsz:=t) (sr L) (qG l.aY G) s λS f ar=>e _ ?_;let⟨p,T,@U9,i,B,P,al,W,am⟩:=f;refine BC l (by rw[c];exact True.intro) ar ⟨p,i⟩ ⟨u,hd,_,(a.put q G C).keeps λo U0 H=>?_,p,T,U9,i,B,P,al,am⟩;rw[b0 (KA H c<|λk=>nomatch k)];exact H
end
section
variable{b:aO}{R:List (ah×aX)}{z:a7}{h:ax}{m:ai}{g:ah}{UX:List (ew×ak)}{q:ew}{J:ab}{O:bw}{UH:ab->ai->Prop}
def Qx(l:aF b R z h m)(c:jE h g (.dn UX))(e:∀C UI,aF b R z h UI->A (.int UX.length C) UI):wpAny (aR b.prog b.w) O (call (.builtin "len") [.ref g]) A UH m:=by
 let@⟨k,hd,⟨@U,a,d⟩⟩:=mK l.aY c;refine call_len_dict hd d (by rw[<-a.length];rw[tZ]at k;lia) ?_;rw[<-a.length];exact e _ _ (l.tok _)
end
def R6{x:ak}(l:aF b R z h m)(F:f9 h g x n):m.TypeIs (.ref g) "dict" := by
 rcases F with ⟨UX,q,c,_,_⟩|⟨UX,q,d,c,_,_,_⟩
 ·let@⟨_,_,⟨@U,_,a⟩⟩:=mK l.aY c;exact a.typeIs
 ·let@⟨_,_,⟨@E,_,a⟩⟩:=oe l.aY c;exact a.typeIs
def K5(e:aZ)(a:h_<e.objs.size):d0 UT D h (e.push {cls:=.type "dict",data:=.dict #[]}) e.objs.size (.aJ []):=
 ⟨gk _,xR.mpr<|Ne.symm<|cT a,[],.nil,_,#[],0,cR _ rfl,⟨rfl,rfl,rfl⟩,rfl,rfl,g4⟩
def Jw:cb:=(λ_ h A=>∀u,h u=Y->A (.ref u) (upd h u<|.aJ []))
section
variable{b:aO}{UZ:Pos}
def MH:bD b (.Dict [] [] UZ) Jw:=λR m z h A l e=>
 wpAny_Dict_empty ⟨.ref m.heap.objs.size,_,l.laid (g:=m.heap.objs.size) (n:=.aJ []) (Vd:=m.toks) (λ_ W p=>bT _ p) (bb _)<|K5 m.heap l.big,rfl,e _<|l.aY.fresh<|bb _⟩
end
structure CD(b:aO)(n:bh)(t:aC)(V6:Pos)(c:bh)(M:Pos):Prop where
 base:mY n t b.env (b7 n b.env)=b7 n b.env
 dI:((e5 M<|bS [c] b.env).all (λf=>!f.1)&&(uc M<|uB [] b.env).all (λf=>f.1.isSome)
  && decide (([c]:List bh).length+([]:List md).length+(if ([]:List md).isEmpty then 0 else 1)<30))=X
 line:(V6.endLine==M.line)=X
 trees:e5 M (bS [c] b.env)=[(av,b7 c b.env)]
def Ay(h:ax)(g:ah):Prop:=((∃UX,jE h g<|.dn UX)\/∃UX,jE h g (.aJ UX))
def JQ(l:aF b R z h m)(r:Ay h g):
  m.TypeIs (.ref g) "dict" /\ (∀d,ab.ref g=.ref d->∃Vl,m.heap.get? d=Z Vl/\Vl.dict=Y)/\(g==h_)=av:=by
 rcases r with ⟨UX,c⟩|⟨UX,c⟩
 ·let@⟨_,hd,⟨@U,_,a⟩⟩:=mK l.aY c;refine⟨a.typeIs,λd p=>?_,hd⟩;cases p;let⟨Vl,W,@W,y,B,W⟩:=a;exact⟨Vl,y,B.2.1⟩
 ·let@⟨_,hd,⟨@E,_,a⟩⟩:=oe l.aY c;refine⟨a.typeIs,λd p=>?_,hd⟩;cases p;let⟨Vl,W,@W,y,B,W⟩:=a;exact⟨Vl,y,B.2.1⟩
section
variable{b:aO}{R:List (ah×aX)}{z:a7}{h:ax}{m:ai}{g:ah}{x r:ak}{J j:ab}{n:Option ak}{O:bw}{UH:ab->ai->Prop}
def OV(p:O.units+20<bR)(l:aF b R z h m)(F:f9 h g x n)(j:bY x J)(e:∀o UI,aF b R z h UI->bY (n.getD .aS) o->A o UI):
  wpAny (aR b.prog b.w) O (call (.builtin "dict.get") [.ref g,J]) A UH m:=by
 rcases F with ⟨UX,q,c,f,I⟩|⟨UX,q,d,c,f,r,I⟩
 ·subst f;let@⟨k,hd,⟨@U,i,a⟩⟩:=mK l.aY c;refine Jj w4 a.typeIs Fn (Jh _ _) (meets_dict_get (l0 b.prog b.w) g (sx j) hd) ⟨_,a.mapOf,e _ _ (l.tok _) ?_⟩;rw[I];exact (i.val q).getD rfl
 ·subst f;cases (show J=ab.ref d from j);let@⟨k,hd,⟨@E,i,a⟩⟩:=oe l.aY c;refine Jj w4 a.typeIs Fn (Jh _ _) (meetsH_dict_get (fs b.prog b.w) g d hd) ⟨sr p,q,E,qG l.aY r,a,e _ _ (l.tok _) ?_⟩;rw[I];exact (i.val q).getD rfl
end
def JT(k ty:cb):cb:=(λz h A=>k z h λf UP=>∃g,f=.ref g/\Ay UP g/\ty z UP λx U6=>∃n,f9 U6 g x n/\A (n.getD .aS) U6)
section
variable{b:aO}{n c N:bh}{V6 M:Pos}{k ty q:cb}
def SX(d:b.A.units+20<bR)(i:bD b n k)(j:bD b c ty)(t:CD b n "get" V6 c M):bD b (.Call (.Attribute n "get" V6) [c] [] M) (JT k ty):=by
 intro R m z h A l e;refine F5 t.base t.dI t.line PySem.F.plainAttrs_dict w4 PySem.F.type_dict_get (bZ (i R m z h _ l e) λJ o p=>?_);let⟨f,@UP,a,q,⟨@g,Vs,r,s⟩⟩:=p;subst Vs;obtain rfl:J=ab.ref g:=q;let@⟨u,v,_⟩:=JQ a r;refine⟨u,v,?_⟩;rw[t.trees];refine AZ rfl (HD<|z0<|bZ (j R o z UP _ a s) λE G ⟨x,U6,w,y,H,F,B⟩=>yP ?_);exact OV d w F y λI L C D=>⟨_,U6,C,D,B⟩
end
end L2
namespace Fu
open PySem.W PySem.Calls PyProof.Rows
variable{s:Nat}{I:OpenLaw}
def Pr{UT:vK}{e:aZ}:∀(U8:List Int) (U:List ab),WellAll UT e U (U8.map sI.int)->rC U U8:=by
 intro U8;induction U8 with
 |nil=>
  intro U D;rw[yO]at D;cases D;exact .nil
 |cons s U8 a=>
  intro U D;rw[cw]at D;cases D with
  |cons g d=>
   cases g;exact .cons _ _ (a _ d)
def QC(h:I.most=Z s){UT:vK}{e:aZ}{args:List sI}{c:List ab}(d:I.row.toRowW.claim.pre args=X)(i:WellAll UT e c args):
  ∃g U U8,c=[ab.ref g]/\args=[sI.list (U8.map sI.int)]/\e.get? g=Z {cls:=.type "list",data:=.seq U.toArray}/\rC U U8/\U8.length<=s:=by
 have Ib:rn.hasAll [] args [.list .int]=X:=(pre_splitW d).1;have f:I.pre.holds [] {args:=args}=X:=(pre_splitW d).2;let⟨r,@j,rfl,y,B⟩:=hasAllW_cons Ib;obtain rfl:=hasAllW_nil B;let⟨@E,rfl,k⟩:=hasW_list y;let⟨@U8,rfl⟩:=items_int k;have l:U8.length<=s:=by
  unfold OpenLaw.pre at f;have a:(WTm.not<|.lt (.lit<|.int (s:Int))<|.len<|.arg 0).holds [] {args:=[.list (U8.map .int)]}=X:=by
   have a:=(holds_andW f).1;rw[h]at a;exact a
  have b:=condW_of a (w_not<|w_lt w_lit<|w_len_list<|w_arg rfl);rw[bl]at b;refine Nat.le_of_not_lt λp=>?_;have m:(s:Int)<((U8.length:Nat):Int):=⋯
  first
   | (rw[dQ m]at b;exact absurd b ∅)
   | (simp at b;lia)
 cases i with
 |cons n o=>
  cases o;cases n with
  |list q t=>exact⟨_,_,U8,rfl,rfl,q,Pr U8 _ t,l⟩
def RN(I:OpenLaw)(args:List sI):I.row.toRowW.claim.post args (.bool X) args=X:=
 postW_of (r:=I.row.toRowW) (X:=(X==X))
  (show rn.has [] (.bool X) .bool=X by first|rfl|decide|simp[rn.has,rn.arms,rn.armsAll])
  (show (WTm.eq .res<|.lit<|.bool X).value [] {args:=args,res:=Z (.bool X),after:=args}=Z (.bool<|X==X) from w_eq_bool (w_res rfl) w_lit) rfl
def RE{p:bC}{e:List aC}{f:(aC->Option ab)->aZ->Prop}{h:bc->aZ->Prop}{r:DefRec}(l:I.most=Z s)(m:r.params.defaults=[])(call:∀(D:bc) (eI a:ai) (aM d:aC->Option ab) (b:ah) (n:aX) (Vr c i:ab) (g:ah) (U:List ab) (U8:List Int),
   Ground p e [] f D eI aM d a.heap->h D a.heap->
   a.heap.get? b=Z n->n.data=.func (docDef r.name r.params r.body r.scope Vr c i)->a.heap.CodeRec c r.name->aM r.name=Z (.ref b)->
   a.heap.get? g=Z {cls:=.type "list",data:=.seq U.toArray}->rC U U8->U8.length<=s->a.gens=#[]->
   codeAny (aR I.prog D) nV (.call (.ref b) ⟨[.ref g],[]⟩) (λj UI=>j=.ok (.ret<|.bool X)/\OldK a.heap UI.heap/\UI.os=a.os/\lS UI.gens) a):
  WalkO p e f h I.row.toRowW r [] (λN U=>PySem.call N U):=by
 intro D eI a aM d UU o b n Vr c i q cv t hd u k v w args J L x M O y P;obtain rfl:q=.none:=Dflts.none k m;obtain rfl:cv=.none:=Dflts.noKw k;let⟨g,U,@U8,rfl,rfl,z,A,C⟩:=QC l x y;refine enter_call (td (call D eI a aM d b n Vr c i g U U8 UU o t (fd_plain hd) u v z A C w) λj UI E=>?_);let@⟨rfl,B,F,G⟩:=E;exact⟨.inl ⟨.bool X,.bool X,[],rfl,λ_=>rfl,.bool X,RN I _,λ_=>⟨List.Pairwise.nil,λ_ H=>(nomatch H)⟩⟩,B,F,G⟩
end Fu
namespace L2
open Spec PyProof.Rows
variable{U1:List aC}{N d:ah}{L:cM}{VN f:aC}{fd:gG}{q:Nat}{aM:aC->Option ab}{J:e1}{e:aZ}{h:ax}{D:bc}{UT:bC}{n:aX}
theorem Gh:∀{U:List ab}{U8:List Int},rC U U8->cp (U8.map ak.int) U
 |_,_,.nil=>.nil
 |_,_,.cons s C e=>.cons ⟨C,rfl⟩ (Gh e)
def qS(h:ax):Prop:=(∀d,h d=Y\/(∃n E,h d=Z (.b6 n<|.lst E))\/(∃E,h d=Z (.tup E))\/h d=Z .gN)
def Mj{E:List ak}(o:qU n=Z E):∃a C i J s,(n.cls,n.dict)=(.type "tuple",Y)/\n.data=.seq [.int a C,.int i J].toArray s/\E=[.int a,.int i]:=by
 unfold qU at o;split at o
 ·rename_i UW s y B b;unfold E1 at o;split at o
  ·rename_i a C i J c;cases o;exact⟨a,C,i,J,s,vz y B,b.trans (by rw[<-c,Array.toArray_toList]),rfl⟩
  ·cases o
 ·cases o
def yx(c:e.get? d=Z n)(o:kO n=Z J):∃E,J=.tup E/\d0 UT D h e d J:=by
 unfold kO at o;cases r:qU n with
 |none=>rw[r]at o;cases o
 |some E=>
  rw[r]at o;cases o;let⟨a,C,i,v,s,y,B,rfl⟩:=Mj r;exact⟨_,rfl,df (show 2<=2 from bb 2) ∅,[.int a C,.int i v],.cons ⟨C,rfl⟩<|.cons ⟨v,rfl⟩ .nil,n,c,y,s,B⟩
def gS(e:aZ)(h:ax):ax:=(λd=>match h d with
 |some J=>Z J
 |none=>match e.get? d with
  |some n=>kO n
  |none=>Y)
def LX(s:h d=Y)(c:e.get? d=Z n):gS e h d=kO n:=by
 unfold gS;rw[s];dsimp only;rw[c]
def BQ(s:h d=Z J):gS e h d=Z J:=by
 unfold gS;rw[s]
def xW(s:gS e h d=Z J):h d=Z J\/∃n,e.get? d=Z n/\kO n=Z J:=by
 unfold gS at s;cases p:h d with
 |some v=>rw[p]at s;cases s;exact .inl rfl
 |none=>
  rw[p]at s;dsimp only at s;cases c:e.get? d with
  |none=>rw[c]at s;cases s
  |some n=>rw[c]at s;exact .inr ⟨n,rfl,s⟩
def P0{UK:Φ}{R:aC->Option ab}{V3:kx}{S g:ah}{VX:jR}{a:ai}{U:List ab}{U8:List Int}(I:UK.In a.heap)(as:a.heap.Ns dx aM)(i:a.heap.Ns jc R)(ce:∀f:aC,f ≠ "__name__" -> R f=e9 f)(ch:a.heap.NoLimit)(ci:a.gens=#[])(l:a.heap.get? g=Z {cls:=.type "list",data:=.seq U.toArray})(UN:rC U U8)(a1:U8.length<=sizeLine)(UQ:dB q nV)(P:∀UY:aZ,UK.In UY->UY.Ns dx aM->h5 UT D UK aM UY V3 q S fd [f] VX)(cl:∀(m:ai) (J:ab),nu m fd ⟨[J],[]⟩ [(f,J)])(co:∀h:ax,qS h->c9 UK h g (U8.map ak.int)->VX [.ref g] h (λv K=>v=.aE X) λ_ K K=>False)(cr:∀h c UI,V3 [] h a (λ_ K K=>False) c UI->False){V0 du:ah}(a2:Θ UK "_law_runs_of" = Z (V0,du))(bd:Φc a.heap V0 du)(z:a.heap.get? du=Z (Δ #[]))(cs:Φd UK=X)(db:∃C n,aM "__builtins__" = Z (.ref C)/\C≠jc/\C≠dx/\a.heap.get? C=Z n/\n.cls=.type "module" /\ n.dict=Z jc/\n.data=.plain):
  codeAny (aR UT D) nV (.call (.ref S) ⟨[.ref g],[]⟩) (λj UI=>j=.ok (.ret<|.bool X)/\OldK a.heap UI.heap/\UI.os=a.os/\lS UI.gens) a:=by
 have be:=Gh UN;have ds:=UN.length;have bi:g≠du:=λk=>by rw[k,z]at l;cases l
 have bm:∀b:ax,qS b->c9 UK (gS a.heap b) g (U8.map ak.int)->(∀h d J,b d=Z J->d0 UT D h a.heap d J)->(∀d,b d≠Y->d=g\/d=du)->(b g≠Y->UK.lookup g=Y)->b du=Z .gN->
   codeAny (aR UT D) nV (.call (.ref S) ⟨[.ref g],[]⟩) (λj UI=>j=.ok (.ret<|.bool X)/\OldK a.heap UI.heap/\UI.os=a.os/\lS UI.gens) a:=by
  intro b bn dL bs L eq ev;have al:∀{d:ah}{n:aX},a.heap.get? d=Z n->b d=Y->(lq a.heap b).get? d=Z n:=λc s=>PU c s;have aY:d_ UT D (gS a.heap b) a.heap:=λd J p=>by
   rcases xW p with p|⟨n,c,o⟩
   ·exact bs _ d J p
   ·exact (yx c o).choose_spec.2
  have bv:qS (gS a.heap b):=λd=>by
   cases p:gS a.heap b d with
   |none=>exact .inl rfl
   |some J=>
    rcases xW p with p|⟨n,c,o⟩
    ·rcases bn d with k|k
     ·rw[k]at p;cases p
     ·rw[<-p];exact .inr k
    ·let⟨E,rfl,K⟩:=yx (UT:=UT) (D:=D) (h:=b) c o;exact .inr (.inr<|.inl ⟨E,rfl⟩)
  have ex:∀{d:ah}{n:aX}{T:Array tY}{U9:Nat},a.heap.get? d=Z n->n.data=.dict T U9->b d=Y:=λ{d n T U9} c r=>by
   cases p:b d with
   |none=>rfl
   |some J=>
    rcases L d (by rw[p];simp) with u|u
    case inr=>subst u;rw[z]at c;cases c;cases r
    subst u;rw[l]at c;cases c;have VD:Data.seq U.toArray _=Data.dict T U9:=r;cases VD
  have M:∀{d:ah}{t:aC->Option ab},a.heap.Ns d t->(lq a.heap b).Ns d t:=λ{d t} ⟨n,T,U9,c,r,j⟩=>⟨n,T,U9,al c<|ex c r,r,j⟩;have ca:UK.In (lq a.heap b):=λd n c=>al (I d n c) (by
   cases p:b d with
   |none=>rfl
   |some J=>
    rcases L d (by rw[p];simp) with u|u
    ·subst u;rw[eq (by rw[p];simp)]at c;cases c
    ·subst u;have y:=I d n c;rw[z]at y;cases y;exact absurd (show av=X from kg.mp cs _ (PySem.W.mem_of_lookupK c)) cU)
  have fn:Mod UK aM (lq a.heap b):=⟨ca,M as,⟨R,M i,ce⟩,let ⟨fr,y,B⟩:=ch;⟨fr,M y,B⟩,let ⟨C,n,f0,f1,f2,F,am,f4,f8⟩:=db;⟨C,n,f0,f1,f2,al F (by
   cases p:b C with
   |none=>rfl
   |some J=>
    rcases L C (by rw[p];simp) with u|u
    ·subst u;rw[l]at F;cases F;exact absurd (ab.type.inj am) ∅
    ·subst u;rw[z]at F;cases F;cases am),am,f4,f8⟩⟩
  have ga:wa UT D UK aM (lq a.heap b) nV [] a (gS a.heap b):=⟨rfl,fn,λd n c=>⟨(yU c).1,LX (yU c).2 (yU c).1⟩,G9<|Kp _ _,trivial,⟨λd i=>absurd (show d∈([]:List ah) from i) ↥0,λo UT c=>by rw[a2]at c;cases c;exact⟨BQ ev,RF I a2 bd⟩⟩,aY,.of_eq ci⟩;refine td ((P _ ca<|M as).run nV [] a (gS a.heap b) ⟨[.ref g],[]⟩ [.ref g] [.ref g] _ _ UQ ga (cl a<|.ref g) (.cons rfl .nil)<|co (gS a.heap b) bv dL) λj UI e=>?_;cases j with
  |error c=>exact (cr (gS a.heap b) c UI e).elim
  |ok aT=>
   cases aT with
   |next=>exact False.elim e
   |brk=>exact False.elim e
   |cont=>exact False.elim e
   |ret J=>
    let⟨v,Q,U5,ge,un,gl,VA,p⟩:=e;have go:v=.aE X:=p;subst go;obtain rfl:J=ab.bool X:=VA;have dE:∀d n,a.heap.get? d=Z n->gS a.heap b d≠Z .gN->UI.heap.get? d=Z n:=λd n c gt=>?_;have A:∀d n,a.heap.get? d=Z n->gS a.heap b d=Z .gN->n=Δ #[]/\d=du/\∃N,UI.heap.get? d=Z (Δ<|#[]++N):=λd n c p=>by
     have i:d=du:=by
      rcases xW p with k|⟨Vk,O,o⟩
      ·rcases L d (by rw[k];simp) with x|x
       ·rcases bn d with j|⟨_,_,j⟩|⟨_,j⟩|j
        ·rw[j]at k;cases k
        ·rw[j]at k;cases k
        ·rw[j]at k;cases k
        ·let⟨K,y,K⟩:=bs b d _ j;rw[x,l]at y;cases y
       ·exact x
      ·let⟨K,an,K⟩:=yx (UT:=UT) (D:=D) (h:=b) O o;cases an
     subst i;rw[z]at c;cases c;exact⟨rfl,rfl,(un.gD d p).2 ↥0 _ z⟩
    refine⟨rfl,⟨λd n c=>?_,λd n c=>?_⟩,U5,ge⟩
    ·by_cases p:gS a.heap b d=Z .gN
     ·let⟨rfl,rfl,N,H⟩:=A d n c p;let⟨G,g1,K,K,K,K,K,K,K,g2,an,g3,hd,K⟩:=bd;exact .inr (.inl ⟨⟨V0,G,g1,g2,an,g3,hd⟩,rfl,#[],N,rfl,H⟩)
     ·exact .inl (dE d n c p)
    ·by_cases p:gS a.heap b d=Z .gN
     ·let⟨K,K,N,H⟩:=A d n c p;exact⟨_,H⟩
     ·exact⟨n,dE d n c p⟩
    rcases bv d with p|⟨Vl,E,k⟩|⟨E,k⟩|k
    ·exact un.keep d n c p (by intro k;exact absurd (show d∈([]:List ah) from k) ↥0) ↥0
    ·have he:=un.jV d Vl _ k;let⟨O,K⟩:=aY d _ k;let⟨H,K⟩:=gl d _ he;rw[c]at O;cases O;exact H
    ·exact un.jL d n E c k ↥0
    ·exact absurd k gt
 cases ap:UK.lookup g with
 |some n=>
  have c:=I g n ap;rw[l]at c;cases c;have hf:(if g=du then Z e1.gN else Y)=Y:=aL bi;refine bm (λd=>if d=du then Z .gN else Y) (λd=>?_) (.inr ⟨_,U.toArray,_,ap,rfl,rfl,rfl,by rw[cJ,ds];exact a1,by simpa using be⟩) (λh d J k=>?_) (λd k=>?_) (λk=>absurd hf k) (aK rfl)
  ·by_cases i:d=du
   ·exact .inr (.inr<|.inr<|aK i)
   ·exact .inl (aL i)
  ·by_cases i:d=du
   ·have w:=(aK i).symm.trans k;cases w;subst i;exact⟨#[],z,trivial,λUZ hm e=>by cases e⟩
   ·have w:=(aL i).symm.trans k;cases w
  ·by_cases i:d=du
   ·exact .inr i
   ·exact absurd (aL i) k
 |none=>
  refine bm (λd=>if d=du then Z .gN else if d=g then Z (.b6 {cls:=.type "list",data:=.seq U.toArray} (.lst<|U8.map ak.int)) else Y) (λd=>?_) (.inl<|.inr ⟨{cls:=.type "list",data:=.seq U.toArray},BQ<|(aL bi).trans<|aK rfl⟩) (λh d J k=>?_) (λd k=>?_) (λ_=>ap) (aK rfl)
  ·by_cases i:d=du
   ·exact .inr (.inr<|.inr<|aK i)
   by_cases l:d=g
   ·exact .inr (.inl ⟨_,_,(aL i).trans<|aK l⟩)
   ·exact .inl ((aL i).trans<|aL l)
  ·by_cases i:d=du
   ·have w:=(aK i).symm.trans k;cases w;subst i;exact⟨#[],z,trivial,λUZ hm e=>by cases e⟩
   replace k:=(aL i).symm.trans k;by_cases i:d=g
   ·have w:=(aK i).symm.trans k;cases w;subst i;exact⟨l,by rw[bl];exact a1,U,_,be,l⟩
   ·have w:=(aL i).symm.trans k;cases w
  ·by_cases i:d=du
   ·exact .inr i
   by_cases cd:d=g
   ·exact .inl cd
   ·exact absurd ((aL i).trans<|aL cd) k
def Mt(F:e.Ns dx aM)(d:∃a n,aM "__builtins__" = Z (.ref a)/\a≠jc/\e.get? a=Z n/\n.cls=.type "module" /\ n.dict=Z jc/\n.data=.plain):
  ∃a n,aM "__builtins__" = Z (.ref a)/\a≠jc/\a≠dx/\e.get? a=Z n/\n.cls=.type "module" /\ n.dict=Z jc/\n.data=.plain:=by
 let⟨a,n,c5,dM,jA,jm,f,b⟩:=d;refine⟨a,n,c5,dM,λp=>?_,jA,jm,f,b⟩;let⟨Vk,T,U9,c,hd,W⟩:=F;rw[p,c]at jA;cases jA;rw[hd]at b;cases b
def Tt{I:PySem.W.OpenLaw}{s:Nat}{p:bC}{w:List aC}{x:(aC->Option ab)->aZ->Prop}{l:bc->aZ->Prop}{r:DefRec}{UK:vK->Φ}{V3:bc->kx}{VX:bc->jR}(y:I.most=Z s)(z:s<=sizeLine)(A:r.params.defaults=[])(UQ:dB q nV)(B:∀(D:bc) (e:aZ),l D e->(UK D.params).In e)(P:∀(D:bc) (aM:aC->Option ab) (a:ah) (e:aZ),(UK D.params).In e->e.Ns dx aM->aM r.name=Z (.ref a)->
   ∃fd:gG,(∀(m:ai) (J:ab),nu m fd ⟨[J],[]⟩ [(f,J)])/\
    ∀UY:aZ,(UK D.params).In UY->UY.Ns dx aM->h5 I.prog D (UK D.params) aM UY (V3 D) q a fd [f] (VX D))(C:∀(D:bc) (h:ax) (g:ah) (U8:List Int),U8.length<=s->qS h->c9 (UK D.params) h g (U8.map ak.int)->VX D [.ref g] h (λv K=>v=.aE X) λ_ K K=>False)(E:∀(D:bc) (h:ax) (m:ai) (c:ab) (UI:ai),V3 D [] h m (λ_ K K=>False) c UI->False)(G:((recsOf p).find? λc=>c.name==("_law_runs_of" : aC)).isSome=X)(H:∀u,(Θ (UK u) "_law_runs_of").isSome=X)(L:∀u,Φd (UK u)=X):
  PySem.W.WalkO p w x l I.row.toRowW r [] (λN U=>PySem.call N U):=by
 refine Fu.RE y A λD eI M aM a1 a n Vr a2 i g U U8 UU O bd hd be Q R S o al=>?_;have j:=B D _ O;let⟨@fd,am,an⟩:=P D aM a _ j UU.T.g Q;let⟨⟨V0,du⟩,k⟩:=rH.mp (H D.params);let⟨bi,t⟩:=rH.mp G;exact P0 j UU.T.g UU.T.b UU.T.builtins UU.T.nolimit al R S (df o z) UQ an am (λh ap as=>C D h g U8 o ap as) (λh c UI=>E D h M c UI) k (BH UU.T j t k).1 (BH UU.T j t k).2 (L D.params) (Mt UU.T.g UU.T.bmain)
def iJ(m:cM):tc:=(match m with
 |.FunctionDef _ g _ _ _ _ _ _ _ _=>g
 |_=>{posonlyargs:=[],args:=[],vararg:=Y,kwonlyargs:=[],kw_defaults:=[],kwarg:=Y,defaults:=[]})
def fL(m:cM):List cM:=(match m with
 |.FunctionDef _ _ d _ _ _ _ _ _ _=>d
 |_=>[])
def dm(m:cM):eO:=(match m with
 |.FunctionDef _ _ _ _ _ _ l _ _ _=>l
 |_=>{kind:=.function,names:=[],isGenerator:=av,isCoroutine:=av})
abbrev gB:kx:=λ_ _ _ _ _ _=>False
abbrev K0:fO:=λ_ _ _=>False
def K4{b:aO}:z7 gB b K0:=λ_ W W W W W W e=>e.elim
structure fT(UK:Φ)(f VN:aC)(L:cM)(N:ah)(fd:gG):Prop where
 ex:∃(G:ab) (V2:Option ah) (cv i Vr:ab) (w:Option ah) (k ct:ab) (y:Array (Option ab)),
  fd=Ξ f VN (iJ L) (fL L) (dm L) .none cv i Vr w k ct/\UK.lookup N=Z ⟨G,V2,.func fd,y⟩/\Φa UK k VN=X
 dE:Γ UK (.ref N)=X
section
variable{UT:bC}{D:bc}{UK:Φ}{aM:aC->Option ab}{UY:aZ}
def fT.ok{Vb:List aC}{VX:jR}(P:fT UK f VN L N fd)(UM:ks Vb U1 (dm L))(len:∀U h A UH,VX U h A UH->U.length=U1.length)(a:∀(k:ab) (O:bw) (VF:List eu) (m:ai) (h:ax) (U:List ak) (A:cL) (UH:fO),dB q (O.deeper<|h3 VN (dm L) m.heap.objs.size N k)->VX U h A UH->
   ∃C,hC (ja gB UT D UK aM UY Vb VN (dm L) N k O VF m h UH).jN (fL L) C/\C {bz:=λ_ Q=>A .aS Q,a5:=A} (start Vb U) h):h5 UT D UK aM UY gB (q+1) N fd U1 VX:=by
 let⟨G,V2,cv,i,Vr,w,k,ct,@y,rfl,lk,b⟩:=P.ex;refine Hz lk b UM len λO VF m h U A UH UQ c=>?_;let⟨@C,e,p⟩:=a k O VF m h U A UH UQ c;exact⟨C,e.jN,p⟩
def fT.binds(P:fT UK f VN L N fd)(e:∀(cv i Vr:ab) (w:Option ah) (k ct:ab) (Va:List ab),Va.length=U1.length->jx (Ξ f VN (iJ L) (fL L) (dm L) .none cv i Vr w k ct) ⟨Va,[]⟩=pure (U1.zip Va)):jg UK fd U1 []:=by
 let⟨G,V2,cv,i,Vr,w,k,ct,@y,rfl,lk,a⟩:=P.ex;exact .all (e cv i Vr w k ct)
def Ml{G:ab}{V2 w:Option ah}{y:Array (Option ab)}{cv i Vr k ct:ab}(I:UK.lookup N=Z ⟨G,V2,.func<|Ξ f VN (iJ L) (fL L) (dm L) .none cv i Vr w k ct,y⟩)(o:Φa UK k VN=X)(q:Γ UK (.ref N)=X):fT UK f VN L N (Ξ f VN (iJ L) (fL L) (dm L) .none cv i Vr w k ct):=⟨⟨G,V2,cv,i,Vr,w,k,ct,y,rfl,I,o⟩,q⟩
end
section
variable{b:aO}
def cY(a:Nat){f:aC}{UZ:Pos}(c:b.N[a]?=Z f:=by rfl)(d:oU b.env.scope f:=by first|exact Or.inl rfl|exact Or.inr (Or.inl rfl)|exact Or.inr (Or.inr rfl))(hd:(f==("__debug__" : aC))=av:=by decide)(e:(f==("__classdict__" : aC))=av:=by decide):bD b (.Name f UZ) (iH a):=Gu c d hd e
end
def bV(h Q:ax):Prop:=(∀d n,h d=Z n->Q d=Z n)
def bV.refl(h:ax):bV h h:=λ_ W e=>e
def bV.trans{UP U6:ax}(g:bV h UP)(d:bV UP U6):bV h U6:=λo n e=>d o n (g o n e)
def bV.free{Q:ax}(c:bV h Q){I:ah}(e:Q I=Option.none):h I=Option.none:=by
 cases p:h I with
 |none=>rfl
 |some n=>
  rw[c I n p]at e;cases e
end L2
namespace L2
section
variable{b:aO}
def TX:eR b (.builtin "len") (λE h A=>∃g UX,E=[ak.ref g]/\h g=Z (.dn UX)/\A (.int UX.length) h):=by
 intro R m z h E Va A l j e;let⟨g,@UX,rfl,a,p⟩:=e;let⟨@J,rfl,c⟩:=iM j;cases c;exact Qx l (.inl a) λC UI d=>⟨.int UX.length,h,d,⟨C,rfl⟩,p⟩
end
end L2
namespace L2
open Spec PyProof.Rows
variable{A:Option ab->ai->Prop}{a U9 Wc:Nat}{e y:aZ}{M:List ab}{r aN:ah}{Wa:c1}{Ve VQ V8:bh}{U:List (aC×ah)}{cc:List ah}{h:ax}{z:a7}{R:List (ah×aX)}{Vh:List Nat}{own:List aC}{UL:eu}{UZ:Pos}{U2:eO}{V4:List bh}{m:ai}{O:bw}
def SM{US:bC}{D:bc}{UG:rU->ai->Prop}{b:bh}{af Vv:ab}(l:Nat->ai->Prop)(n:∀s m,l s m->wpAny (aR US D) O (fb af) (λj a=>match j with
   |none=>UG (.ok .next) a
   |some v=>wpAny (aR US D) O (sq b af v) (λ_ a=>wpAny (aR US D) O (hr b UL v) (λ_ g=>
     wpAny (aR US D) O (forIn V4 X λo j=>if j=X then do let ok <-qe o UL (b7 o UL);pure (ForInStep.yield ok) else pure (ForInStep.yield j)) (λok d=>
      if ok=X then wpAny (aR US D) O (b7 V8 UL) (λf h=>
       wpAny (aR US D) O (call (.builtin "list.append") [Vv,f]) (λ_ i=>∃t,t<s/\l t i) (λ_ W=>False) h) (λ_ W=>False) d
      else ∃t,t<s/\l t d) (λ_ W=>False) g) (λ_ W=>False) a) (λ_ W=>False) a) (λ_ W=>False) m)(s:Nat)(e:l s m):
  codeAny (aR US D) O (.compLoop (.ListComp V8 [⟨b,VQ,V4,0⟩] U2 UZ) 0 af Vv UL) UG m:=by
 refine codeAny_loop rfl l (λs m ef=>?_) s e;show wpAny _ O ((compTurn (.ListComp V8 [⟨b,VQ,V4,0⟩] U2 UZ) 0 af Vv UL).onRaise (λf=>do noteFrame f UL;theTreesLotGoes f)) _ _ m;refine wpAny_noted ?_;rw[compTurn_list];refine ao (wd<|ao<|f7 (n s m ef) (λj a c=>?_) λ_ W S=>S.elim);cases j with
 |none=>exact aQ c
 |some v=>
  refine ao (f7 c (λ_ a c=>?_) λ_ W S=>S.elim);refine ao (f7 c (λ_ g p=>ao<|f7 p (λok d k=>?_) λ_ W S=>S.elim) λ_ W S=>S.elim);cases ok with
  |false=>exact aQ ⟨rfl,k⟩
  |true=>
   exact ao (ao<|f7 k (λf h q=>ao<|f7 q (λ_ i r=>aQ<|aQ ⟨rfl,r⟩) λ_ W S=>S.elim) λ_ W S=>S.elim)
def ku(UL:eu)(Vn:List (aC×cZ)):List (aC×ah):=(Vn.foldl (λU x=>if x.2==.free then (x.1,(UL.cells.lookup x.1).getD 0)::U else U) [])
theorem xn{UL:eu}:∀(Vn:List (aC×cZ)) (U:List (aC×ah)),(∀x∈Vn,x.2=.free->∃o,UL.cells.lookup x.1=Z o)->
  (forIn Vn U λ(x:aC×cZ) U=>if x.2==.free then (do let o <-vt UL x.1;pure (ForInStep.yield ((x.1,o)::U))) else pure (ForInStep.yield U):dw _)=
   pure (Vn.foldl (λU x=>if x.2==.free then (x.1,(UL.cells.lookup x.1).getD 0)::U else U) U)
 |[],U,_=>rfl
 |x::j,U,e=>by
  rw[AN,lg];by_cases a:x.2=.free
  ·let⟨@o,d⟩:=e x mR a;have c:(x.2==cZ.free)=X:=by simp[a]
   rw[aK c,aK c];have f:vt UL x.1=pure o:=by unfold vt;rw[d]
   rw[f,d];show (forIn j ((x.1,o)::U) _:dw _)=_;exact xn j _ λk b=>e k (lN _ b)
  ·have c:¬ (x.2==cZ.free)=X:=by simp[a]
   rw[aL c,aL c];show (forIn j U _:dw _)=_;exact xn j _ λk b=>e k (lN _ b)
def OF(e:∀x∈U2.names,x.2=.free->∃o,UL.cells.lookup x.1=Z o):vs U2 UL=pure (ku UL U2.names):=by
 have:=xn (UL:=UL) U2.names [] e;unfold vs;dsimp only;have c:(forIn U2.names ([]:List (aC×ah))<|λ(f:aC×cZ) (j:List (aC×ah))=>(if f.2==.free then (do let o <-vt UL f.1;pure (ForInStep.yield ((f.1,o)::j))) else pure (ForInStep.yield j):dw (ForInStep<|List<|aC×ah)))=pure (ku UL U2.names):=this;rw[c];rfl
theorem BX{UL:eu}:∀(Vn:List (aC×cZ)) (U:List (aC×ah)) (f:aC) (o:ah),
  (Vn.foldl (λU x=>if x.2==.free then (x.1,(UL.cells.lookup x.1).getD 0)::U else U) U).lookup f=Z o->
  (o=(UL.cells.lookup f).getD 0/\(f,cZ.free)∈Vn)\/U.lookup f=Z o
 |[],U,f,o,e=>.inr e
 |x::j,U,f,o,e=>by
  rw[lg]at e;rcases BX j _ f o e with ⟨c,t⟩|e
  ·exact .inl ⟨c,lN _ t⟩
  ·by_cases a:x.2=.free
   ·rw[aK (by simp[a])]at e;rw[fx]at e;by_cases b:f=x.1
    ·subst b;rw[gT]at e;refine .inl ⟨(Option.some.inj e).symm,?_⟩;rw[<-a];exact mR
    ·have:(f==x.1)=av:=by simpa using b
     rw[this]at e;exact .inr e
   ·rw[aL (by simp[a])]at e;exact .inr e
theorem zD{UL:eu}:∀(Vn:List (aC×cZ)) (U:List (aC×ah)) (f:aC),(f,cZ.free)∈Vn\/(∃o,U.lookup f=Z o)->
  ∃o,(Vn.foldl (λU x=>if x.2==.free then (x.1,(UL.cells.lookup x.1).getD 0)::U else U) U).lookup f=Z o
 |[],U,f,e=>by
  rcases e with e|e
  ·cases e
  ·exact e
 |x::j,U,f,e=>by
  rw[lg];apply zD j _ f;rcases e with e|⟨o,e⟩
  ·rcases b9.mp e with c|e
   ·right;subst c;rw[aK (by rfl),fx,gT];exact⟨_,rfl⟩
   ·exact .inl e
  ·right;by_cases a:(x.2==cZ.free)=X
   ·rw[aK a,fx];cases f==x.1
    ·exact⟨o,e⟩
    ·exact⟨_,rfl⟩
   ·rw[aL a];exact⟨o,e⟩
structure jU where
 aN:ah
 s:ai
 H:ax
 cc:List ah
 cs:List (aC×ah)
variable{VV:jU->cb}{H:jU->ea}{F:jU->gY}
def aO.fK(b:aO)(c:List aC)(U2:eO)(a:jU): aO :=(
  {prog:=b.prog,w:=b.w,K:=b.K,aM:=b.aM,base:=b.base,A:=b.A,N:=c,eI:=a.s,kv:=a.H,env:=va U2 (a.cs ++ ku b.env U2.names) a.aN b.env,outer:=b.stack,stack:=b.stack,
    ex:=a.cc,fn:=λf => U2.names.lookup f==Z .cell,calm:=b.calm,dK:=[],cF:=λ_ W => False})
structure vm(Wc:Nat)(Vn:List (aC×cZ))(U:List (aC×ah))(e:aZ):Prop where
 jM:∀f o,U.lookup f=Z o->Wc<=o/\e.IsCell o Y/\(f,cZ.cell)∈Vn
 inj:∀f x o,U.lookup f=Z o->U.lookup x=Z o->f=x
def LS{ay:fH}{UH:ab->ai->Prop}{u:ah}{q:List (aC×ah)}{VN:aC}{A:eu->ai->Prop}(e:∀S U,(∀d n,m.heap.get? d=Z n->S.get? d=Z n)->S.Ns m.heap.objs.size (λ_=>Y)->vm (m.heap.objs.size+1) U2.names U S->(∀f,(f,cZ.cell)∈U2.names->∃o,U.lookup f=Z o)->
   A (newEnv U2 m.heap.objs.size u (U++q) VN Y .none (Z UL) jc) {m with heap:=S}):
  wpAny ay O (Gk U2 u q [] VN Y .none<|Z UL) A UH m:=by
 unfold Gk;refine ao (yj ?_);have Wc:(m.heap.push {cls:=.type (if (Z UL).isSome=X then "dict" else "frame"),data:=.dict #[]}).Ns m.heap.objs.size λ_=>Y:=⟨_,#[],_,cR _ rfl,rfl,by intro a UN;simp at UN,λ_=>rfl⟩;refine ao (nq _ (λcB cells UI=>∃done U S,done++cB=U2.names/\cells=U++q/\UI={m with heap:=S}/\m.heap.objs.size+1<=S.objs.size/\(∀d n,m.heap.get? d=Z n->S.get? d=Z n)/\S.Ns m.heap.objs.size (λ_=>Y)/\vm (m.heap.objs.size+1) U2.names U S/\∀f,(f,cZ.cell)∈done->∃o,U.lookup f=Z o) _ ?_ ?_ _ _ ⟨[],[],_,rfl,rfl,rfl,by rw[hD];exact bb _,λd n c=>bT _ c,Wc,⟨(λf o c=>by simp at c),(λf x o c=>by simp at c)⟩,(λf b=>nomatch b)⟩)
 ·rintro⟨l,i⟩ cB cells UI ⟨done,U,S,p,rfl,rfl,gy,ext,U8,h,ar⟩;by_cases s:i=.cell
  ·subst s;show wpAny ay O (alloc {cls:=.type "cell",data:=.cell Y} >>= λg=>pure<|ForInStep.yield ((l,g)::(U++q))) _ _ _;refine ao (yj<|aQ ?_);have w:∀d n,S.get? d=Z n->(S.push {cls:=.type "cell",data:=.cell Y}).get? d=Z n:=λd n c=>bT _ c;have y:∀o,(∃v,S.IsCell o v)->o≠S.objs.size:=λo ⟨v,n,c,_⟩=>cT (bW c);refine⟨done++[(l,.cell)],(l,S.objs.size)::U,_,by rw[bq];exact p,rfl,rfl,by rw[hD];exact Aj gy,λd n c=>w d n<|ext d n c,U8.push _,⟨λf o c=>?_,λf x o Vs j=>?_⟩,λf b=>?_⟩
   ·rw[fx]at c;by_cases b:f=l
    ·subst b;rw[gT]at c;cases c;exact⟨gy,⟨_,cR _ rfl,rfl⟩,by rw[<-p];exact dT _ (.head _)⟩
    ·rw[show (f==l)=av by simpa using b]at c;let⟨z,⟨n,B,C⟩,D⟩:=h.jM f o c;exact⟨z,⟨n,w o n B,C⟩,D⟩
   ·rw[fx]at Vs j;by_cases b:f=l
    ·by_cases r:x=l
     ·rw[b,r]
     ·rw[b,gT]at Vs;rw[show (x==l)=av by simpa using r]at j;cases Vs;exact absurd rfl (y _ ⟨_,(h.jM x _ j).2.1⟩)
    ·rw[show (f==l)=av by simpa using b]at Vs;by_cases r:x=l
     ·rw[r,gT]at j;cases j;exact absurd rfl (y _ ⟨_,(h.jM f _ Vs).2.1⟩)
     ·rw[show (x==l)=av by simpa using r]at j;exact h.inj f x o Vs j
   ·rw[fx];by_cases t:f=l
    ·rw[t,gT];exact⟨_,rfl⟩
    ·rw[show (f==l)=av by simpa using t];refine ar f ((ed.mp b).resolve_right λk=>?_);exact t (Prod.mk.inj<|cN.mp k).1
  ·have c:(i==cZ.cell)=av:=by simpa using s
   show wpAny ay O (if (i==cZ.cell)=X then _ else pure (ForInStep.yield<|U++q)) _ _ _;rw[aL (by rw[c];exact cU)];refine aQ ⟨done++[(l,i)],U,S,by rw[bq];exact p,rfl,rfl,gy,ext,U8,h,λf b=>ar f<|(ed.mp b).resolve_right λk=>?_⟩;exact s (Prod.mk.inj<|cN.mp k).2.symm
 ·rintro cells UI ⟨done,U,S,p,rfl,rfl,gy,ext,U8,h,ar⟩;rw[b8]at p;subst p;exact ao (aQ<|aQ<|e S U ext U8 h ar)
theorem mem_of_lookup:∀{I:List (aC×cZ)}{f:aC}{q:cZ},I.lookup f=Z q->(f,q)∈I
 |[],_,_,e=>by simp at e
 | (s,b)::j,f,q,e=>by
  rw[fx]at e;by_cases a:f=s
  ·subst a;rw[gT]at e;cases e;exact mR
  ·rw[show (f==s)=av by simpa using a]at e;exact lN _ (mem_of_lookup e)
theorem xj{UL:eu}:∀{Vn:List (aC×cZ)}{f:aC}{q:cZ},
  (Vn.map λ(s,q)=>if (q==cZ.free&&UL.scope.kind==.function&&UL.kindOf s==Z .cell) then (s,cZ.cell) else (s,q)).lookup f=Z q->
  (q=.cell\/q=.free)->(f,cZ.free)∈Vn\/Vn.lookup f=Z .cell
 |[],f,q,e,_=>by simp at e
 | (s,d)::j,f,q,e,a=>by
  rw[cw]at e;dsimp only at e;by_cases h:f=s
  ·subst h;by_cases b:(d==cZ.free&&UL.scope.kind==.function&&UL.kindOf f==Z .cell)=X
   ·have:d=cZ.free:=by
     simp only[cS]at b;exact by simpa using b.1.1
    subst this;exact .inl mR
   ·simp only[b]at e;have c:d=q:=by simpa [fx] using e
    subst c;rcases a with a|a
    ·exact .inr (by rw[fx,gT,a])
    ·rw[a];exact .inl mR
  ·have g:(f==s)=av:=by simpa using h
   have S:(j.map λ(s,q)=>if (q==cZ.free&&UL.scope.kind==.function&&UL.kindOf s==Z .cell) then (s,cZ.cell) else (s,q)).lookup f=Z q:=by
    by_cases b:(d==cZ.free&&UL.scope.kind==.function&&UL.kindOf s==Z .cell)=X
    ·rw[aK b,fx,g]at e;exact e
    ·rw[aL b,fx,g]at e;exact e
   rcases xj S a with k|k
   ·exact .inl (lN _ k)
   ·exact .inr (by rw[fx,g];exact k)
section
variable{b:aO}
structure hK(b:aO)(U2:eO)(own:List aC)(Vh:List Nat):Prop where
 kind:U2.kind=.function
 uM:∀x∈U2.names,x.2=.cell->U2.names.lookup x.1=Z .cell
 free:∀x∈U2.names,x.2=.free->b.env.scope.names.lookup x.1=Z .cell
 loc:∀x∈U2.names,x.2=.local->U2.names.lookup x.1=Z .local
 KV:∀a∈Vh,∃f,b.N[a]?=Z f/\(f,cZ.free)∈U2.names/\U2.names.lookup f=Z .free
def fP(b:aO)(own:List aC)(Vh:List Nat):List aC:=(own++Vh.map λa=>b.N.getD a "")
def j7(own:List aC)(Vh:List Nat)(z:a7):a7:=(own.map (λ_=>Y)++Vh.map λa=>z.getD a Y)
def hK.cells(UM:hK b U2 own Vh)(ok:b.Ok):∀x∈U2.names,x.2=.free->∃o,b.env.cells.lookup x.1=Z o:=
 λx a c=>ok.has x.1 (.inl<|UM.free x a c)
def hK.sub(UM:hK b U2 own Vh)(ok:b.Ok){f:aC}{o:ah}(e:(ku b.env U2.names).lookup f=Z o):b.env.cells.lookup f=Z o/\(f,cZ.free)∈U2.names:=by
 rcases BX U2.names [] f o e with ⟨c,t⟩|e
 ·let⟨@d,a⟩:=UM.cells ok (f,.free) t rfl;rw[show (List.lookup f b.env.cells)=Z d from a]at c;refine⟨?_,t⟩;rw[c];exact a
 ·simp at e
def hK.two(UM:hK b U2 own Vh)(ok:b.Ok){U:List (aC×ah)}{f:aC}{o:ah}(e:(U++ku b.env U2.names).lookup f=Z o):U.lookup f=Z o\/(U.lookup f=Y/\b.env.cells.lookup f=Z o):=by
 rw[AR]at e;cases p:U.lookup f with
 |some r=>rw[p]at e;exact .inl e
 |none=>rw[p]at e;exact .inr ⟨rfl,(UM.sub ok e).1⟩
def aF.yW(l:aF b R z h m){f:aC}{o:ah}(e:b.env.cells.lookup f=Z o):o<m.heap.objs.size:=by
 let⟨v,n,a,W⟩:=l.cell f o e;exact bW a
theorem GQ(UM:hK b U2 own Vh)(l:aF b R z h m)(w:m.heap.objs.size<=aN)(u:∀d∈cc,jJ b R h d)(A:∀d∈cc,d<m.heap.objs.size)(i:vm Wc U2.names U y)(v:m.heap.objs.size<=Wc)(ar:∀f,(f,cZ.cell)∈U2.names->∃o,U.lookup f=Z o):(b.fK (fP b own Vh) U2 ⟨aN,m,h,cc,U⟩).Ok where
 mod:=l.ok.mod
 kind:=UM.kind
 glob:=l.ok.glob
 blt:=l.ok.blt
 above:=w
 inj:=λf x o y B=>by
  rcases UM.two l.ok y with j|⟨_,j⟩<;>rcases UM.two l.ok B with q|⟨_,q⟩
  ·exact i.inj f x o j q
  ·exact absurd (d6 (l.yW q)<|df v (i.jM f o j).1) (gI _)
  ·exact absurd (d6 (l.yW j)<|df v (i.jM x o q).1) (gI _)
  ·exact l.ok.inj f x o j q
 has:=λf g=>by
  have t:(f,cZ.free)∈U2.names\/U2.names.lookup f=Z .cell:=by
   rcases g with g|g
   ·exact xj g (.inl rfl)
   ·exact xj g (.inr rfl)
  show ∃o,(U++ku b.env U2.names).lookup f=Z o;rw[AR];cases p:U.lookup f with
  |some r=>exact⟨r,rfl⟩
  |none=>
   rcases t with t|t
   ·exact zD U2.names [] f (.inl t)
   ·let⟨o,s⟩:=ar f (mem_of_lookup t);rw[p]at s;cases s
 n2:=λf o e C=>by
  have g:U2.names.lookup f=Z .cell:=eq_of_beq e;let⟨D,s⟩:=ar f (mem_of_lookup g);rcases UM.two l.ok C with k|⟨k,_⟩
  ·exact df v (i.jM f o k).1
  ·rw[k]at s;cases s
 hd:=l.ok.hd
 frames:=l.ok.frames
 qQ:=.inl rfl
 Aq:=λd a=>⟨cT<|d6 (A d a) w,λf o e=>by
  rcases UM.two l.ok e with k|⟨_,k⟩
  ·exact hi (d6 (A d a)<|df v (i.jM f o k).1)
  ·exact (u d a).2.2.2.2.1 f o k⟩
 bs:=l.bs
 ki:=df l.ok.ki l.gy
 oG:=λd n c a=>by
  rcases (u d a).2.2.2.1 with k|k
  ·exact l.ok.oG d n c k
  ·exact absurd (d6 (bW c)<|df l.ok.ki k) (gI _)
 pn:=λd a k=>by
  rcases b9.mp (l.zh d k) with c|c
  ·exact (u d a).2.1 c
  ·exact (u d a).2.2.1 c
 iF:=l.stack
 lh:=⟨l.yI,l.cX⟩
theorem JO{Vq:Nat}{t:aC->Option ab}(UM:hK b U2 own Vh)(l:aF b R z h m)(H:m.heap.objs.size<=aN)(al:∀d∈cc,jJ b R h d)(am:∀d∈cc,d<m.heap.objs.size)(C:∀d n,m.heap.get? d=Z n->y.get? d=Z n)(an:y.Ns aN t)(D:vm Wc U2.names U y)(E:m.heap.objs.size<=Wc)(ar:∀f,(f,cZ.cell)∈U2.names->∃o,U.lookup f=Z o):
  aF (b.fK (fP b own Vh) U2 ⟨aN,m,h,cc,U⟩) [] (j7 own Vh z) h {m with heap:=y,toks:=Vq} where
 ok:=GQ UM l H al am D E ar
 os:=rfl
 bare:=l.bare
 base:=eW.kept C
 loc:=by
  let⟨@bm,E,ap⟩:=l.loc;refine⟨t,an,λi f v w c A=>?_⟩;have w:(own++Vh.map λa=>b.N.getD a "")[i]?=Z f:=w;have c:(own.map (λ_=>(Y:Option ak))++Vh.map λa=>z.getD a Y)[i]?=Z (Z v):=c;by_cases as:i<own.length
  ·rw[mc (by rw[bl];exact as),dU]at c;cases p:own[i]? with
   |none=>rw[p]at c;cases c
   |some k=>rw[p]at c;cases c
  ·rw[kH ⋯,dU]at w;rw[kH (by rw[bl];lia),dU,bl]at c;cases p:Vh[i-own.length]? with
   |none=>rw[p]at w;cases w
   |some a=>
    rw[p]at w c;have w:b.N.getD a "" = f:=Option.some.inj w;have c:z.getD a Y=Z v:=Option.some.inj c;let⟨@g,I,L,M⟩:=UM.KV a (gF p);have Vs:g=f:=by
     rw[<-w,cA,I];rfl
    subst Vs;have ar:z[a]?=Z (Z v):=by
     rw[cA]at c;cases O:z[a]? with
     |none=>rw[O]at c;cases c
     |some k=>rw[O]at c;rw[show k=Z v from c]
    have P:=UM.free (g,.free) L rfl;let⟨@J,j,lk⟩:=ap a g v I ar (.inr<|.inl P);refine⟨J,j,.inr ⟨?_,?_⟩⟩
    ·rcases A with A|A|A
     ·
      exfalso;have:∀{Vn:List (aC×cZ)},Vn.lookup g=Z .free->(Vn.map λ(s,q)=>if (q==cZ.free&&b.env.scope.kind==.function&&b.env.kindOf s==Z .cell) then (s,cZ.cell) else (s,q)).lookup g≠Z .local:=by
       intro Vn;induction Vn with
       |nil=>intro e;simp at e
       |cons x j Q=>
        let⟨s,q⟩:=x;intro e;rw[cw];dsimp only;by_cases S:g=s
        ·subst S;have V9:q=.free:=by simpa [fx] using e
         subst V9;by_cases B:(cZ.free==cZ.free&&b.env.scope.kind==ScopeKind.function&&b.env.kindOf g==Z cZ.cell)=X
         ·rw[aK B];simp[fx]
         ·rw[aL B];simp[fx]
        ·have F:(g==s)=av:=by simpa using S
         rw[fx,F]at e;by_cases B:(q==cZ.free&&b.env.scope.kind==ScopeKind.function&&b.env.kindOf s==Z cZ.cell)=X
         ·rw[aK B,fx,F];exact Q e
         ·rw[aL B,fx,F];exact Q e
      exact this M A
     ·exact .inl A
     ·exact .inr A
    ·rcases lk with ⟨a1,_⟩|⟨_,o,a2,bd⟩
     ·exact absurd (a1.symm.trans P) ↥0
     ·let⟨@bn,T⟩:=zD (UL:=b.env) U2.names [] g (.inl L);have:=(UM.sub l.ok T).1;rw[a2]at this;cases this;let⟨@n,G,hd⟩:=bd;have be:U.lookup g=Y:=by
       cases p:U.lookup g with
       |none=>rfl
       |some r=>
        have:=UM.uM _ (D.jM g r p).2.2 rfl;rw[M]at this;cases this
      exact⟨o,by show (U++ku b.env U2.names).lookup g=Z o;rw[AR,be];exact T,n,C _ _ G,hd⟩
 cell:=λf o e=>by
  rcases UM.two l.ok e with k|⟨_,k⟩
  ·exact⟨_,(D.jM f o k).2.1⟩
  ·let⟨v,@n,G,hd⟩:=l.cell f o k;exact⟨v,n,C _ _ G,hd⟩
 free:=l.aY.fresh H
 hF:=λf o e=>by
  rcases UM.two l.ok e with k|⟨_,k⟩
  ·exact l.aY.fresh (df E (D.jM f o k).1)
  ·exact l.hF f o k
 pin:=λu bi=>nomatch bi
 aY:=l.aY.kept C
 len:=by simp[j7,fP,aO.fK]
def Ir(b:aO)(V4:List bh)(C:ea)(R:List (ah×aX)):Prop:=(
 ∀(m:ai) (z:a7) (h:ax) (A:Bool->ax->Prop),aF b R z h m->C z h A->
  wpAny (aR b.prog b.w) b.A (forIn V4 X λo j=>if j=X then do let ok <-qe o b.env (b7 o b.env);pure (ForInStep.yield ok) else pure (ForInStep.yield j)) (um b R z A) b.cF m)
def qP(b:aO)(V4:List bh)(C:ea):Prop:=(∀R,Ir b V4 C R)
def Lw:ea:=(λ_ h A=>A X h)
def K6:qP b [] Lw:=λR m z h A l e=>wpAny_tests_nil ⟨h,l,e⟩
def M7{o:bh}{C:ea}(e:hs b o C):qP b [o] C:=λR m z h A l a=>wpAny_tests_one (e R m z h A l a)
def Nn(own:List aC)(Vh:List Nat)(F:gY)(H:ea)(VV:cb)(z:a7)(Vb:List ak->ax->Prop)(U0:List ak)(f:ak)(Q:ax):Prop:=(
 F f (j7 own Vh z) Q λa U6=>(∀(i:Nat) (v:ak),(j7 own Vh z)[i]?=Z (Z v)->a[i]?=Z (Z v))/\H a U6 λd b=>if d=X then VV a b λv c=>U0.length<sizeLine/\Vb (U0++[v]) c else Vb U0 b)
def PG(VP:ig)(own:List aC)(Vh:List Nat)(F:gY)(H:ea)(VV:cb)(z:a7)(UP:ax)(A:cL):Prop:=(
 ∃W:Nat->Nat->List ak->ax->Prop,(∃t,W 0 t [] UP)/\∀a t U0 h,W a t U0 h->(VP.stop a h/\∀w,h w=Y->A (.ref w) (upd h w<|.lst U0))\/
  (VP.go a h/\∃Vb:List ak->ax->Prop,(∀b Q,Vb b Q->∃c,c<t/\W (a+1) c b Q)/\∀f Q,VP.rP a h f Q->Nn own Vh F H VV z Vb U0 f Q))
def wh(own:List aC)(Vh:List Nat)(Wa:c1)(F:jU->gY)(H:jU->ea)(VV:jU->cb):cb:=(λz h A=>Wa z h λVP UP=>∀a:jU,PG VP own Vh (F a) (H a) (VV a) z UP A)
def t4(l:eO)(Vb:List aC)(U2:eO)(Vh:List Nat):Bool:=(
 U2.kind==.function&&U2.names.all (λx=>x.2 != .cell || U2.names.lookup x.1==Z .cell)&&U2.names.all (λx=>x.2 != .free || l.names.lookup x.1==Z .cell)&&U2.names.all (λx=>x.2 != .local || U2.names.lookup x.1==Z .local) &&
  Vh.all (λa=>match Vb[a]? with|some f=>U2.names.lookup f==Z .free|none=>av))
def nv{b:aO}(l:eO)(Vb:List aC)(e:t4 l Vb U2 Vh=X)(c:b.env.scope=l:=by rfl)(i:b.N=Vb:=by rfl):hK b U2 own Vh:=by
 unfold t4 at e;simp only[cS,kg,bne_iff_ne,ne_eq,ui,m5]at e;let@⟨@⟨@⟨@⟨y,B⟩,j⟩,m⟩,n⟩:=e;refine⟨y,λx d g=>(B x d).resolve_left λk=>k g,λx d g=>?_,λx d g=>?_,λa UN=>?_⟩
 ·rw[c];exact (j x d).resolve_left λk=>k g
 ·exact (m x d).resolve_left λk=>k g
 ·have:=n a UN;rw[i];cases p:Vb[a]? with
  |none=>rw[p]at this;cases this
  |some f=>
   rw[p]at this;have h:U2.names.lookup f=Z .free:=by simpa using this
   exact⟨f,rfl,mem_of_lookup h,h⟩
def Ht{VI:Pos}{use:Option (ab->dw Unit)}{f8:ab->ai->Prop}{lc:cL}(pi:b.calm=X)(UM:hK b U2 own Vh)(UN:jb b Ve VQ Wa)(pm:∀a2,jI (b.fK (fP b own Vh) U2 a2) Ve<|F a2)(bP:∀a2,qP (b.fK (fP b own Vh) U2 a2) V4<|H a2)(po:∀a2,bD (b.fK (fP b own Vh) U2 a2) V8<|VV a2)(ar:∀f,mW VQ b.env f=pure f)(l:aF b R z h m)(e:wh own Vh Wa F H VV z h lc)(pp:∀(w aN:ah) (ga:ax) (N:ai) (t:aC->Option ab),aF b R z ga N->N.heap.Ns aN t->ga aN=Y->b.env.locals≠aN->(∀f o,b.env.cells.lookup f=Z o->o≠aN)->b.eI.heap.objs.size<=aN->(∀u∈b.dK++R,u.1≠aN)->lc (.ref w) ga->compPost (aR b.prog b.w) b.A b.cF use f8 (.ref w) aN (.ok .next) N):
  wpAny (aR b.prog b.w) b.A (ya (.ListComp V8 [⟨Ve,VQ,V4,0⟩] U2 UZ) U2 b.env VI (oo []) av (b7 VQ b.env) use) f8 b.cF m:=by
 refine wpAny_comprehension_free (use:=use) rfl ar (OF<|UM.cells l.ok) UM.kind UM.loc (bZ (UN R m z h _ l e) λv v6 y=>bZ y λwf L B=>?_);let⟨af,cc,i,VP,@U6,c,am,UO,ge,bd,pr⟩:=B;subst c;have ci:∀d∈cc,d<L.heap.objs.size:=λd G=>by
  let⟨@n,c,O⟩:=UO.obj _ _ ge d G;exact bW c
 refine gu (LS λgl U ext db bs lf=>?_);dsimp only at db ext bs ⊢;generalize gt:L.heap.push {cls:=.type "list",dict:=Y,data:=.seq ([]:List ab).toArray}=ds at db ext bs ⊢;have dL:ds.objs.size=L.heap.objs.size+1:=by rw[<-gt,hD]
 have bv:L.heap.objs.size≠ds.objs.size:=by rw[dL];exact cT (oL _)
 have eq:L.heap.objs.size<=ds.objs.size:=by rw[dL];exact Ex _
 have g1:∀d n,L.heap.get? d=Z n->gl.get? d=Z n:=λd n c=>ext d n (gt ▸ bT _ c);have li:gl.get? L.heap.objs.size=Z {cls:=.type "list",data:=.seq ([]:List ab).toArray 0}:=ext _ _ (gt ▸ cR _ rfl);generalize wl:ds.objs.size=aN at db bs dL bv eq ⊢;have ev:L.heap.objs.size<=aN+1:=Aj eq;generalize ap:L.heap.objs.size=w at li dL bv eq ⊢;have ca:L.heap.objs.size<=aN:=by rw[ap];exact eq
 let⟨@W,⟨@pt,pu⟩,turn⟩:=pr ⟨aN,L,U6,cc,U⟩;have lm:=λ(Vq:Nat)=>JO (Vq:=Vq) UM am ca bd ci g1 db bs ev lf;have ln:=pm ⟨aN,L,U6,cc,U⟩;have ls:=bP ⟨aN,L,U6,cc,U⟩;have lv:=po ⟨aN,L,U6,cc,U⟩;have g2:=GQ UM am ca bd ci bs ev lf;generalize P:b.fK (fP b own Vh) U2 ⟨aN,L,U6,cc,U⟩=I at lm ln ls lv g2;have cd:I.prog=b.prog:=by rw[<-P];rfl
 have ce:I.w=b.w:=by rw[<-P];rfl
 have lw:I.K=b.K:=by rw[<-P];rfl
 have cl:I.A=b.A:=by rw[<-P];rfl
 have mb:I.calm=X:=by rw[<-P];exact pi
 have bi:I.env.locals=aN:=by rw[<-P];rfl
 have g3:I.ex=cc:=by rw[<-P];rfl
 have fd:I.eI=L:=by rw[<-P];rfl
 have py:I.kv=U6:=by rw[<-P];rfl
 have rc:I.aa=ib b.stack:=by rw[<-P];rfl
 have fn:I.dK=[]:=by rw[<-P];rfl
 have hd:I.cF=λ_ O=>False:=by rw[<-P];rfl
 have mo:I.env=va U2 (U++ku b.env U2.names) aN b.env:=by rw[<-P];rfl
 have mp:∀f o,I.env.cells.lookup f=Z o->aN+1<=o\/b.env.cells.lookup f=Z o:=λf o e=>by
  rw[mo]at e;rcases UM.two am.ok e with k|⟨_,k⟩
  ·exact .inl (bs.jM f o k).1
  ·exact .inr k
 have re:∀f o,I.env.cells.lookup f=Z o->o≠w:=λf o e k=>by
  rcases mp f o e with x|x
  ·rw[k,<-ap]at x;exact absurd (df (Jo ca) x) (Nat.not_succ_le_self _)
  ·have:=am.yW x;rw[k,<-ap]at this;exact gI _ this
 have he:∀d∈cc,d≠w:=λd G k=>by
  have:=ci d G;rw[k,<-ap]at this;exact gI _ this
 have rs:w∉I.aa:=λk=>by
  let@⟨_,⟨@n,ch,_⟩⟩:=g2.iF.mem k;rw[fd]at ch;have:=bW ch;rw[ap]at this;exact gI _ this
 have hf:∀(Q:ax) (n:aX),(∀d∈cc,Q d=Y)->∀d∈cc,jJ I [(w,n)] Q d:=λQ n hm d G=>by
  refine⟨hm d G,?_,?_,.inl (by rw[g3];exact G),λf o e=>(mp f o e).elim (λx=>hi (d6 (ci d G) (df ev (by rw[ap]at ev;exact x)))) λx=>(bd d G).2.2.2.2.1 f o x,λu M=>?_⟩
  ·rw[bi];exact cT (d6 (ci d G) ca)
  ·exact g2.pn d (by rw[g3];exact G)
  ·rw[fn]at M;have:u=(w,n):=by simpa using M
   rw[this];exact Ne.symm (he d G)
 have ms:∀hw:ai,hw={L with heap:=gl,toks:=L.toks+([]:List (aC×ab)).length}->
   codeAny (aR b.prog b.w) b.A (.compLoop (.ListComp V8 [⟨Ve,VQ,V4,0⟩] U2 UZ) 0 (.ref af) (.ref w) I.env)
    (compPost (aR b.prog b.w) b.A b.cF use f8 (.ref w) aN) hw:=by
  rintro hw rfl;refine SM (λs UI=>∃(a:Nat) (U0:List ak) (Q:ax) (UW:List ab) (q:Nat),aF I [(w,{cls:=.type "list",data:=.seq UW.toArray q})] (j7 own Vh z) Q UI/\cp U0 UW/\U0.length<=sizeLine/\i a UI.heap/\
   (∀d∈cc,Q d=Y)/\W a s U0 Q) ?_ pt ?_
  ·rintro s m0 ⟨a,U0,S,UW,q,h0,fr,na,nb,ne,sc⟩;rcases turn a s U0 S sc with ⟨stop,sn⟩|⟨go,Vb,nl,step⟩
   ·have:=UO.done I cd ce lw mb a _ m0 _ S (λ_ O=>False) h0 (hf S _ ne) nb stop;rw[cl]at this;refine bZ this λj N T=>?_;let@⟨UQ,as⟩:=T;subst UQ;let⟨@t,hm,O⟩:=as.loc;have sp:N.heap.Ns aN t:=by rw[<-bi];exact hm
    have M:=as.pin (w,{cls:=.type "list",data:=.seq UW.toArray q}) (by rw[fn];simp);have bm:S w=Y:=M.2.1;have dE:∀d,d≠aN->N.heap.get? d=N.heap.get? d:=λd G=>rfl;have bn:∀d n,L.heap.get? d=Z n->d≠aN:=λd n c=>cT (d6 (bW c) ca);have ss:∀d n,L.heap.get? d=Z n->d≠w:=λd n c=>by rw[<-ap];exact cT (bW c)
    have an:eW (ib b.stack) cc U6 S L.heap N.heap:=by
     have:=as.base;rw[rc,g3,py,fd]at this;exact this
    have J:eW (ib b.stack) cc U6 (upd S w<|.lst U0) L.heap N.heap:=
     ⟨λd n c s G a1=>(dE d<|bn d n c).trans<|an.keep d n c s G a1,
      λd n c s G a1=>by
      let⟨@bF,p⟩:=an.slot d n c s G a1;exact⟨bF,(dE d<|bn d n c).trans p⟩,
      λd n c s a1=>by rw[b0 (ss d n c)];exact an.free d n c s a1,
      λd n E c C a1=>(dE d<|bn d n c).trans<|an.jL d n E c C a1,
      λd n c a1=>by
      let⟨@Vk,p⟩:=an.there d n c a1;exact⟨Vk,(dE d<|bn d n c).trans p⟩,
      λd E c=>by rw[b0 (fV (an.jq d E c) bm)];exact an.jq d E c,
      λd n E c=>by rw[b0 (fV (an.jV d n E c) bm)];exact an.jV d n E c,
      λd c=>by
      let⟨p,F⟩:=an.gD d c;exact⟨by rw[b0 (fV p bm)];exact p,λr=>(F r).trans (.of λn k=>(dE d (λk=>by have:=as.free;rw[bi,<-k,p]at this;cases this)).trans k)⟩⟩
    have nm:∀d n,S d=Z n->d≠aN:=λd n c k=>by
     have:=as.free;rw[bi,<-k,c]at this;cases this
    have sw:d_ b.prog b.w (upd S w<|.lst U0) N.heap:=λg n c=>by
     by_cases nn:g=w
     ·subst nn;rw[dp]at c;cases c;exact⟨na,UW,q,fr,(dE _ bv).trans M.1⟩
     ·rw[b0 nn]at c;have:=as.aY g n c;rw[cd,ce]at this;refine this.eF (λd J G p=>(dE d ?_).trans p) (λd p=>by rw[b0 (fV p bm)];exact p) (λd E p=>by rw[b0 (fV p bm)];exact p) λd n E p=>by rw[b0 (fV p bm)];exact p
      rcases G with k|k
      ·rw[k];exact nm g n c
      ·exact nm d _ k
    have sB:aF b R z (upd S w<|.lst U0) N:=am.Qj (UI:=N) (VW:=cc) (by have:=as.os;rw[fd]at this;exact this) J sw as.bare λd G=>⟨(bd d G).2.2.2.1,(bd d G).2.1,(bd d G).2.2.2.2.1,(bd d G).2.2.2.2.2⟩;have sK:b.env.locals≠aN:=by
     let⟨@wn,s0,O⟩:=am.loc;let⟨n,O,@O,ch,O⟩:=s0;exact bn _ _ ch
    have s1:∀f o,b.env.cells.lookup f=Z o->o≠aN:=λf o e=>by
     let⟨v,@n,ch,O⟩:=am.cell f o e;exact bn _ _ ch
    refine pp w aN _ N t sB sp ?_ sK s1 ?_ (λu M=>bn _ _ (am.pin u M).1) (sn w bm)
    ·rw[b0 (Ne.symm bv)];have:=as.free
     rwa [bi]at this
    ·exact df am.gy ca
   ·have:=UO.item I cd ce lw mb a _ m0 _ S (λ_ O=>False) h0 (hf S _ ne) nb go;rw[cl]at this;refine bZ this λj N T=>?_;let⟨@J,UQ,s2⟩:=T;subst UQ;refine bZ s2 λ_ co T=>?_;let⟨f,@ii,s3,s4,s5,im,to⟩:=T;have tt:=s3.pinned (hf ii _ to) (UO.obj _ _ im);have no:=ln _ co _ ii f J _ tt s4 (step f ii s5);rw[cd,ce,cl,hd]at no;refine bZ no λ_ ty T=>?_;let⟨cr,@tz,t0,t1,t3⟩:=T;have np:=ls _ ty cr tz _ t0 t3;rw[cd,ce,cl,hd]at np;refine bZ np λd ul T=>?_;let⟨@ns,f0,f1⟩:=T;have nw:∀{ol:a7}{Q:ax}{UI:ai},aF I ([(w,{cls:=.type "list",data:=.seq UW.toArray q})]++mX cc co.heap) ol Q UI->(∀d∈cc,Q d=Y)/\i (a+1) UI.heap:=λ{ol Q UI} cs=>by
     refine⟨λd G=>?_,UO.keep _ _ _ im λd G n c=>(cs.pin (d,n)<|dT _<|dT _<|tM G c).1⟩;let⟨@n,c,O⟩:=UO.obj _ _ im d G;exact (cs.pin (d,n)<|dT _<|dT _<|tM G c).2.1
    have on:∀{io:List (ah×aX)}{Q:ax}{UI:ai},aF I io cr Q UI->aF I io (j7 own Vh z) Q UI:=λ{io Q UI} cs=>
     cs.weak (by rw[cs.len,h0.len]) t1;cases d with
    |false=>
     rw[aL cU]at f1;let⟨@it,jp,un⟩:=nl _ _ f1;rw[aL cU];let@⟨Vf,Vt⟩:=nw f0;exact⟨it,jp,a+1,U0,ns,UW,q,on (f0.nF λu M=>f0.pin u (by
      rw[fn];simp at M ⊢;exact .inl M)),fr,na,Vt,Vf,un⟩
    |true=>
     rw[aK rfl]at f1 ⊢;have op:=lv _ ul cr ns _ f0 f1;rw[cd,ce,cl,hd]at op;refine bZ op λal be T=>?_;let⟨up,@kt,f2,us,wr,ut⟩:=T;let⟨@it,jp,u8⟩:=nl _ _ ut;have M:=f2.pin (w,{cls:=.type "list",data:=.seq UW.toArray q}) (dT _ (fl _ ↥0));have kw:=M.1;refine ub I4 ⟨_,kw,rfl⟩ Bt (Fm _ _) (DP w UW.toArray q al (by rw[cJ,<-fr.length];lia)) ⟨kw,?_⟩;have p:=Fl kw (λg=>g.push al);let@⟨Vf,Vt⟩:=nw f2;have v0:aF I (mX cc co.heap) cr kt be:=f2.nF λu M=>f2.pin u (dT _<|dT _ M);have o0:∀d n,d≠w->be.heap.get? d=Z n->(be.heap.update w<|aX.mapSeq λg=>g.push al).get? d=Z n:=λd n G c=>(gJ be.heap _<|Ne.symm G).trans c;have v1:aF I (mX cc co.heap) cr kt {be with heap:=be.heap.update w (aX.mapSeq λg=>g.push al),toks:=be.toks}:=
      v0.turned (af:=w) o0 M.2.1 (by rw[bi];exact bv) (.inr (by rw[fd,ap];exact bb _)) re λu f4=>by
       rw[fn]at f4;let@⟨G,_⟩:=BU (show u∈mX cc co.heap by simpa using f4);exact he _ G
     refine⟨it,jp,a+1,U0++[up],kt,UW++[al],q+1,on<|v1.nF λu f4=>?_,fr.append<|.cons us .nil,?_,?_,Vf,u8⟩
     ·have c:u=(w,{cls:=.type "list",data:=.seq (UW++[al]).toArray (q+1)}):=by simpa using f4
      subst c;refine⟨?_,M.2.1,M.2.2.1,M.2.2.2.1,λv k=>by cases k⟩;have v2:UW.toArray.push al=(UW++[al]).toArray:=by simp
      rw[<-v2];have pc:IsL (be.heap.update w<|aX.mapSeq λg=>g.push al) w (UW.toArray.push al) (if (UW.toArray.push al).size==UW.toArray.size then q else q+1):=p;rw[aL ↥0]at pc;exact pc
     ·rw[dW,jj];lia
     ·refine UO.keep _ _ _ Vt λd G n c=>o0 d n (he d G) c
  ·refine⟨0,[],U6,[],0,?_,.nil,gk _,UO.keep _ _ _ ge λd O n c=>g1 d n c,λd G=>(bd d G).1,pu⟩;refine (lm _).nF λu M=>?_;have c:u=(w,{cls:=.type "list",data:=.seq ([]:List ab).toArray 0}):=by simpa using M
   subst c;exact⟨li,am.aY.fresh (by rw[ap];exact bb _),by rw[bi];exact bv,rs,λv k=>by cases k⟩
 have v4:va U2 (U++ku b.env U2.names) aN b.env=I.env:=mo.symm;show codeAny (aR b.prog b.w) b.A (.compStart _ 0 (.ref af) (.ref w)<|va U2 (U++ku b.env U2.names) aN b.env) _ _;rw[v4];exact codeAny_compStart_list (ms _ rfl) (UO.self b.A 0 _ _ _ (UO.keep _ _ _ ge λd O n c=>g1 d n c)<|ms _ rfl)
def KY(i:b.calm=X)(UM:hK b U2 own Vh)(UN:jb b Ve VQ Wa)(j:∀a,jI (b.fK (fP b own Vh) U2 a) Ve<|F a)(bP:∀a,qP (b.fK (fP b own Vh) U2 a) V4<|H a)(q:∀a,bD (b.fK (fP b own Vh) U2 a) V8<|VV a)(ar:∀f,mW VQ b.env f=pure f:=by intro W;rfl):bD b (.ListComp V8 [⟨Ve,VQ,V4,0⟩] U2 UZ) (wh own Vh Wa F H VV):=by
 intro R m z h A l e;show wpAny _ b.A (ya (.ListComp V8 [⟨Ve,VQ,V4,0⟩] U2 UZ) U2 b.env _ (oo []) av (b7 VQ b.env) Y) _ _ m;refine Ht (use:=Y) (f8:=ec b R z A) i UM UN j bP q ar l e λw aN r g t s v N I o k u p=>?_;show ∃t,g.heap.Ns aN t/\∀S,aZ.SameBut aN g.heap S->ec b R z A (.ref w) {g with heap:=S};refine⟨t,v,λS cz=>⟨.ref w,r,?_,rfl,p⟩⟩;exact s.turned (af:=aN) (Vd:=g.toks) (λd n x c=>(cz.2 d x).trans c) N (Ne.symm I) (.inr k) o u
end
def hy(e:aZ)(r:ah)(M:List ab)(U9:Nat):Prop:=(∃n T,e.get? r=Z n/\n.ExactDict/\n.data=.dict T U9/\T.toList.map (·.key)=M)
def hy.ty(f:hy m.heap r M U9):m.TypeIs (.ref r) "dict" := let ⟨n,_,c,o,_⟩:=f;⟨n,c,o.1⟩
def hy.lt(f:hy e r M U9):r<e.objs.size:=let ⟨_,_,c,_⟩:=f;bW c
def hy.go{S:aZ}(f:hy e r M U9)(q:∀n,e.get? r=Z n->S.get? r=Z n):hy S r M U9:=let ⟨n,T,c,j⟩:=f;⟨n,T,q n c,j⟩
section
variable{US:bC}{D:bc}{O:bw}{UH:ab->ai->Prop}{m:ai}
def Ip{A:ab->ai->Prop}(UJ:(r==h_)=av)(f:hy m.heap r M U9)(p:A (.ref m.heap.objs.size) {m with heap:=m.heap.push {cls:=.type "dict_keyiterator",data:=.fields #[.ref r,.int 0 0,.int M.length 0,.int U9 0]} }):wpAny (aR US D) O (mZ<|.ref r) A UH m:=by
 have ty:=f.ty;let⟨n,@T,a,d,b,c⟩:=f;have s:T.size=M.length:=by rw[<-c,bl,dk]
 refine wU ty Bb (g7 Bb ty F.entry_dict_iter ?k<|F.args_dict_iter_1 _)
 case k=>
  unfold br.«dict.__iter__» br.Dict.dictSlotNone;refine ao (ao<|DW ty ?_);show wpAny _ _ (pure<|ab.ref r) _ _ m;apply aQ;show wpAny _ _ (br.Dict.showsAll r >>= _) _ _ m;unfold br.Dict.showsAll;rw[aL (by rw[UJ];simp)];refine ao (aQ<|ao<|qm a b<|ao<|pW a b<|ao<|gu<|aQ ⟨_,rfl,"dict_keyiterator",_,⟨_,cR _ rfl,rfl⟩,rK.lookup,?_⟩);simpa [cP,s] using p
def Ct{af r:ah}{v:ab}(b:m.heap.IsKeyIter af r a M.length U9)(f:hy m.heap r M U9)(d:M[a]?=Z v)(p:∀S,S.IsKeyIter af r (a+1) M.length U9->aZ.SameBut af m.heap S->A (Z v) {m with heap:=S}):wpAny (aR US D) O (fb<|.ref af) A UH m:=by
 let⟨@o,e,l,c⟩:=id b;let⟨n,@T,g,q,h,i⟩:=f;have s:T.size=M.length:=by rw[<-i,bl,dk]
 have UN:a<T.size:=by
  have:a<M.length:=(eV.mp d).1;lia
 have V9:T[a].key=v:=by
  rw[<-i,dU,eA,iS UN]at d;exact Option.some.inj d
 unfold fb;refine ao (lC<|lu (name:=aC.ofString "__next__") b.typeIs rK<|g7 rK b.typeIs E5 ?k<|Fz _)
 case k=>
  refine ao (aQ<|ao<|ao ?_);refine ao (ti b.typeIs<|aQ<|ao<|nx e c ?_);simp only[show br.Dict_items.ownsTuple "dict_keyiterator" = av by decide,gs,ft];show wpAny _ _ (if (ab.ref r==ab.none)=X then _ else _) _ _ m;rw[aL (show ¬ (ab.ref r==ab.none)=X by intro k;cases k)];refine ao (aQ<|ao<|qm g h ?_);rw[aL (by simp[s])];refine ao (aQ<|ao<|pW g h ?_);rw[aL ↥0];apply aQ;simp only[show ¬ ((a:Int)<0) by lia,ft,kY,iS UN];refine ao (ao<|ti b.typeIs<|aQ<|ao<|Iu b.typeIs ?_);show wpAny _ _ (ps (.ref af) 1 (cP<|(a:Int)+1) >>= _) _ _ m;have j:(m.heap.update af (aX.mapFields (·.setIfInBounds 1 (cP<|(a:Int)+1)))).IsKeyIter af r (a+1) M.length U9:=
   ⟨_,l6 _ e<|AF<|pL c _,(w1 ..).trans l,by rw[pL c];simp[cP]⟩;refine ao (m8 e c ↥0 (ao (gP (ao (Iu (s:={m with heap:=m.heap.update af (aX.mapFields (·.setIfInBounds 1 (cP<|(a:Int)+1)))}) j.typeIs ?_)))));show wpAny _ _ (pure T[a].key) _ _ _;rw[V9];exact aQ (aQ ⟨_,rfl,aQ<|p _ j<|kQ ..⟩)
def Bh{af r:ah}(j:O.handled=Y)(b:m.heap.IsKeyIter af r a M.length U9)(f:hy m.heap r M U9)(o:M.length<=a)(p:∀S,aZ.ExtBut af m.heap S->A Y {m with heap:=S}):wpAny (aR US D) O (fb<|.ref af) A UH m:=by
 let⟨@q,c,u,e⟩:=id b;let⟨n,@T,h,v,i,l⟩:=f;have s:T.size=M.length:=by rw[<-l,bl,dk]
 unfold fb;refine ao (lC<|lu (name:=aC.ofString "__next__") b.typeIs rK<|g7 rK b.typeIs E5 ?k<|Fz _)
 case k=>
  refine ao (aQ<|ao<|ao ?_);refine ao (ti b.typeIs<|aQ<|ao<|nx c e ?_);simp only[show br.Dict_items.ownsTuple "dict_keyiterator" = av by decide,gs,ft];show wpAny _ _ (if (ab.ref r==ab.none)=X then _ else _) _ _ m;rw[aL (show ¬ (ab.ref r==ab.none)=X by intro k;cases k)];refine ao (aQ<|ao<|qm h i ?_);rw[aL (by simp[s])];refine ao (aQ<|ao<|pW h i ?_);rw[aL ↥0];apply aQ;simp only[show ¬ ((a:Int)<0) by lia,ft,kY,wF (show T.size<=a by lia)];refine ao (ao<|ti b.typeIs<|aQ ?_);show wpAny _ _ (ps (.ref af) 0 .none >>= _) _ _ m;refine ao (m8 c e ↥0 ?_);show wpAny _ _ (mG (.type "StopIteration") [] >>= _) _ _ _;apply ao;simp only[mG,r0];refine ao (gu (ao (m:=m6 _ _) (p9 (a:=ab.none) (by first|rfl|(simp only[m6];rfl)) (gu ?_ (by size_fits)))) (by size_fits));simp only[raiseNew];apply ao;apply uY;rw[show O.in1.handled=Y from j];refine ao (m:=pure _) (aQ<|u6 ?_);apply ao;refine oT (T := "StopIteration") (b:=X) ⟨_,cR _ rfl,rfl⟩ t7 ?_;exact aQ (p _<|((kQ ..).extBut.push _).push _)
theorem Qs(i:O.handled=Y)(af r:ah)(ne:r≠af)(M:List ab)(U9:Nat):kU US D O af [af,r] [af] M.length (λa v=>M[a]?=Z v) (λa e=>e.IsKeyIter af r a M.length U9/\hy e r M U9) where
 sub:=λd k=>by
  have:d=af:=by simpa using k
  simp[this]
 frame:=λa e S L q=>⟨let ⟨n,c,j⟩:=L.1;⟨n,q af ↥0 n c,j⟩,L.2.go (q r ↥0)⟩
 item:=λa m A UH UN L b=>by
  have h:M[a]?=Z M[a]:=by simp[UN]
  refine Ct L.1 L.2 h λS g d=>b _ S m.toks h ⟨g,L.2.go λn c=>d.extBut r n ne c⟩ λo n f c=>d.extBut o n ⇑f c
 done:=λm A UH L b=>Bh i L.1 L.2 (bb _) λS d=>b S m.toks λo n f c=>d o n ⇑f c
 self:=λa m A UH L b=>Gs L.1 b
theorem Sl(UJ:(r==h_)=av):PySem.W.KdlSrc US D "dict" r r M.length (λa v=>M[a]?=Z v) (λe=>hy e r M U9) where
 type:=λm f=>f.ty
 there:=λe f=>⟨f.lt,f.lt⟩
 keep:=λe S f q=>f.go (q r<|.inl rfl)
 notList:=by decide
 notTuple:=by decide
 hint:=λO UH m A f p=>PySem.W.kdl_hint_dict f.ty p
 iter:=λO m b f=>⟨_,_,(λUH A p=>Ip UJ f p),Qs b _ r (cT f.lt) M U9,⟨⟨_,cR _ rfl,rfl,rfl⟩,f.go λn c=>bT _ c⟩⟩
end
end L2
namespace L2
open Spec PyProof.Rows PySem.W
section
variable{s:Nat}{G:Nat->Int}{b:Nat->Nat->(Bool->ai->Prop)->ai->Prop}
def bf(G:Nat->Int)(u:Array Nat)(a:Nat):Int:=(G (u.getD a 0))
def i8(G:Nat->Int)(u:Array Nat)(t:Nat):Prop:=(∀a i,a<=i->i<t->bf G u a<=bf G u i)
def fC(s:Nat)(G:Nat->Int)(b:Nat->Nat->(Bool->ai->Prop)->ai->Prop)(m:ai):Prop:=(∀a i aN,a<s->i<s->aN (decide (G a<G i)) m->b a i aN m)
def cW(s:Nat)(u:Array Nat):Prop:=(u.toList.Perm (range s))
variable{u:Array Nat}
def cW.size(e:cW s u):u.size=s:=by
 have:=e.length_eq;simpa using this
def cW.lt(e:cW s u){a:Nat}(UN:a<s):u.getD a 0<s:=by
 have ar:=e.size;have c:u.getD a 0=u[a]:=by simp[Array.getD,ar,UN]
 rw[c];have:u[a]∈u.toList:=by simp
 exact eT.mp (e.mem_iff.mp this)
def cW.ne(e:cW s u)(inj:∀a i,a<s->i<s->G a=G i->a=i){a i:Nat}(j:a<i)(b:i<s):bf G u a≠bf G u i:=by
 intro c;have ar:=e.size;have d:=inj _ _ (e.lt (by omega)) (e.lt b) c;have f:u.getD a 0=u[a]:=by simp[Array.getD,ar,show a<s by omega]
 have g:u.getD i 0=u[i]:=by simp[Array.getD,ar,b]
 rw[f,g]at d;have aj:u.toList.Nodup:=e.nodup_iff.mpr nr;have h:u.toList[a]'(by simpa [ar] using (show a<s by omega))=u.toList[i]'(by simpa [ar] using b):=by simpa using d
 have:=(Dl aj).mp h;omega
def mz{p:Array Nat}{a i:Nat}(c:u[a]?=p[i]?):bf G u a=bf G p i:=by
 unfold bf;rw[GH,GH,c]
theorem cW.rev(e:cW s u)(a i:Nat):cW s (m2 u a i):=(H4.mp<|mirror_perm u a i _).trans e
theorem cW.Mg(e:cW s u)(a i:Nat):cW s (rx u a i):=(H4.mp<|bubble_perm u a i).trans e
end
section
variable{US:bC}{D:bc}{O:bw}{UH:ab->ai->Prop}{U7:gR}{af:Array bj}{G:Nat->Int}{s:Nat}{m:ai}
def pJ:Bool->bj->Array bj->Nat->Nat->Nat->StateT bA dw (Option Nat):=(sortPriv% PySem.Builtin.gallop)
def rW(b:fC s G (eU US D O U7 af) m){a i:Nat}(UN:a<s)(c:i<s){L:bA}(d:kindOf L=U7){A:Option Bool->bA->ai->Prop}(e:A (Z<|decide (G a<G i)) L m):
  kasC (aR US D) O UH (lt' (ba af a)<|ba af i) A L m:=by
 rw[lt'_eq];apply bo;apply j0;have:=b a i (λo UI=>UI=m/\o=decide (G a<G i)) UN c ⟨rfl,rfl⟩;unfold eU at this;rw[d];refine bo (oh<|lC<|f7 this (λo UI f=>?_) λ_ W g=>g.elim);let@⟨rfl,rfl⟩:=f;exact bk e
theorem gV{z VR:Type}{ay:fH}{N:Nat->VR->StateT z dw (ForInStep VR)}{A:VR->z->ai->Prop}(l:Nat->VR->z->ai->Prop)(step:∀f o L UI,l f o L UI->kasC ay O UH (N f o) (λj b d=>match j with | .yield a=>l (f+1) a b d | .done a=>A a b d) L UI):∀(t g:Nat) (o:VR) (L:z) (UI:ai),(∀o L UI,l (g+t) o L UI->A o L UI)->l g o L UI->
   kasC ay O UH (forIn (range' g t) o N) A L UI
 |0,g,o,L,UI,h,e=>by
  show kasC ay O UH (forIn ([]:List Nat) o N) A L UI;exact kasC_nil (h o L UI e)
 |t+1,g,o,L,UI,h,e=>by
  show kasC ay O UH (forIn (g::range' (g+1) t) o N) A L UI;refine kasC_cons (f7 (step g o L UI e) (λj d S=>?_) λ_ W c=>c);let⟨j,b⟩:=j;cases j with
  |done a=>exact S
  |yield a=>exact gV l step t (g+1) a b d (λo L UI UN=>h o L UI (by rw[show g+(t+1)=g+1+t by lia];exact UN)) S
def cO(G:Nat->Int)(left:Bool)(q:Nat)(bX:Array Nat)(UY a:Nat):Bool:=(if left=X then decide (G (bX.getD (UY+a) 0)<G q) else !decide (G q<G (bX.getD (UY+a) 0)))
def Ee(Q:fC s G (eU US D O U7 af) m){left:Bool}{q:Nat}(R:q<s){bX:Array Nat}(al:∀a,a<bX.size->bX.getD a 0<s){UY t b:Nat}(as:UY+t<=bX.size)(am:b<t)(mono:∀a i,a<=i->i<t->cO G left q bX UY i=X->cO G left q bX UY a=X){L:bA}(S:kindOf L=U7){A:Option Nat->bA->ai->Prop}(e:∀j,j<=t->(∀a,a<j->cO G left q bX UY a=X)->(∀a,j<=a->a<t->cO G left q bX UY a=av)->A (Z j) L m):
  kasC (aR US D) O UH (pJ left (ba af q) (bX.map<|ba af) UY t b) A L m:=by
 have an:∀a,a<t->(bX.map<|ba af)[UY+a]?=Z (ba af<|bX.getD (UY+a) 0):=λa UN=>by
  have:UY+a<bX.size:=⋯
  simp[Array.getD,this]
 have ask:∀a,a<t->∀P:Option Bool->bA->ai->Prop,P (Z<|cO G left q bX UY a) L m->
   kasC (aR US D) O UH (do let f <-elem' (bX.map<|ba af) (UY+a);if left=X then lt' f (ba af q) else do let j <-lt' (ba af q) f;pure (j.map λf=>!f)) P L m:=λa UN P J=>by
  rw[vG,an a UN];apply bo;apply bk;have T:=al (UY+a) ⋯;unfold cO at J;cases left with
  |true=>
   rw[aK rfl]at J ⊢;exact rW Q T R S J
  |false=>
   rw[aL cU]at J ⊢;exact bo (rW Q R T S<|bk J)
 unfold pJ;with_unfolding_all refine bo ?_;refine ask b am _ ?_;dsimp only;cases U:cO G left q bX UY b with
 |true=>
  rw[aK rfl];apply bo;apply fS;have H:∀last h,last<h->b+last<t->cO G left q bX UY (b+last)=X->(h >= t-b\/cO G left q bX UY (b+h)=av)->
    b+last+1<=b+min h (t-b)/\b+min h (t-b)<=t/\(∀a,a<b+last+1->cO G left q bX UY a=X)/\(∀a,b+min h (t-b)<=a->a<t->cO G left q bX UY a=av)/\b+min h (t-b)-(b+last+1)<=t-0:=λlast h ap VL N F=>by
   refine⟨⋯,⋯,λa UN=>mono a (b+last) ⋯ VL N,λa y B=>?_,⋯⟩;rcases F with F|F
   ·lia
   ·cases w:cO G left q bX UY a with
    |false=>rfl
    |true=>rw[mono (b+h) a ⋯ B w]at F;cases F
  refine gV (λf o n UI=>n=L/\UI=m/\∃last h,o=(Y,last,h)/\last<h/\f<h/\b+last<t/\cO G left q bX UY (b+last)=X) ?_ _ 0 _ _ _ ?_ ⟨rfl,rfl,0,1,rfl,⋯,⋯,⋯,U⟩
  ·rintro f o n UI ⟨p,r,last,h,rfl,y,B,k,l⟩;rw[p,r];dsimp only;by_cases I:h >= t-b
   ·rw[aK I];apply bk;dsimp only;have x:=H last h y k l (.inl I);apply bo;apply fS;refine gV (λf o n UI=>n=L/\UI=m/\∃UJ UN,o=(Y,UJ,UN)/\UJ<=UN/\UN<=t/\(∀a,a<UJ->cO G left q bX UY a=X)/\(∀a,UN<=a->a<t->cO G left q bX UY a=av)/\UN-UJ<=t-f) ?_ _ 0 _ _ _ ?_ ⟨rfl,rfl,_,_,rfl,x⟩
    ·rintro f o n UI ⟨p,r,UJ,UN,rfl,y,B,k,l,z⟩;rw[p,r];dsimp only;by_cases v:UJ >= UN
     ·rw[aK v];apply bk;dsimp only;have c:UJ=UN:=⋯
      subst c;exact bk (e UJ B k l)
     ·rw[aL v];have C:UJ<=UJ+(UN-UJ)/2:=⋯
      have E:UJ+(UN-UJ)/2<UN:=⋯
      generalize UJ+(UN-UJ)/2=mid at C E ⊢;refine bo (ask mid ⋯ _ ?_);dsimp only;cases u:cO G left q bX UY mid with
      |true=>
       rw[aK rfl];exact bk ⟨rfl,rfl,mid+1,UN,rfl,⋯,B,λa M=>mono a mid ⋯ ⋯ u,l,⋯⟩
      |false=>
       rw[aL cU];refine bk ⟨rfl,rfl,UJ,mid,rfl,⋯,⋯,k,λa g d=>?_,⋯⟩;cases w:cO G left q bX UY a with
       |false=>rfl
       |true=>rw[mono mid a g d w]at u;cases u
    ·rintro o n UI ⟨p,r,UJ,UN,rfl,y,B,k,l,z⟩;rw[p,r];dsimp only;have c:UJ=UN:=⋯
     subst c;exact bk (e UJ B k l)
   ·rw[aL I];refine bo (ask (b+h) ⋯ _ ?_);dsimp only;cases u:cO G left q bX UY (b+h) with
    |true=>
     simp only[p6,gs,ft];exact bk ⟨rfl,rfl,h,2*h+1,rfl,⋯,⋯,⋯,u⟩
    |false=>
     simp only[Bool.not_false,iY];apply bk;dsimp only;have x:=H last h y k l (.inr u);apply bo;apply fS;refine gV (λf o n UI=>n=L/\UI=m/\∃UJ UN,o=(Y,UJ,UN)/\UJ<=UN/\UN<=t/\(∀a,a<UJ->cO G left q bX UY a=X)/\(∀a,UN<=a->a<t->cO G left q bX UY a=av)/\UN-UJ<=t-f) ?_ _ 0 _ _ _ ?_ ⟨rfl,rfl,_,_,rfl,x⟩
     ·rintro f o n UI ⟨p,r,UJ,UN,rfl,y,B,k,l,z⟩;rw[p,r];dsimp only;by_cases v:UJ >= UN
      ·rw[aK v];apply bk;dsimp only;have c:UJ=UN:=⋯
       subst c;exact bk (e UJ B k l)
      ·rw[aL v];have C:UJ<=UJ+(UN-UJ)/2:=⋯
       have E:UJ+(UN-UJ)/2<UN:=⋯
       generalize UJ+(UN-UJ)/2=mid at C E ⊢;refine bo (ask mid ⋯ _ ?_);dsimp only;cases u:cO G left q bX UY mid with
       |true=>
        rw[aK rfl];exact bk ⟨rfl,rfl,mid+1,UN,rfl,⋯,B,λa M=>mono a mid ⋯ ⋯ u,l,⋯⟩
       |false=>
        rw[aL cU];refine bk ⟨rfl,rfl,UJ,mid,rfl,⋯,⋯,k,λa g d=>?_,⋯⟩;cases w:cO G left q bX UY a with
        |false=>rfl
        |true=>rw[mono mid a g d w]at u;cases u
     ·rintro o n UI ⟨p,r,UJ,UN,rfl,y,B,k,l,z⟩;rw[p,r];dsimp only;have c:UJ=UN:=⋯
      subst c;exact bk (e UJ B k l)
  ·rintro o n UI ⟨p,r,last,h,rfl,y,B,k,l⟩;rw[p,r];dsimp only;have x:=H last h y k l (.inl ⋯);apply bo;apply fS;refine gV (λf o n UI=>n=L/\UI=m/\∃UJ UN,o=(Y,UJ,UN)/\UJ<=UN/\UN<=t/\(∀a,a<UJ->cO G left q bX UY a=X)/\(∀a,UN<=a->a<t->cO G left q bX UY a=av)/\UN-UJ<=t-f) ?_ _ 0 _ _ _ ?_ ⟨rfl,rfl,_,_,rfl,x⟩
   ·rintro f o n UI ⟨p,r,UJ,UN,rfl,y,B,k,l,z⟩;rw[p,r];dsimp only;by_cases v:UJ >= UN
    ·rw[aK v];apply bk;dsimp only;have c:UJ=UN:=⋯
     subst c;exact bk (e UJ B k l)
    ·rw[aL v];have C:UJ<=UJ+(UN-UJ)/2:=⋯
     have E:UJ+(UN-UJ)/2<UN:=⋯
     generalize UJ+(UN-UJ)/2=mid at C E ⊢;refine bo (ask mid ⋯ _ ?_);dsimp only;cases u:cO G left q bX UY mid with
     |true=>
      rw[aK rfl];exact bk ⟨rfl,rfl,mid+1,UN,rfl,⋯,B,λa M=>mono a mid ⋯ ⋯ u,l,⋯⟩
     |false=>
      rw[aL cU];refine bk ⟨rfl,rfl,UJ,mid,rfl,⋯,⋯,k,λa g d=>?_,⋯⟩;cases w:cO G left q bX UY a with
      |false=>rfl
      |true=>rw[mono mid a g d w]at u;cases u
   ·rintro o n UI ⟨p,r,UJ,UN,rfl,y,B,k,l,z⟩;rw[p,r];dsimp only;have c:UJ=UN:=⋯
    subst c;exact bk (e UJ B k l)
 |false=>
  rw[aL cU];apply bo;apply fS;have H:∀last h,last<h->last<=b->cO G left q bX UY (b-last)=av->(h >= b+1\/cO G left q bX UY (b-h)=X)->
    b+1-min h (b+1)<=b-last/\b-last<=t/\(∀a,a<b+1-min h (b+1)->cO G left q bX UY a=X)/\(∀a,b-last<=a->a<t->cO G left q bX UY a=av)/\b-last-(b+1-min h (b+1))<=t-0:=λlast h ap VL N F=>by
   refine⟨⋯,⋯,λa UN=>?_,λa y B=>?_,⋯⟩
   ·rcases F with F|F
    ·lia
    ·exact mono a (b-h) ⋯ ⋯ F
   ·cases w:cO G left q bX UY a with
    |false=>rfl
    |true=>rw[mono (b-last) a ⋯ B w]at N;cases N
  refine gV (λf o n UI=>n=L/\UI=m/\∃last h,o=(Y,last,h)/\last<h/\f<h/\last<=b/\cO G left q bX UY (b-last)=av) ?_ _ 0 _ _ _ ?_ ⟨rfl,rfl,0,1,rfl,⋯,⋯,⋯,U⟩
  ·rintro f o n UI ⟨p,r,last,h,rfl,y,B,k,l⟩;rw[p,r];dsimp only;by_cases I:h >= b+1
   ·rw[aK I];apply bk;dsimp only;have x:=H last h y k l (.inl I);apply bo;apply fS;refine gV (λf o n UI=>n=L/\UI=m/\∃UJ UN,o=(Y,UJ,UN)/\UJ<=UN/\UN<=t/\(∀a,a<UJ->cO G left q bX UY a=X)/\(∀a,UN<=a->a<t->cO G left q bX UY a=av)/\UN-UJ<=t-f) ?_ _ 0 _ _ _ ?_ ⟨rfl,rfl,_,_,rfl,x⟩
    ·rintro f o n UI ⟨p,r,UJ,UN,rfl,y,B,k,l,z⟩;rw[p,r];dsimp only;by_cases v:UJ >= UN
     ·rw[aK v];apply bk;dsimp only;have c:UJ=UN:=⋯
      subst c;exact bk (e UJ B k l)
     ·rw[aL v];have C:UJ<=UJ+(UN-UJ)/2:=⋯
      have E:UJ+(UN-UJ)/2<UN:=⋯
      generalize UJ+(UN-UJ)/2=mid at C E ⊢;refine bo (ask mid ⋯ _ ?_);dsimp only;cases u:cO G left q bX UY mid with
      |true=>
       rw[aK rfl];exact bk ⟨rfl,rfl,mid+1,UN,rfl,⋯,B,λa M=>mono a mid ⋯ ⋯ u,l,⋯⟩
      |false=>
       rw[aL cU];refine bk ⟨rfl,rfl,UJ,mid,rfl,⋯,⋯,k,λa g d=>?_,⋯⟩;cases w:cO G left q bX UY a with
       |false=>rfl
       |true=>rw[mono mid a g d w]at u;cases u
    ·rintro o n UI ⟨p,r,UJ,UN,rfl,y,B,k,l,z⟩;rw[p,r];dsimp only;have c:UJ=UN:=⋯
     subst c;exact bk (e UJ B k l)
   ·rw[aL I];refine bo (ask (b-h) ⋯ _ ?_);dsimp only;cases u:cO G left q bX UY (b-h) with
    |false=>
     rw[aL cU];exact bk ⟨rfl,rfl,h,2*h+1,rfl,⋯,⋯,⋯,u⟩
    |true=>
     rw[aK rfl];apply bk;dsimp only;have x:=H last h y k l (.inr u);apply bo;apply fS;refine gV (λf o n UI=>n=L/\UI=m/\∃UJ UN,o=(Y,UJ,UN)/\UJ<=UN/\UN<=t/\(∀a,a<UJ->cO G left q bX UY a=X)/\(∀a,UN<=a->a<t->cO G left q bX UY a=av)/\UN-UJ<=t-f) ?_ _ 0 _ _ _ ?_ ⟨rfl,rfl,_,_,rfl,x⟩
     ·rintro f o n UI ⟨p,r,UJ,UN,rfl,y,B,k,l,z⟩;rw[p,r];dsimp only;by_cases v:UJ >= UN
      ·rw[aK v];apply bk;dsimp only;have c:UJ=UN:=⋯
       subst c;exact bk (e UJ B k l)
      ·rw[aL v];have C:UJ<=UJ+(UN-UJ)/2:=⋯
       have E:UJ+(UN-UJ)/2<UN:=⋯
       generalize UJ+(UN-UJ)/2=mid at C E ⊢;refine bo (ask mid ⋯ _ ?_);dsimp only;cases u:cO G left q bX UY mid with
       |true=>
        rw[aK rfl];exact bk ⟨rfl,rfl,mid+1,UN,rfl,⋯,B,λa M=>mono a mid ⋯ ⋯ u,l,⋯⟩
       |false=>
        rw[aL cU];refine bk ⟨rfl,rfl,UJ,mid,rfl,⋯,⋯,k,λa g d=>?_,⋯⟩;cases w:cO G left q bX UY a with
        |false=>rfl
        |true=>rw[mono mid a g d w]at u;cases u
     ·rintro o n UI ⟨p,r,UJ,UN,rfl,y,B,k,l,z⟩;rw[p,r];dsimp only;have c:UJ=UN:=⋯
      subst c;exact bk (e UJ B k l)
  ·rintro o n UI ⟨p,r,last,h,rfl,y,B,k,l⟩;rw[p,r];dsimp only;have x:=H last h y k l (.inl ⋯);apply bo;apply fS;refine gV (λf o n UI=>n=L/\UI=m/\∃UJ UN,o=(Y,UJ,UN)/\UJ<=UN/\UN<=t/\(∀a,a<UJ->cO G left q bX UY a=X)/\(∀a,UN<=a->a<t->cO G left q bX UY a=av)/\UN-UJ<=t-f) ?_ _ 0 _ _ _ ?_ ⟨rfl,rfl,_,_,rfl,x⟩
   ·rintro f o n UI ⟨p,r,UJ,UN,rfl,y,B,k,l,z⟩;rw[p,r];dsimp only;by_cases v:UJ >= UN
    ·rw[aK v];apply bk;dsimp only;have c:UJ=UN:=⋯
     subst c;exact bk (e UJ B k l)
    ·rw[aL v];have C:UJ<=UJ+(UN-UJ)/2:=⋯
     have E:UJ+(UN-UJ)/2<UN:=⋯
     generalize UJ+(UN-UJ)/2=mid at C E ⊢;refine bo (ask mid ⋯ _ ?_);dsimp only;cases u:cO G left q bX UY mid with
     |true=>
      rw[aK rfl];exact bk ⟨rfl,rfl,mid+1,UN,rfl,⋯,B,λa M=>mono a mid ⋯ ⋯ u,l,⋯⟩
     |false=>
      rw[aL cU];refine bk ⟨rfl,rfl,UJ,mid,rfl,⋯,⋯,k,λa g d=>?_,⋯⟩;cases w:cO G left q bX UY a with
      |false=>rfl
      |true=>rw[mono mid a g d w]at u;cases u
   ·rintro o n UI ⟨p,r,UJ,UN,rfl,y,B,k,l,z⟩;rw[p,r];dsimp only;have c:UJ=UN:=⋯
    subst c;exact bk (e UJ B k l)
end
section
variable{G:Nat->Int}
def cy(G:Nat->Int)(I:List Nat):Prop:=(I.Pairwise λf x=>G f<=G x)
structure Pu(G:Nat->Int)(aB l:List Nat)(b:List Nat)(w E:Nat):Prop where
 perm:b.Perm (aB.take w++l.take E)
 aP:cy G (b++aB.drop w)
 cz:cy G (b++l.drop E)
 bX:w+1<aB.length
 ke:E<l.length
variable{I t:List Nat}
def fp:cy G (I++t)↔cy G I/\cy G t/\∀f∈I,∀x∈t,G f<=G x:=vj
def px(I:List Nat)(a q:Nat):I.take a++(I.drop a).take q=I.take (a+q):=by rw[List.take_add]
variable{aB l b:List Nat}{w E:Nat}
def wu(q:Nat)(perm:b.Perm (aB.take w++l.take E))(aP:cy G (b++aB.drop w))(cz:cy G (b++l.drop E))(e:∀f∈(aB.drop w).take q,∀x∈l.drop E,G f<=G x):
  (b++(aB.drop w).take q).Perm (aB.take (w+q)++l.take E)/\cy G (b++(aB.drop w).take q++aB.drop (w+q))/\cy G (b++(aB.drop w).take q++l.drop E):=by
 refine⟨?_,?_,?_⟩
 ·rw[<-px aB w q];refine (perm.append_right _).trans ?_;rw[bq,bq];exact dO _ c8
 ·rw[bq,<-ob,fq];exact aP
 ·rw[bq];have c:=fp.mp aP;have d:=fp.mp cz;refine fp.mpr ⟨c.1,fp.mpr ⟨c.2.1.sublist<|rE _ _,d.2.1,e⟩,λf g x a=>?_⟩;rcases ed.mp a with a|a
  ·exact c.2.2 f g x (n0 a)
  ·exact d.2.2 f g x a
def yf(q:Nat)(perm:b.Perm (aB.take w++l.take E))(aP:cy G (b++aB.drop w))(cz:cy G (b++l.drop E))(e:∀f∈(l.drop E).take q,∀x∈aB.drop w,G f<=G x):
  (b++(l.drop E).take q).Perm (aB.take w++l.take (E+q))/\cy G (b++(l.drop E).take q++aB.drop w)/\cy G (b++(l.drop E).take q++l.drop (E+q)):=by
 have:=wu (aB:=l) (l:=aB) q (perm.trans c8) cz aP e;exact⟨this.1.trans c8,this.2.2,this.2.1⟩
variable{a:Nat}
def ka(e:a<I.length):(I.drop a).take 1=[I.getD a 0]:=by
 rw[jW e,cA,dy e];rfl
variable{x:Nat}
def kh(e:x∈I.drop a):∃i,a<=i/\i<I.length/\x=I.getD i 0:=by
 let⟨i,b,c⟩:=p2.mp e;have d:=b;rw[hH]at d;exact⟨a+i,⋯,⋯,by rw[<-c,pv];simp[List.getD,show a+i<I.length by lia]⟩
variable{q:Nat}
def pT(e:x∈(I.drop a).take q):∃i,i<q/\a+i<I.length/\x=I.getD (a+i) 0:=by
 let⟨i,b,c⟩:=p2.mp e;have d:=b;rw[g_,hH]at d;exact⟨i,by omega,by omega,by rw[<-c,uy,pv];simp[List.getD,show a+i<I.length by omega]⟩
def n7(e:cy G I){a i:Nat}(c:a<=i)(b:i<I.length):G (I.getD a 0)<=G (I.getD i 0):=by
 rcases Nat.lt_or_eq_of_le c with d|rfl
 ·have:=oc.mp e a i ⋯ b d;simpa [List.getD,b,show a<I.length by lia] using this
 ·exact lL _
theorem FA(e:cy G (I++t)):cy G t:=(fp.mp e).2.1
def pN{i:Nat}(e:cy G (b++I.drop a))(c:a<=i)(d:i<=q)(f:q<I.length):G (I.getD i 0)<=G (I.getD q 0):=by
 have:=n7 (FA e) (a:=i-a) (i:=q-a) ⋯ (by rw[hH];lia);simpa [List.getD,mv,show a+(i-a)=i by lia,show a+(q-a)=q by lia] using this
def gL(G:Nat->Int)(af:Array bj)(aB l:List Nat)(out:Array bj):Prop:=(∃b:List Nat,out=(b.map<|ba af).toArray/\b.Perm (aB++l)/\cy G b)
def q4{af:Array bj}(perm:b.Perm (aB.take w++l.take E))(aP:cy G (b++aB.drop w))(cz:cy G (b++l.drop E))(a:E=l.length\/w=aB.length):
  gL G af aB l ((b.map<|ba af).toArray++(aB.map<|ba af).toArray.extract w (aB.map<|ba af).toArray.size++(l.map<|ba af).toArray.extract E (l.map<|ba af).toArray.size):=by
 refine⟨b++aB.drop w++l.drop E,?_,?_,?_⟩
 ·apply kV;simp[kc,zq]
 ·rw[bq];refine (perm.append_right _).trans ?_;have:(aB.take w++l.take E++(aB.drop w++l.drop E)).Perm ((aB.take w++aB.drop w)++(l.take E++l.drop E)):=by
   rw[bq,bq];refine dO _ ?_;rw[<-bq,<-bq];exact eQ _ c8
  rw[fq,fq]at this;exact this
 ·rcases a with c|c
  ·rw[c,zy,b8];exact aP
  ·rw[c,zy,b8];exact cz
def tm{af:Array bj}(perm:b.Perm (aB.take w++l.take E))(aP:cy G (b++aB.drop w))(cz:cy G (b++l.drop E))(d:w+1=aB.length)(ei:∀f∈l,G f<=G (aB.getD (aB.length-1) 0)):
  gL G af aB l ((b.map<|ba af).toArray++(l.map<|ba af).toArray.extract E (l.map<|ba af).toArray.size++(aB.map<|ba af).toArray.extract w (aB.map<|ba af).toArray.size):=by
 refine⟨b++l.drop E++aB.drop w,?_,?_,?_⟩
 ·apply kV;simp[kc,zq]
 ·rw[bq];refine (perm.append_right _).trans ?_;have:(aB.take w++l.take E++(l.drop E++aB.drop w)).Perm ((aB.take w++aB.drop w)++(l.take E++l.drop E)):=by
   rw[bq,bq];refine dO _ ?_;rw[<-bq];exact c8
  rw[fq,fq]at this;exact this
 ·refine fp.mpr ⟨cz,FA aP,λf a x c=>?_⟩;rcases ed.mp a with a|a
  ·exact (fp.mp aP).2.2 f a x c
  ·let⟨@i,y,B,rfl⟩:=kh c;have:i=aB.length-1:=⋯
   rw[this];exact ei f (mU a)
end
section
variable{US:bC}{D:bc}{O:bw}{UH:ab->ai->Prop}{U7:gR}{af:Array bj}{G:Nat->Int}{s:Nat}{m:ai}
def Dj:Array bj->Array bj->StateT bA dw (Array bj):=(sortPriv% PySem.Builtin.mergeLo)
structure dr(j L:bA):Prop where
 k:kindOf L=kindOf j
 a:arrOf L=arrOf j
 p:hM L=hM j
 f:hg L=hg j
def dr.refl(L:bA):dr L L:=⟨rfl,rfl,rfl,rfl⟩
def hJ{z U_:Type}{ay:fH}{t:StateT z dw U_}{A a:U_->z->ai->Prop}{L:z}{UI:ai}(e:kasC ay O UH t a L UI)(F:∀g L UI,a g L UI->A g L UI):kasC ay O UH t A L UI:=
 f7 e (λj UI f=>F j.1 j.2 UI f) λ_ W c=>c
variable{I:List Nat}
def gm{a:Nat}(UN:a<I.length){L:bA}{A:bj->bA->ai->Prop}(e:A (ba af<|I.getD a 0) L m):kasC (aR US D) O UH (elem' (I.map<|ba af).toArray a) A L m:=by
 rw[vG,show ((I.map<|ba af).toArray)[a]?=Z (ba af<|I.getD a 0) by simp[List.getD,UN]];exact bk e
def jh(b:∀f∈I,f<s){a:Nat}(UN:a<I.length):I.getD a 0<s:=by
 rw[cA,dy UN];exact b _ (vl UN)
def l8(I:List Nat)(a:Nat):I.toArray.getD a 0=I.getD a 0:=by simp[Array.getD,List.getD];split<;>simp_all
def zH(c:fC s G (eU US D O U7 af) m){q:Nat}(h:q<s){I:List Nat}(k:∀f∈I,f<s){UY t b:Nat}(l:UY+t<=I.length)(n:b<t)(mono:∀a i,UY<=a->a<=i->i<UY+t->G (I.getD a 0)<=G (I.getD i 0)){L:bA}(o:kindOf L=U7){A:Option Nat->bA->ai->Prop}(e:∀j,j<=t->(∀a,UY<=a->a<UY+j->G (I.getD a 0)<=G q)->(∀a,UY+j<=a->a<UY+t->G q<G (I.getD a 0))->A (Z j) L m):
  kasC (aR US D) O UH (pJ av (ba af q) (I.map<|ba af).toArray UY t b) A L m:=by
 rw[<-HQ];refine Ee c h (λa UN=>by rw[l8];exact jh k ⇑UN) ⇑l n (λa i r u p=>?_) o λj UQ g d=>e j UQ (λa y B=>?_) (λa y B=>?_)
 ·simp only[cO,l8,gs,ft,nL,q7,zC]at p ⊢;have:=mono (UY+a) (UY+i) ⋯ ⋯ ⋯;lia
 ·have:=g (a-UY) ⋯;simp only[cO,l8,gs,ft,nL,q7,zC]at this
  rwa [show UY+(a-UY)=a by lia]at this
 ·have:=d (a-UY) ⋯ ⋯;simp only[cO,l8,gs,ft,Bool.not_eq_false',yy]at this
  rwa [show UY+(a-UY)=a by lia]at this
def AH(c:fC s G (eU US D O U7 af) m){q:Nat}(h:q<s){I:List Nat}(k:∀f∈I,f<s){UY t b:Nat}(l:UY+t<=I.length)(n:b<t)(mono:∀a i,UY<=a->a<=i->i<UY+t->G (I.getD a 0)<=G (I.getD i 0)){L:bA}(o:kindOf L=U7){A:Option Nat->bA->ai->Prop}(e:∀j,j<=t->(∀a,UY<=a->a<UY+j->G (I.getD a 0)<G q)->(∀a,UY+j<=a->a<UY+t->G q<=G (I.getD a 0))->A (Z j) L m):
  kasC (aR US D) O UH (pJ X (ba af q) (I.map<|ba af).toArray UY t b) A L m:=by
 rw[<-HQ];refine Ee c h (λa UN=>by rw[l8];exact jh k ⇑UN) ⇑l n (λa i r u p=>?_) o λj UQ g d=>e j UQ (λa y B=>?_) (λa y B=>?_)
 ·simp only[cO,l8,iY,yy]at p ⊢;have:=mono (UY+a) (UY+i) ⋯ ⋯ ⋯;lia
 ·have:=g (a-UY) ⋯;simp only[cO,l8,iY,yy]at this
  rwa [show UY+(a-UY)=a by lia]at this
 ·have:=d (a-UY) ⋯ ⋯;simp only[cO,l8,iY,q7,zC]at this
  rwa [show UY+(a-UY)=a by lia]at this
def p7(b:List Nat)(x:Nat):(b.map<|ba af).toArray.push (ba af x)=((b++[x]).map<|ba af).toArray:=by simp
def Ih(b I:List Nat)(a q:Nat):(b.map<|ba af).toArray++(I.map<|ba af).toArray.extract a (a+q)=((b++(I.drop a).take q).map<|ba af).toArray:=by
 apply kV;simp[kc,j3,s6]
end
section
variable{US:bC}{D:bc}{O:bw}{UH:ab->ai->Prop}{U7:gR}{af:Array bj}{G:Nat->Int}{s:Nat}{m:ai}
def hG(G:Nat->Int)(af:Array bj)(aB l:List Nat)(out:Array bj)(w E:Nat):Prop:=(∃b:List Nat,out=(b.map<|ba af).toArray/\Pu G aB l b w E)
variable{z U_:Type}
def GD{ay:fH}{O:bw}{UH:ab->ai->Prop}{o:Nat->Prop}{b:∀F,Decidable (o F)}{g UT:Nat->StateT z dw U_}{A:U_->z->ai->Prop}{L:z}{m:ai}(f:Nat->Nat)(a:∀F,g F=UT (f F))(h:∀F,kasC ay O UH (UT F) A L m):∀F,kasC ay O UH (if o F then g F else UT F) A L m:=by
 intro F;rw[a];split
 ·exact h _
 ·exact h _
variable{o:Prop}
def ug{ay:fH}{O:bw}{UH:ab->ai->Prop}{i:Decidable o}{b VP:Array bj->Nat->StateT z dw U_}{A:U_->z->ai->Prop}{L:z}{m:ai}(c d:Array bj->Nat->Prop)(h:∀n a,d n a->kasC ay O UH (VP n a) A L m)(f:¬ o->∀n a,c n a->d n a)(g:(∀n a,d n a->kasC ay O UH (VP n a) A L m)->o->∀n a,c n a->kasC ay O UH (b n a) A L m):∀n a,c n a->kasC ay O UH (if o then b n a else VP n a) A L m:=λn a u=>
 if e:o then by rw[aK e];exact g h e n a u else by rw[aL e];exact h n a (f e n a u)
def Fw{ay:fH}{O:bw}{UH:ab->ai->Prop}{N:bA->bA}{A:PUnit->bA->ai->Prop}{j L:bA}{m:ai}(ar:dr j (N L))(e:∀a,dr j a->A ⟨⟩ a m):kasC ay O UH (modify N:StateT bA dw PUnit) A L m:=kC (e _ ar)
def qT(G:Nat->Int)(af:Array bj)(aB l:List Nat)(L:bA)(m:ai): Option (Array bj)×Array bj×Nat×Nat×Nat->bA->ai->Prop:=(λo b UI=>m=UI/\dr L b/\∃a u p j F,o=(Z a,u,p,j,F)/\gL G af aB l a)
def qW(G:Nat->Int)(af:Array bj)(aB l:List Nat)(L:bA)(m:ai)(f:Nat):Option (Array bj)×Array bj×Nat×Nat×Nat->bA->ai->Prop:=(λo a UI=>m=UI/\dr L a/\∃n w E F,o=(Y,n,w,E,F)/\hG G af aB l n w E/\f+1<=w+E)
def k5(G:Nat->Int)(af:Array bj)(aB l:List Nat)(L:bA)(m:ai)(f:Nat):Option (Array bj)×Array bj×Nat×Nat×Nat×Nat->bA->ai->Prop:=(λo c UI=>m=UI/\dr L c/\((∃b u p j ac a,o=(Z b,u,p,j,ac,a)/\gL G af aB l b)\/∃n w E ac a,o=(Y,n,w,E,ac,a)/\hG G af aB l n w E/\f+2<=w+E))
def o_(G:Nat->Int)(af:Array bj)(aB l:List Nat)(L:bA)(m:ai)(f x:Nat):Option (Array bj)×Array bj×Nat×Nat×Nat×Nat->bA->ai->Prop:=(λo a UI=>m=UI/\dr L a/\∃n w E ac b,o=(Y,n,w,E,ac,b)/\hG G af aB l n w E/\f+1+x<=w+E)
def ji(G:Nat->Int)(af:Array bj)(aB l:List Nat)(L:bA)(m:ai)(f:Nat):Option (Array bj)×Array bj×Nat×Nat×Nat×Nat×Nat->bA->ai->Prop:=(λo c UI=>m=UI/\dr L c/\((∃b u p j F ac a,o=(Z b,u,p,j,F,ac,a)/\gL G af aB l b)\/∃n w E F ac a,o=(Y,n,w,E,F,ac,a)/\hG G af aB l n w E/\f+2<=w+E))
def rG(G:Nat->Int)(af:Array bj)(aB l:List Nat)(L:bA)(m:ai)(f x:Nat):Option (Array bj)×Array bj×Nat×Nat×Nat×Nat×Nat->bA->ai->Prop:=(λo a UI=>m=UI/\dr L a/\∃n w E F ac b,o=(Y,n,w,E,F,ac,b)/\hG G af aB l n w E/\f+2<=w+E)
def qT.a{G:Nat->Int}{af:Array bj}{aB l:List Nat}{L b:bA}{m:ai}{out:Array bj}{u:Array bj}{p j:Nat}{F:Nat}(e:dr L b)(t:gL G af aB l out):qT G af aB l L m (Z out,u,p,j,F) b m:=⟨rfl,e,_,_,_,_,_,rfl,t⟩
def qW.k{G:Nat->Int}{af:Array bj}{aB l:List Nat}{L a:bA}{m:ai}{f:Nat}{n:Array bj}{w E:Nat}{F:Nat}(e:dr L a)(i:hG G af aB l n w E)(c:f+1<=w+E):qW G af aB l L m f (Y,n,w,E,F) a m:=⟨rfl,e,_,_,_,_,rfl,i,c⟩
def k5.a{G:Nat->Int}{af:Array bj}{aB l:List Nat}{L b:bA}{m:ai}{f:Nat}{out:Array bj}{u:Array bj}{p j:Nat}{F c:Nat}(e:dr L b)(t:gL G af aB l out):k5 G af aB l L m f (Z out,u,p,j,F,c) b m:=⟨rfl,e,.inl ⟨_,_,_,_,_,_,rfl,t⟩⟩
def k5.b{G:Nat->Int}{af:Array bj}{aB l:List Nat}{L a:bA}{m:ai}{f:Nat}{n:Array bj}{w E:Nat}{F g:Nat}(e:dr L a)(i:hG G af aB l n w E)(c:f+2<=w+E):k5 G af aB l L m f (Y,n,w,E,F,g) a m:=⟨rfl,e,.inr ⟨_,_,_,_,_,rfl,i,c⟩⟩
def o_.k{G:Nat->Int}{af:Array bj}{aB l:List Nat}{L a:bA}{m:ai}{f x:Nat}{n:Array bj}{w E:Nat}{F b:Nat}(e:dr L a)(i:hG G af aB l n w E)(c:f+1+x<=w+E):o_ G af aB l L m f x (Y,n,w,E,F,b) a m:=⟨rfl,e,_,_,_,_,_,rfl,i,c⟩
def ji.a{G:Nat->Int}{af:Array bj}{aB l:List Nat}{L b:bA}{m:ai}{f:Nat}{out:Array bj}{u:Array bj}{p j:Nat}{F c d:Nat}(e:dr L b)(t:gL G af aB l out):ji G af aB l L m f (Z out,u,p,j,F,c,d) b m:=⟨rfl,e,.inl ⟨_,_,_,_,_,_,_,rfl,t⟩⟩
def ji.b{G:Nat->Int}{af:Array bj}{aB l:List Nat}{L a:bA}{m:ai}{f:Nat}{n:Array bj}{w E:Nat}{F g h:Nat}(e:dr L a)(i:hG G af aB l n w E)(c:f+2<=w+E):ji G af aB l L m f (Y,n,w,E,F,g,h) a m:=⟨rfl,e,.inr ⟨_,_,_,_,_,_,rfl,i,c⟩⟩
def rG.k{G:Nat->Int}{af:Array bj}{aB l:List Nat}{L a:bA}{m:ai}{f x:Nat}{n:Array bj}{w E:Nat}{F b d:Nat}(e:dr L a)(i:hG G af aB l n w E)(c:f+2<=w+E):rG G af aB l L m f x (Y,n,w,E,F,b,d) a m:=⟨rfl,e,_,_,_,_,_,_,rfl,i,c⟩
def Sp{g d:Nat}(e:g=d):(g==d)=X:=by simp[e]
def Rf{g d:Nat}(e:¬ g=d):¬ (g==d)=X:=by simp[e]
def lz{ay:fH}{O:bw}{UH:ab->ai->Prop}{g:Nat}{I:List Nat}{f x:StateT z dw U_}{A:U_->z->ai->Prop}{L:z}{m:ai}(bP:g=I.length->kasC ay O UH f A L m)(a:¬ g=I.length->kasC ay O UH x A L m):kasC ay O UH (if (g==(List.map (ba af) I).toArray.size)=X then f else x) A L m:=by
 rw[show (List.map (ba af) I).toArray.size=I.length by simp];by_cases e:g=I.length
 ·rw[aK (Sp e)];exact bP e
 ·rw[aL (Rf e)];exact a e
def lX{ay:fH}{O:bw}{UH:ab->ai->Prop}{b:Decidable o}{f x:StateT z dw U_}{A:U_->z->ai->Prop}{L:z}{m:ai}(bP:o->kasC ay O UH f A L m)(a:¬ o->kasC ay O UH x A L m):kasC ay O UH (if o then f else x) A L m:=if e:o then by rw[aK e];exact bP e else by rw[aL e];exact a e
def Kq(b:fC s G (eU US D O U7 af) m){q:Nat}(c:q<s){I:List Nat}(h:∀f∈I,f<s){UY:Nat}(n:UY<I.length)(mono:∀a i,UY<=a->a<=i->i<I.length->G (I.getD a 0)<=G (I.getD i 0)){L:bA}(k:kindOf L=U7){A:Option Nat->bA->ai->Prop}(e:∀j,UY+j<=I.length->(∀a,UY<=a->a<UY+j->G (I.getD a 0)<=G q)->(∀a,UY+j<=a->a<I.length->G q<G (I.getD a 0))->A (Z j) L m):
  kasC (aR US D) O UH (pJ av (ba af q) (I.map<|ba af).toArray UY ((I.map<|ba af).toArray.size-UY) 0) A L m:=by
 rw[show (I.map<|ba af).toArray.size=I.length by simp];exact zH b c h ⋯ ⋯ (λa i g d o=>mono a i g d ⋯) k λj y B l=>e j ⋯ B λa g d=>l a g ⋯
def O0(b:fC s G (eU US D O U7 af) m){q:Nat}(c:q<s){I:List Nat}(h:∀f∈I,f<s){UY:Nat}(n:UY<I.length)(mono:∀a i,UY<=a->a<=i->i<I.length->G (I.getD a 0)<=G (I.getD i 0)){L:bA}(k:kindOf L=U7){A:Option Nat->bA->ai->Prop}(e:∀j,UY+j<=I.length->(∀a,UY<=a->a<UY+j->G (I.getD a 0)<G q)->(∀a,UY+j<=a->a<I.length->G q<=G (I.getD a 0))->A (Z j) L m):
  kasC (aR US D) O UH (pJ X (ba af q) (I.map<|ba af).toArray UY ((I.map<|ba af).toArray.size-UY) 0) A L m:=by
 rw[show (I.map<|ba af).toArray.size=I.length by simp];exact AH b c h ⋯ ⋯ (λa i g d o=>mono a i g d ⋯) k λj y B l=>e j ⋯ B λa g d=>l a g ⋯
def Tc(be:fC s G (eU US D O U7 af) m){aB l:List Nat}(bi:∀f∈aB,f<s)(bm:∀f∈l,f<s)(ex:cy G aB)(fd:cy G l)(hf:0<aB.length)(y:0<l.length)(first:∀f∈aB,G (l.getD 0 0)<=G f)(ei:∀f∈l,G f<=G (aB.getD (aB.length-1) 0)){L:bA}(ce:kindOf L=U7){A:Array bj->bA->ai->Prop}(e:∀out B,gL G af aB l out->dr L B->A out B m):
  kasC (aR US D) O UH (Dj (aB.map<|ba af).toArray (l.map<|ba af).toArray) A L m:=by
 have bn:[l.getD 0 0].Perm (aB.take 0++l.take 1):=by
  have:=ka (I:=l) (a:=0) y;simp only[od]at this;rw[this];exact List.Perm.refl _
 have bs:cy G ([l.getD 0 0]++l.drop 1):=by
  have:=ka (I:=l) (a:=0) y;simp only[od]at this;rw[<-this,fq];exact fd
 have bv:cy G ([l.getD 0 0]++aB.drop 0):=fp.mpr ⟨gh _ _,by rw[od];exact ex,λf c x r=>by
  rw[cN.mp c];exact first x (by rwa [od]at r)⟩
 have hm:(List.map (ba af) aB).toArray.size=aB.length:=by simp
 have hw:(List.map (ba af) l).toArray.size=l.length:=by simp
 unfold Dj;with_unfolding_all refine bo (oh<|i_ ?_);refine bo (gm y ?_);refine lz (λch=>bk<|e _ _ (q4 bn bv bs<|.inl ch)<|dr.refl L) λch=>?_;refine lz (λci=>bk<|e _ _ (tm bn bv bs ci ei)<|dr.refl L) λci=>?_;refine bo (j0 ?_);refine bo (hJ (a:=qT G af aB l L m) (fS (gV (qW G af aB l L m) ?step _ 0 _ _ _ ?fin (qW.k (dr.refl L) ⟨_,rfl,bn,bv,bs,⋯,⋯⟩ ⋯))) ?after)
 case after=>
  rintro o B UI ⟨rfl,ar,co,n,w,E,F,rfl,am⟩;exact bk (e _ _ am ar)
 case fin=>
  rintro o B UI ⟨rfl,ar,n,w,E,F,rfl,⟨b,rfl,t⟩,c⟩;have:=t.bX;have:=t.ke;lia
 case step=>
  rintro f o B UI ⟨rfl,ar,n,w,E,F,rfl,H,c⟩;refine bo (hJ (a:=k5 G af aB l L m f)
   (fS (gV (o_ G af aB l L m f) ?fn _ 0 _ _ _ ?fr (o_.k ar H ⋯))) ?f0)
  case fr=>
   rintro o B UI ⟨rfl,ar,n,w,E,ac,S,rfl,H,c⟩;exact k5.b ar H ⋯
  case fn=>
   rintro x o B UI ⟨rfl,ar,n,w,E,ac,S,rfl,⟨b,rfl,t⟩,c⟩;have an:=t.bX;have v:=t.ke;have a2:kindOf B=U7:=ar.k.trans ce;have z:w<aB.length:=⋯
   have c5:G (l.getD E 0)<G (aB.getD w 0)->(b++[l.getD E 0]).Perm (aB.take w++l.take (E+1))/\cy G (b++[l.getD E 0]++aB.drop w)/\cy G (b++[l.getD E 0]++l.drop (E+1)):=λap=>by
    have:=yf 1 t.perm t.aP t.cz (λf c x r=>by
     rw[ka v,cN]at c;let⟨@i,J,T,rfl⟩:=kh r;have:=pN t.aP (bb _) J T;rw[c];lia)
    rwa [ka v]at this
   have dM:¬ G (l.getD E 0)<G (aB.getD w 0)->(b++[aB.getD w 0]).Perm (aB.take (w+1)++l.take E)/\cy G (b++[aB.getD w 0]++aB.drop (w+1))/\cy G (b++[aB.getD w 0]++l.drop E):=λap=>by
    have:=wu 1 t.perm t.aP t.cz (λf c x r=>by
     rw[ka z,cN]at c;let⟨@i,J,T,rfl⟩:=kh r;have:=pN t.cz (bb _) J T;rw[c];lia)
    rwa [ka z]at this
   refine bo (gm v<|bo<|gm z<|bo<|rW be (jh bm v) (jh bi z) a2 ?_);refine lX (λap=>?_) λap=>?_
   ·have d:=c5 ⇑ap;refine bo (gm v (lz (λP=>bk (k5.a ar (by rw[p7];exact q4 d.1 d.2.1 d.2.2 (.inl P)))) λP=>?_));have Q:hG G af aB l ((b.map<|ba af).toArray.push<|ba af<|l.getD E 0) w (E+1):=⟨_,p7 _ _,d.1,d.2.1,d.2.2,an,⋯⟩;exact lX (λ_=>bk (k5.b ar Q ⋯)) λ_=>bk (o_.k ar Q ⋯)
   ·have d:=dM ⇑ap;refine bo (gm z (lz (λP=>bk (k5.a ar (by rw[p7];exact tm d.1 d.2.1 d.2.2 P ei))) λP=>?_));have Q:hG G af aB l ((b.map<|ba af).toArray.push<|ba af<|aB.getD w 0) (w+1) E:=⟨_,p7 _ _,d.1,d.2.1,d.2.2,⋯,v⟩;exact lX (λ_=>bk (k5.b ar Q ⋯)) λ_=>bk (o_.k ar Q ⋯)
  case f0=>
   rintro o B UI ⟨rfl,ar,⟨co,n,w,E,ac,S,rfl,am⟩|⟨n,w,E,ac,S,rfl,H,c⟩⟩
   ·exact bk (qT.a ar am)
   ·refine bo (oh<|i_ ?_);refine bo (hJ (a:=ji G af aB l L m f)
     (fS (gV (rG G af aB l L m f) ?f4 _ 0 _ _ _ ?fin2 (rG.k ar H ⋯))) ?f8)
    case fin2=>
     rintro o B UI ⟨rfl,ar,n,w,E,F,ac,S,rfl,H,c⟩;exact ji.b ar H ⋯
    case f8=>
     rintro o B UI ⟨rfl,ar,⟨co,n,w,E,F,ac,S,rfl,am⟩|⟨n,w,E,F,ac,S,rfl,H,c⟩⟩
     ·exact bk (qT.a ar am)
     ·refine bo (kC ?_);exact bk (qW.k ⟨ar.k,ar.a,ar.p,ar.f⟩ H ⋯)
    case f4=>
     rintro x o B UI ⟨rfl,ar,n,w,E,F,ac,S,rfl,⟨b,cr,t⟩,c⟩;have an:=t.bX;have v:=t.ke;dsimp only;revert F;refine GD (λF=>F-1) ?z ?_
     case z=>exact λF=>rfl
     intro F;refine bo (Fw (j:=L) ⟨ar.k,ar.a,ar.p,ar.f⟩ λh0 R=>?_);have a2:=R.k.trans ce;refine bo (gm v ?_);refine bo (Kq be (jh bm v) bi (show w<aB.length by lia) (λa i g d o=>pN t.aP g d o) a2 ?_);intro q ii ga cs;dsimp only;generalize as:n=Vk;generalize a1:w=a;have UT:Vk=n/\a=w:=⟨as.symm,a1.symm⟩;clear as a1;revert Vk a;refine ug (λVk a=>Vk=n/\a=w) (λVk a=>hG G af aB l Vk a E/\w<=a/\∀i,a<=i->i<aB.length->G (l.getD E 0)<G (aB.getD i 0)) ?UP ?f1 ?ge
     case f1=>
      rintro gl Vk a ⟨rfl,rfl⟩;exact⟨⟨b,cr,t⟩,bb _,λi g d=>cs i ⋯ d⟩
     case ge=>
      rintro h _ Vk a ⟨rfl,rfl⟩;try dsimp only
      have M:=wu q t.perm t.aP t.cz (λf c x r=>by
       let⟨@i,go,J,rfl⟩:=pT c;let⟨@gt,ca,VL,rfl⟩:=kh r;have:=ga (a+i) ⋯ ⋯;have:=pN t.cz (bb _) ca VL;lia)
      rw[cr,Ih];refine lz (λP=>bk<|ji.a R<|tm M.1 M.2.1 M.2.2 P ei) λP=>?_;refine lz (λdb=>bk<|ji.a R<|q4 M.1 M.2.1 M.2.2<|.inr db) λdb=>?_;exact h _ _ ⟨⟨_,rfl,M.1,M.2.1,M.2.2,⋯,v⟩,⋯,λi g d=>cs i g d⟩
     case UP=>
      rintro Vk a ⟨⟨b,rfl,t⟩,le,g1⟩;have an:=t.bX;try dsimp only
      refine bo (gm v ?_);have VI:=yf 1 t.perm t.aP t.cz (λf c x r=>by
       rw[ka v,cN]at c;let⟨@i,J,T,rfl⟩:=kh r;have:=g1 i J T;rw[c];lia)
      rw[ka v]at VI;rw[p7];refine lz (λds=>bk<|ji.a R<|q4 VI.1 VI.2.1 VI.2.2<|.inl ds) λds=>?_;have z:a<aB.length:=⋯
      refine bo (gm z ?_);refine bo (O0 be (jh bi z) bm (show E+1<l.length by lia) (λa i g d o=>pN VI.2.2 g d o) a2 ?_);intro Vt im g2 dL;dsimp only;generalize b++[l.getD E 0]=cd at *;generalize io:E+1=bd at *;generalize as:(List.map (ba af) cd).toArray=Vk;generalize a1:bd=i;have UT:Vk=(List.map (ba af) cd).toArray/\i=bd:=⟨as.symm,a1.symm⟩;clear as a1;revert Vk i;refine ug (λVk i=>Vk=(List.map (ba af) cd).toArray/\i=bd) (λVk i=>hG G af aB l Vk a i/\bd<=i/\∀C,i<=C->C<l.length->G (aB.getD a 0)<=G (l.getD C 0)) ?U6 ?f2 ?g3
      case f2=>
       rintro gl Vk i ⟨rfl,rfl⟩;exact⟨⟨_,rfl,VI.1,VI.2.1,VI.2.2,an,⋯⟩,bb _,λC g d=>dL C ⋯ d⟩
      case g3=>
       rintro h _ Vk i ⟨rfl,rfl⟩;try dsimp only
       have al:=yf Vt VI.1 VI.2.1 VI.2.2 (λf c x r=>by
        let⟨@C,go,J,rfl⟩:=pT c;let⟨@gt,ca,VL,rfl⟩:=kh r;have:=g2 (i+C) ⋯ ⋯;have:=pN VI.2.1 (bb _) ca VL;lia)
       rw[Ih];refine lz (λeq=>bk<|ji.a R<|q4 al.1 al.2.1 al.2.2<|.inl eq) λeq=>?_;exact h _ _ ⟨⟨_,rfl,al.1,al.2.1,al.2.2,an,⋯⟩,⋯,λC g d=>dL C g d⟩
      case U6=>
       rintro Vk i ⟨⟨b,rfl,t⟩,it,hd⟩;have he:=t.ke;try dsimp only
       refine bo (gm z ?_);have U:=wu 1 t.perm t.aP t.cz (λf c x r=>by
        rw[ka z,cN]at c;let⟨@C,J,T,rfl⟩:=kh r;rw[c];exact hd C J T)
       rw[ka z]at U;rw[p7];refine lz (λev=>bk<|ji.a R<|tm U.1 U.2.1 U.2.2 ev ei) λev=>?_;have Q:hG G af aB l ((b++[aB.getD a 0]).map<|ba af).toArray (a+1) i:=⟨_,rfl,U.1,U.2.1,U.2.2,⋯,he⟩;exact lX (λ_=>bk (ji.b R Q ⋯)) λ_=>bk (rG.k R Q ⋯)
end
section
variable{US:bC}{D:bc}{O:bw}{UH:ab->ai->Prop}{U7:gR}{af:Array bj}{G:Nat->Int}{s:Nat}{m:ai}
def Bx:Array bj->Array bj->StateT bA dw (Array bj):=(sortPriv% PySem.Builtin.mergeHi)
variable{I:List Nat}{a i:Nat}
def w5(b:a<=i)(d:i<=I.length):I.drop a=(I.take i).drop a++I.drop i:=by
 have c:I.drop a=(I.take i++I.drop i).drop a:=by rw[fq]
 rw[c,List.drop_append_of_le_length (by rw[g_];lia)]
def PW(b:a<=i):I.take a++(I.take i).drop a=I.take i:=by
 have:=fq a (I.take i)
 rwa [uI,vn b]at this
variable{aB l k:List Nat}{v z:Nat}
def tw(q:Nat)(d:q<=v)(h:v<=aB.length)(perm:k.Perm (aB.drop v++l.drop z))(aP:cy G (aB.take v++k))(cz:cy G (l.take z++k))(e:∀f∈(aB.take v).drop q,∀x∈l.take z,G x<=G f):
  ((aB.take v).drop q++k).Perm (aB.drop q++l.drop z)/\cy G (aB.take q++((aB.take v).drop q++k))/\cy G (l.take z++((aB.take v).drop q++k)):=by
 refine⟨?_,?_,?_⟩
 ·rw[w5 d h,bq];exact dO _ perm
 ·rw[<-bq,PW d];exact aP
 ·have g:=fp.mp aP;have c:=fp.mp cz;refine fp.mpr ⟨c.1,fp.mpr ⟨g.1.sublist<|wH _ _,c.2.1,λf b x a=>g.2.2 f (mU b) x a⟩,λf b x a=>?_⟩;rcases ed.mp a with a|a
  ·exact e x a f b
  ·exact c.2.2 f b x a
def ym(q:Nat)(a:q<=z)(b:z<=l.length)(perm:k.Perm (aB.drop v++l.drop z))(aP:cy G (aB.take v++k))(cz:cy G (l.take z++k))(e:∀f∈(l.take z).drop q,∀x∈aB.take v,G x<=G f):
  ((l.take z).drop q++k).Perm (aB.drop v++l.drop q)/\cy G (aB.take v++((l.take z).drop q++k))/\cy G (l.take q++((l.take z).drop q++k)):=by
 have:=tw (aB:=l) (l:=aB) q a b (perm.trans c8) cz aP e;exact⟨this.1.trans c8,this.2.2,this.2.1⟩
def jk(b:0<a)(e:a<=I.length):(I.take a).drop (a-1)=[I.getD (a-1) 0]:=by
 rw[s6,show a-(a-1)=1 by lia];exact ka ⋯
variable{x:Nat}
def lb(e:x∈I.take a):∃i,i<a/\i<I.length/\x=I.getD i 0:=by
 have:=pT (a:=0) (q:=a) (x:=x) (I:=I) (by rwa [od]);let⟨@i,g,d,c⟩:=this;exact⟨i,g,⋯,by rw[c];congr 1;lia⟩
variable{q:Nat}
def Hw(e:x∈(I.take q).drop a):∃i,a<=i/\i<q/\i<I.length/\x=I.getD i 0:=by
 rw[s6]at e;let⟨@i,g,d,c⟩:=pT e;exact⟨a+i,⋯,⋯,d,c⟩
def qy(e:cy G (I.take a++k))(b:i<=q)(c:q<a)(d:q<I.length):G (I.getD i 0)<=G (I.getD q 0):=by
 have:=n7 (fp.mp e).1 (a:=i) (i:=q) b (by rw[g_];lia);simpa [List.getD,om,show i<a by lia,c] using this
def ri(perm:k.Perm (aB.drop v++l.drop z))(aP:cy G (aB.take v++k))(cz:cy G (l.take z++k))(a:v=0\/z=0):
  gL G af aB l ((aB.map<|ba af).toArray.extract 0 v++(l.map<|ba af).toArray.extract 0 z++(k.reverse.map<|ba af).toArray.reverse):=by
 refine⟨aB.take v++l.take z++k,?_,?_,?_⟩
 ·apply kV;simp[j3]
 ·refine (dO _ perm).trans ?_;have:(aB.take v++l.take z++(aB.drop v++l.drop z)).Perm ((aB.take v++aB.drop v)++(l.take z++l.drop z)):=by
   rw[bq,bq];refine dO _ ?_;rw[<-bq,<-bq];exact eQ _ c8
  rw[fq,fq]at this;exact this
 ·rcases a with c|c
  ·rw[c,zI,lQ];exact cz
  ·rw[c,zI,b8];exact aP
def tF(perm:k.Perm (aB.drop v++l.drop z))(aP:cy G (aB.take v++k))(cz:cy G (l.take z++k))(c:z=1)(first:∀f∈aB,G (l.getD 0 0)<=G f):
  gL G af aB l ((l.map<|ba af).toArray.extract 0 z++(aB.map<|ba af).toArray.extract 0 v++(k.reverse.map<|ba af).toArray.reverse):=by
 refine⟨l.take z++aB.take v++k,?_,?_,?_⟩
 ·apply kV;simp[j3]
 ·refine (dO _ perm).trans ?_;have:(l.take z++aB.take v++(aB.drop v++l.drop z)).Perm ((aB.take v++aB.drop v)++(l.take z++l.drop z)):=by
   rw[bq,<-bq (aB.take v),<-bq (aB.take v++aB.drop v)];rw[<-bq (l.take z)];exact eQ _ c8
  rw[fq,fq]at this;exact this
 ·rw[bq];refine fp.mpr ⟨(fp.mp cz).1,aP,λf b x a=>?_⟩;rcases ed.mp a with a|a
  ·let⟨@i,y,B,rfl⟩:=lb b;have:i=0:=⋯
   rw[this];exact first x (n0 a)
  ·exact (fp.mp cz).2.2 f b x a
def p5(k:List Nat)(x:Nat):(k.reverse.map<|ba af).toArray.push (ba af x)=(([x]++k).reverse.map<|ba af).toArray:=by simp
def Jk(k I:List Nat)(a q:Nat):(k.reverse.map<|ba af).toArray++((I.map<|ba af).toArray.extract a q).reverse=(((I.take q).drop a++k).reverse.map<|ba af).toArray:=by
 apply kV;simp[kc,j3,s6]
structure Kh(G:Nat->Int)(aB l:List Nat)(k:List Nat)(v z:Nat):Prop where
 perm:k.Perm (aB.drop v++l.drop z)
 aP:cy G (aB.take v++k)
 cz:cy G (l.take z++k)
 bX:0<v
 ke:1<z
 AJ:v<=aB.length
 y2:z<=l.length
def hU(G:Nat->Int)(af:Array bj)(aB l:List Nat)(out:Array bj)(v z:Nat):Prop:=(∃k:List Nat,out=(k.reverse.map<|ba af).toArray/\Kh G aB l k v z)
end
section
variable{US:bC}{D:bc}{O:bw}{UH:ab->ai->Prop}{U7:gR}{af:Array bj}{G:Nat->Int}{s:Nat}{m:ai}
def s8(G:Nat->Int)(af:Array bj)(aB l:List Nat)(L:bA)(m:ai): Option (Array bj)×Nat×Nat×Array bj×Nat->bA->ai->Prop:=(λo b UI=>m=UI/\dr L b/\∃a u p j F,o=(Z a,u,p,j,F)/\gL G af aB l a)
def r7(G:Nat->Int)(af:Array bj)(aB l:List Nat)(L:bA)(m:ai)(f:Nat):Option (Array bj)×Nat×Nat×Array bj×Nat->bA->ai->Prop:=(λo a UI=>m=UI/\dr L a/\∃v z n F,o=(Y,v,z,n,F)/\hU G af aB l n v z/\v+z+f+1<=aB.length+l.length)
def kL(G:Nat->Int)(af:Array bj)(aB l:List Nat)(L:bA)(m:ai)(f:Nat):Option (Array bj)×Nat×Nat×Array bj×Nat×Nat->bA->ai->Prop:=(λo c UI=>m=UI/\dr L c/\((∃b u p j ac a,o=(Z b,u,p,j,ac,a)/\gL G af aB l b)\/∃v z n ac a,o=(Y,v,z,n,ac,a)/\hU G af aB l n v z/\v+z+f+2<=aB.length+l.length))
def p0(G:Nat->Int)(af:Array bj)(aB l:List Nat)(L:bA)(m:ai)(f x:Nat):Option (Array bj)×Nat×Nat×Array bj×Nat×Nat->bA->ai->Prop:=(λo a UI=>m=UI/\dr L a/\∃v z n ac b,o=(Y,v,z,n,ac,b)/\hU G af aB l n v z/\v+z+f+1+x<=aB.length+l.length)
def jw(G:Nat->Int)(af:Array bj)(aB l:List Nat)(L:bA)(m:ai)(f:Nat):Option (Array bj)×Nat×Nat×Array bj×Nat×Nat×Nat->bA->ai->Prop:=(λo c UI=>m=UI/\dr L c/\((∃b u p j F ac a,o=(Z b,u,p,j,F,ac,a)/\gL G af aB l b)\/∃v z n F ac a,o=(Y,v,z,n,F,ac,a)/\hU G af aB l n v z/\v+z+f+2<=aB.length+l.length))
def rA(G:Nat->Int)(af:Array bj)(aB l:List Nat)(L:bA)(m:ai)(f x:Nat):Option (Array bj)×Nat×Nat×Array bj×Nat×Nat×Nat->bA->ai->Prop:=(λo a UI=>m=UI/\dr L a/\∃v z n F ac b,o=(Y,v,z,n,F,ac,b)/\hU G af aB l n v z/\v+z+f+2<=aB.length+l.length)
def s8.a{G:Nat->Int}{af:Array bj}{aB l:List Nat}{L b:bA}{m:ai}{out:Array bj}{u p:Nat}{j:Array bj}{F:Nat}(e:dr L b)(t:gL G af aB l out):s8 G af aB l L m (Z out,u,p,j,F) b m:=⟨rfl,e,_,_,_,_,_,rfl,t⟩
def r7.k{G:Nat->Int}{af:Array bj}{aB l:List Nat}{L a:bA}{m:ai}{f:Nat}{v z:Nat}{n:Array bj}{F:Nat}(e:dr L a)(i:hU G af aB l n v z)(c:v+z+f+1<=aB.length+l.length):r7 G af aB l L m f (Y,v,z,n,F) a m:=⟨rfl,e,_,_,_,_,rfl,i,c⟩
def kL.a{G:Nat->Int}{af:Array bj}{aB l:List Nat}{L b:bA}{m:ai}{f:Nat}{out:Array bj}{u p:Nat}{j:Array bj}{F c:Nat}(e:dr L b)(t:gL G af aB l out):kL G af aB l L m f (Z out,u,p,j,F,c) b m:=⟨rfl,e,.inl ⟨_,_,_,_,_,_,rfl,t⟩⟩
def kL.b{G:Nat->Int}{af:Array bj}{aB l:List Nat}{L a:bA}{m:ai}{f:Nat}{v z:Nat}{n:Array bj}{F g:Nat}(e:dr L a)(i:hU G af aB l n v z)(c:v+z+f+2<=aB.length+l.length):kL G af aB l L m f (Y,v,z,n,F,g) a m:=⟨rfl,e,.inr ⟨_,_,_,_,_,rfl,i,c⟩⟩
def p0.k{G:Nat->Int}{af:Array bj}{aB l:List Nat}{L a:bA}{m:ai}{f x:Nat}{v z:Nat}{n:Array bj}{F b:Nat}(e:dr L a)(i:hU G af aB l n v z)(c:v+z+f+1+x<=aB.length+l.length):p0 G af aB l L m f x (Y,v,z,n,F,b) a m:=⟨rfl,e,_,_,_,_,_,rfl,i,c⟩
def jw.a{G:Nat->Int}{af:Array bj}{aB l:List Nat}{L b:bA}{m:ai}{f:Nat}{out:Array bj}{u p:Nat}{j:Array bj}{F c d:Nat}(e:dr L b)(t:gL G af aB l out):jw G af aB l L m f (Z out,u,p,j,F,c,d) b m:=⟨rfl,e,.inl ⟨_,_,_,_,_,_,_,rfl,t⟩⟩
def jw.b{G:Nat->Int}{af:Array bj}{aB l:List Nat}{L a:bA}{m:ai}{f:Nat}{v z:Nat}{n:Array bj}{F g h:Nat}(e:dr L a)(i:hU G af aB l n v z)(c:v+z+f+2<=aB.length+l.length):jw G af aB l L m f (Y,v,z,n,F,g,h) a m:=⟨rfl,e,.inr ⟨_,_,_,_,_,_,rfl,i,c⟩⟩
def rA.k{G:Nat->Int}{af:Array bj}{aB l:List Nat}{L a:bA}{m:ai}{f x:Nat}{v z:Nat}{n:Array bj}{F b d:Nat}(e:dr L a)(i:hU G af aB l n v z)(c:v+z+f+2<=aB.length+l.length):rA G af aB l L m f x (Y,v,z,n,F,b,d) a m:=⟨rfl,e,_,_,_,_,_,_,rfl,i,c⟩
def mg{ay:fH}{O:bw}{UH:ab->ai->Prop}{z U_:Type}{g d:Nat}{f x:StateT z dw U_}{A:U_->z->ai->Prop}{L:z}{m:ai}(bP:g=d->kasC ay O UH f A L m)(a:¬ g=d->kasC ay O UH x A L m):kasC ay O UH (if (g==d)=X then f else x) A L m:=lX (λe=>bP ⇑e) λe=>a ⇑e
def KJ(bv:fC s G (eU US D O U7 af) m){aB l:List Nat}(ca:∀f∈aB,f<s)(cd:∀f∈l,f<s)(ga:cy G aB)(ge:cy G l)(gl:0<aB.length)(y:0<l.length)(first:∀f∈aB,G (l.getD 0 0)<=G f)(ei:∀f∈l,G f<=G (aB.getD (aB.length-1) 0)){L:bA}(dL:kindOf L=U7){A:Array bj->bA->ai->Prop}(e:∀out B,gL G af aB l out->dr L B->A out B m):
  kasC (aR US D) O UH (Bx (aB.map<|ba af).toArray (l.map<|ba af).toArray) A L m:=by
 have bm:(List.map (ba af) aB).toArray.size=aB.length:=by simp
 have bn:(List.map (ba af) l).toArray.size=l.length:=by simp
 have ce:=jk gl (bb _);rw[tp]at ce;have ch:[aB.getD (aB.length-1) 0].Perm (aB.drop (aB.length-1)++l.drop l.length):=by
  rw[ce,zy];exact List.Perm.refl _
 have ci:cy G (aB.take (aB.length-1)++[aB.getD (aB.length-1) 0]):=by
  rw[<-ce,fq];exact ga
 have cl:cy G (l.take l.length++[aB.getD (aB.length-1) 0]):=fp.mpr ⟨by rw[tp];exact ge,gh _ _,λf c x r=>by
  rw[cN.mp r];exact ei f (by rwa [tp]at c)⟩
 unfold Bx;with_unfolding_all refine bo (oh<|i_ ?_);refine bo (gm (show (List.map (ba af) aB).toArray.size-1<aB.length by lia) ?_);refine mg (λco=>bk (e _ _ (by rw[bm]at co;rw[bm,bn];exact ri ch ci cl (.inl co))<|dr.refl L)) λco=>?_;refine mg (λcr=>bk (e _ _ (by rw[bn]at cr;rw[bm,bn];exact tF ch ci cl cr first)<|dr.refl L)) λcr=>?_;refine bo (j0 ?_);refine bo (hJ (a:=s8 G af aB l L m) (fS (gV (r7 G af aB l L m) ?step _ 0 _ _ _ ?fin (r7.k (dr.refl L) (by rw[bm,bn];exact⟨_,rfl,ch,ci,cl,⋯,⋯,⋯,⋯⟩) ⋯))) ?after)
 case after=>
  rintro o B UI ⟨rfl,ar,ev,n,w,E,F,rfl,as⟩;exact bk (e _ _ as ar)
 case fin=>
  rintro o B UI ⟨rfl,ar,v,z,n,F,rfl,⟨b,rfl,t⟩,c⟩;have:=t.bX;have:=t.ke;lia
 case step=>
  rintro f o B UI ⟨rfl,ar,v,z,n,F,rfl,I,c⟩;refine bo (hJ (a:=kL G af aB l L m f)
   (fS (gV (p0 G af aB l L m f) ?go _ 0 _ _ _ ?gt (p0.k ar I ⋯))) ?g1)
  case gt=>
   rintro o B UI ⟨rfl,ar,v,z,n,ac,U,rfl,I,c⟩;exact kL.b ar I ⋯
  case go=>
   rintro x o B UI ⟨rfl,ar,v,z,n,ac,U,rfl,⟨b,rfl,t⟩,c⟩;have J:=t.bX;have cs:=t.ke;have H:=t.AJ;have M:=t.y2;have bs:kindOf B=U7:=ar.k.trans dL;have P:v-1<aB.length:=⋯
   have al:z-1<l.length:=⋯
   have c5:G (l.getD (z-1) 0)<G (aB.getD (v-1) 0)->_:=λa1=>by
    have:=tw (v-1) ⋯ H t.perm t.aP t.cz (λf c x r=>by
     rw[jk J H,cN]at c;let⟨@i,am,a2,rfl⟩:=lb r;have:=qy t.cz (show i<=z-1 by lia) ⋯ ⋯;rw[c];lia)
    rw[jk J H]at this;exact this
   have dM:¬ G (l.getD (z-1) 0)<G (aB.getD (v-1) 0)->_:=λa1=>by
    have:=ym (z-1) ⋯ M t.perm t.aP t.cz (λf c x r=>by
     rw[jk ⋯ M,cN]at c;let⟨@i,am,a2,rfl⟩:=lb r;have:=qy t.aP (show i<=v-1 by lia) ⋯ ⋯;rw[c];lia)
    rw[jk ⋯ M]at this;exact this
   refine bo (gm al<|bo<|gm P<|bo<|rW bv (jh cd al) (jh ca P) bs ?_);refine lX (λa1=>?_) λa1=>?_
   ·have d:=c5 ⇑a1;refine bo (gm P (mg (λR=>bk (kL.a ar (by rw[p5];exact ri d.1 d.2.1 d.2.2 (.inl R)))) λR=>?_));have S:hU G af aB l ((b.reverse.map<|ba af).toArray.push<|ba af<|aB.getD (v-1) 0) (v-1) z:=⟨_,p5 _ _,d.1,d.2.1,d.2.2,⋯,cs,⋯,M⟩;exact lX (λ_=>bk (kL.b ar S ⋯)) λ_=>bk (p0.k ar S ⋯)
   ·have d:=dM ⇑a1;refine bo (gm al (mg (λR=>bk (kL.a ar (by rw[p5];exact tF d.1 d.2.1 d.2.2 R first))) λR=>?_));have S:hU G af aB l ((b.reverse.map<|ba af).toArray.push<|ba af<|l.getD (z-1) 0) v (z-1):=⟨_,p5 _ _,d.1,d.2.1,d.2.2,J,⋯,H,⋯⟩;exact lX (λ_=>bk (kL.b ar S ⋯)) λ_=>bk (p0.k ar S ⋯)
  case g1=>
   rintro o B UI ⟨rfl,ar,⟨ev,n,w,E,ac,U,rfl,as⟩|⟨v,z,n,ac,U,rfl,I,c⟩⟩
   ·exact bk (s8.a ar as)
   ·refine bo (oh<|i_ ?_);refine bo (hJ (a:=jw G af aB l L m f)
     (fS (gV (rA G af aB l L m f) ?g2 _ 0 _ _ _ ?fin2 (rA.k ar I ⋯))) ?g3)
    case fin2=>
     rintro o B UI ⟨rfl,ar,v,z,n,F,ac,U,rfl,I,c⟩;exact jw.b ar I ⋯
    case g3=>
     rintro o B UI ⟨rfl,ar,⟨ev,n,w,E,F,ac,U,rfl,as⟩|⟨v,z,n,F,ac,U,rfl,I,c⟩⟩
     ·exact bk (s8.a ar as)
     ·refine bo (kC ?_);exact bk (r7.k ⟨ar.k,ar.a,ar.p,ar.f⟩ I ⋯)
    case g2=>
     rintro x o B UI ⟨rfl,ar,v,z,n,F,ac,U,rfl,⟨b,ex,t⟩,c⟩;have J:=t.bX;have cs:=t.ke;have H:=t.AJ;have M:=t.y2;have al:z-1<l.length:=⋯
     dsimp only;revert F;refine GD (λF=>F-1) ?P ?_
     case P=>exact λF=>rfl
     intro F;refine bo (Fw (j:=L) ⟨ar.k,ar.a,ar.p,ar.f⟩ λjp T=>?_);have bs:=T.k.trans dL;refine bo (gm al ?_);refine bo (zH bv (jh cd al) ca (UY:=0) (t:=v) (b:=v-1) ⋯ ⋯ (λa i g d o=>qy t.aP d ⋯ ⋯) bs ?_);intro q kt fd he;dsimp only;generalize kw:v-q=lc;generalize bd:n=Vk;generalize be:v=a;have UT:Vk=n/\a=v:=⟨bd.symm,be.symm⟩;clear bd be;revert Vk a;refine ug (λVk a=>Vk=n/\a=v) (λVk a=>hU G af aB l Vk a z/\a<=v/\∀i,i<a->G (aB.getD i 0)<=G (l.getD (z-1) 0)) ?UP ?f1 ?hf
     case f1=>
      rintro hm Vk a ⟨rfl,rfl⟩;exact⟨⟨b,ex,t⟩,bb _,λi g=>fd i ⋯ ⋯⟩
     case hf=>
      rintro h _ Vk a ⟨rfl,rfl⟩;try dsimp only
      have ap:=tw q ⋯ H t.perm t.aP t.cz (λf c x r=>by
       let⟨@i,hw,am,a2,rfl⟩:=Hw c;let⟨@db,h0,VL,rfl⟩:=lb r;have:=he i ⋯ ⋯;have:=qy t.cz (show db<=z-1 by lia) ⋯ ⋯;lia)
      rw[ex,Jk];refine mg (λR=>bk<|jw.a T<|ri ap.1 ap.2.1 ap.2.2<|.inl R) λR=>?_;exact h _ _ ⟨⟨_,rfl,ap.1,ap.2.1,ap.2.2,⋯,cs,⋯,M⟩,⋯,λi g=>fd i ⋯ ⋯⟩
     case UP=>
      rintro Vk a ⟨⟨b,rfl,t⟩,le,ii⟩;have J:=t.bX;have H:=t.AJ;have P:a-1<aB.length:=⋯
      try dsimp only
      refine bo (gm al ?_);have VI:=ym (z-1) ⋯ M t.perm t.aP t.cz (λf c x r=>by
       rw[jk ⋯ M,cN]at c;let⟨@i,am,a2,rfl⟩:=lb r;rw[c];exact ii i am)
      rw[jk ⋯ M]at VI;rw[p5];refine mg (λfn=>bk<|jw.a T<|tF VI.1 VI.2.1 VI.2.2 fn first) λfn=>?_;refine bo (gm P ?_);refine bo (AH bv (jh ca P) cd (UY:=0) (t:=z-1) (b:=z-1-1) ⋯ ⋯ (λa i g d o=>qy VI.2.2 d ⋯ ⋯) bs ?_);intro Vt lf fr im;dsimp only;generalize [l.getD (z-1) 0]++b=ds at *;generalize li:z-1=bi at *;generalize lm:bi-Vt=fg;generalize bd:(List.map (ba af) ds.reverse).toArray=Vk;generalize be:bi=i;have UT:Vk=(List.map (ba af) ds.reverse).toArray/\i=bi:=⟨bd.symm,be.symm⟩;clear bd be;revert Vk i;refine ug (λVk i=>Vk=(List.map (ba af) ds.reverse).toArray/\i=bi) (λVk i=>hU G af aB l Vk a i/\i<=bi/\∀C,C<i->G (l.getD C 0)<G (aB.getD (a-1) 0)) ?U6 ?f2 ?io
      case f2=>
       rintro hm Vk i ⟨rfl,rfl⟩;exact⟨⟨_,rfl,VI.1,VI.2.1,VI.2.2,J,⋯,H,⋯⟩,bb _,λC g=>fr C ⋯ ⋯⟩
      case io=>
       rintro h _ Vk i ⟨rfl,rfl⟩;try dsimp only
       have Q:=ym Vt ⋯ (show i<=l.length by lia) VI.1 VI.2.1 VI.2.2 (λf c x r=>by
        let⟨@C,hw,am,a2,rfl⟩:=Hw c;let⟨@db,h0,VL,rfl⟩:=lb r;have:=im C ⋯ ⋯;have:=qy VI.2.1 (show db<=a-1 by lia) ⋯ ⋯;lia)
       rw[Jk];refine mg (λf0=>bk<|jw.a T<|tF Q.1 Q.2.1 Q.2.2 f0 first) λf0=>?_;refine mg (λf4=>bk<|jw.a T<|ri Q.1 Q.2.1 Q.2.2<|.inr f4) λf4=>?_;exact h _ _ ⟨⟨_,rfl,Q.1,Q.2.1,Q.2.2,J,⋯,H,⋯⟩,⋯,λC g=>fr C ⋯ ⋯⟩
      case U6=>
       rintro Vk i ⟨⟨b,rfl,t⟩,ln,it⟩;try dsimp only
       refine bo (gm P ?_);have an:=tw (a-1) ⋯ H t.perm t.aP t.cz (λf c x r=>by
        rw[jk J H,cN]at c;let⟨@C,am,a2,rfl⟩:=lb r;have:=it C am;rw[c];lia)
       rw[jk J H]at an;rw[p5];refine mg (λf8=>bk<|jw.a T<|ri an.1 an.2.1 an.2.2<|.inl f8) λf8=>?_;have S:hU G af aB l (([aB.getD (a-1) 0]++b).reverse.map<|ba af).toArray (a-1) i:=⟨_,rfl,an.1,an.2.1,an.2.2,⋯,t.ke,⋯,t.y2⟩;exact lX (λ_=>bk (jw.b T S ⋯)) λ_=>bk (rA.k T S ⋯)
def Lj{z:Type}{ay:fH}{A:PUnit->z->ai->Prop}{L a:z}{m:ai}(e:A ⟨⟩ a m):kasC ay O UH (set a:StateT z dw PUnit) A L m:=by
 unfold kasC;rw[StateT.run_set];exact aQ e
theorem xQ{U_:Type}:∀(I:List U_) (b:List U_) (p d u:Nat),p+I.length<=b.length->p=u+d->((I.zipIdx d).foldl (λ(g:Array U_) (f:U_×Nat)=>g.setIfInBounds (u+f.2) f.1) b.toArray)=(b.take p++I++b.drop (p+I.length)).toArray
 |[],b,p,d,u,e,c=>by simp
 |f::I,b,p,d,u,e,c=>by
  rw[dz]at e;rw[xk,lg];dsimp only;rw[<-c,IB,xQ I (b.set p f) (p+1) (d+1) u (by rw[u9];lia) ⋯];congr 1;have h:(b.set p f).take (p+1)=b.take p++[f]:=by
   apply qE;intro a;rw[om,List.getElem?_append,g_,om,EW];by_cases y:a<p
   ·rw[aK ⋯,aL ⋯,aK ⋯,aK y]
   ·by_cases B:a=p
    ·subst B;rw[aK ⋯,aK rfl,aK ⋯,aL ⋯];simp[show a-min a b.length=0 by lia]
    ·rw[aL ⋯,aL ⋯];rw[sM];rw[jj];lia
  have i:(b.set p f).drop (p+1+I.length)=b.drop (p+(I.length+1)):=by
   apply qE;intro a;rw[mv,mv,EW,aL ⋯];congr 1;lia
  rw[h,i,dz,bq,bq,bq];rfl
def IG{c d b:List Nat}{q t:Nat}(n:cy G c)(o:cy G d)(s:0<d.length)(u:0<c.length)(y:∀f∈c.take q,G f<=G (d.getD 0 0))(p:∀f∈d.drop t,G (c.getD (c.length-1) 0)<=G f)(k:b.Perm (c.drop q++d.take t))(VX:cy G b):cy G (c.take q++b++d.drop t)/\(c.take q++b++d.drop t).Perm (c++d):=by
 have l:∀x∈d,G (d.getD 0 0)<=G x:=λx g=>by
  let⟨@i,W,m,rfl⟩:=kh (a:=0) (I:=d) (by rwa [od]);exact n7 o (gk _) m
 have r:∀f∈c,G f<=G (c.getD (c.length-1) 0):=λf e=>by
  let⟨@i,W,m,rfl⟩:=kh (a:=0) (I:=c) (by rwa [od]);exact n7 n (by omega) (by omega)
 have h:cy G (c.take q++c.drop q):=by rwa [fq]
 have j:cy G (d.take t++d.drop t):=by rwa [fq]
 have h:=fp.mp h;have j:=fp.mp j;refine⟨fp.mpr ⟨fp.mpr ⟨h.1,VX,λf e x g=>?_⟩,j.2.1,λf e x g=>?_⟩,?_⟩
 ·rcases ed.mp (k.mem_iff.mp g) with g|g
  ·exact h.2.2 f e x g
  ·exact zF (y f e) (l x<|n0 g)
 ·rcases ed.mp e with e|e
  ·exact zF (y f e) (l x<|mU g)
  ·rcases ed.mp (k.mem_iff.mp e) with e|e
   ·exact zF (r f<|mU e) (p x g)
   ·exact j.2.2 f e x g
 ·refine (eQ _<|dO _ k).trans ?_;rw[<-bq,fq,bq,fq]
def R2(T:fC s G (eU US D O U7 af) m){h:List Nat}(H:∀f∈h,f<s){a aP v z bs f0:Nat}{L:bA}(C:PyProof.Rows.kindOf L=U7)(f1:arrOf L=(h.map<|ba af).toArray)(U:hg L=Y)(UN:(hM L)[a]?=Z (aP,v,bs))(P:(hM L)[a+1]?=Z (aP+v,z,f0))(f2:0<v)(bv:0<z)(g1:aP+v+z<=h.length)(E:cy G ((h.drop aP).take v))(F:cy G ((h.drop<|aP+v).take z)){A:Bool->bA->ai->Prop}(e:∀mid r,PyProof.Rows.kindOf r=U7->hg r=Y->hM r=((hM L).setIfInBounds a (aP,v+z,bs)).eraseIdxIfInBounds (a+1)->mid.Perm ((h.drop aP).take<|v+z)->cy G mid->
   arrOf r=((h.take aP++mid++h.drop (aP+(v+z))).map<|ba af).toArray->A X r m):
  kasC (aR US D) O UH (vP a) A L m:=by
 have ca:((h.drop aP).take v).length=v:=by rw[g_,hH];lia
 have f4:((h.drop<|aP+v).take z).length=z:=by rw[g_,hH];lia
 have J:∀i,i<v->((h.drop aP).take v).getD i 0=h.getD (aP+i) 0:=λi P=>by simp[List.getD,om,mv,P]
 have M:∀i,i<z->((h.drop<|aP+v).take z).getD i 0=h.getD (aP+v+i) 0:=λi P=>by simp[List.getD,om,mv,P]
 have al:(h.drop aP).take v++(h.drop<|aP+v).take z=(h.drop aP).take (v+z):=by rw[<-ob,px]
 have cd:h.take aP++(h.drop aP).take (v+z)++h.drop (aP+(v+z))=h:=by rw[px,fq]
 have ce:∀a i,aP<=a->a<=i->i<aP+v->G (h.getD a 0)<=G (h.getD i 0):=λa i g d o=>by
  have:=n7 E (a:=a-aP) (i:=i-aP) ⋯ ⋯
  rwa [J _ ⋯,J _ ⋯,show aP+(a-aP)=a by lia,show aP+(i-aP)=i by lia]at this
 have ch:∀a i,aP+v<=a->a<=i->i<aP+v+z->G (h.getD a 0)<=G (h.getD i 0):=λa i g d o=>by
  have:=n7 F (a:=a-(aP+v)) (i:=i-(aP+v)) ⋯ ⋯
  rwa [M _ ⋯,M _ ⋯,show aP+v+(a-(aP+v))=a by lia,show aP+v+(i-(aP+v))=i by lia]at this
 have l:∀f∈(h.drop aP).take v,∃i,aP<=i/\i<aP+v/\f=h.getD i 0:=λf n=>by
  let⟨@i,Q,w,rfl⟩:=pT n;exact⟨aP+i,⋯,⋯,rfl⟩
 have ci:∀f∈(h.drop<|aP+v).take z,∃i,aP+v<=i/\i<aP+v+z/\f=h.getD i 0:=λf n=>by
  let⟨@i,Q,w,rfl⟩:=pT n;exact⟨aP+v+i,⋯,⋯,rfl⟩
 unfold vP;with_unfolding_all refine bo (j0 ?_);simp only[UN,P,f1];refine bo (Lj ?_);refine bo (gm (show aP+v<h.length by lia) ?_);refine bo (zH T (jh H (show aP+v<h.length by lia)) H (UY:=aP) (t:=v) (b:=0) ⋯ f2 ce (by exact C) ?_);intro q cl co ga;dsimp only;by_cases cr:v-q=0
 ·rw[aK ⇑cr];refine bk (e _ _ (by exact C) (by exact U) rfl (List.Perm.refl _) ?_ ?_)
  ·rw[<-al];refine fp.mpr ⟨E,F,λf n x am=>?_⟩;let⟨@i,w,ge,rfl⟩:=l f n;let⟨@an,cs,ap,rfl⟩:=ci x am;have:=co i w ⋯;have:=ch (aP+v) an ⋯ cs ap;lia
  ·rw[cd]
 rw[aL ⇑cr];rw[show aP+q+(v-q)-1=aP+v-1 by lia];refine bo (gm (show aP+v-1<h.length by lia) ?_);refine bo (AH T (jh H (show aP+v-1<h.length by lia)) H (UY:=aP+v) (t:=z) (b:=z-1) ⋯ ⋯ ch (by exact C) ?_);intro j as gl db;dsimp only;by_cases ds:j=0
 ·rw[aK ⇑ds];refine bk (e _ _ (by exact C) (by exact U) rfl (List.Perm.refl _) ?_ ?_)
  ·rw[<-al];refine fp.mpr ⟨E,F,λf n x am=>?_⟩;let⟨@i,w,ge,rfl⟩:=l f n;let⟨@an,cs,ap,rfl⟩:=ci x am;have:=db an ⋯ ap;have:=ce i (aP+v-1) w ⋯ ⋯;lia
  ·rw[cd]
 rw[aL ⇑ds];have go:(h.map<|ba af).toArray.extract (aP+q) (aP+v)=((((h.drop aP).take v).drop q).map<|ba af).toArray:=by
  apply kV;simp only[DF,List.extract_eq_drop_take,kc,j3];rw[s6,ob,show aP+v-(aP+q)=v-q by lia]
 have gt:(h.map<|ba af).toArray.extract (aP+v) (aP+v+j)=((((h.drop<|aP+v).take z).take j).map<|ba af).toArray:=by
  apply kV;simp only[DF,List.extract_eq_drop_take,kc,j3];rw[uI,vn as,show aP+v+j-(aP+v)=j by lia]
 rw[go,gt];have y:∀f∈((h.drop aP).take v).take q,G f<=G (((h.drop<|aP+v).take z).getD 0 0):=λf n=>by
  rw[M 0 bv];let⟨@i,Q,w,rfl⟩:=lb n;rw[J i ⋯];exact co _ ⋯ ⋯
 have dL:∀f∈((h.drop<|aP+v).take z).drop j,G (((h.drop aP).take v).getD (((h.drop aP).take v).length-1) 0)<=G f:=λf n=>by
  rw[ca,J _ ⋯];let⟨@i,Q,w,rfl⟩:=kh n;rw[M i ⋯,show aP+(v-1)=aP+v-1 by lia];exact db _ ⋯ ⋯
 have eq:∀f∈((h.drop aP).take v).drop q,G ((((h.drop<|aP+v).take z).take j).getD 0 0)<=G f:=λf n=>by
  rw[show (((h.drop<|aP+v).take z).take j).getD 0 0=((h.drop<|aP+v).take z).getD 0 0 by simp only[List.getD,om,aK (show 0<j by lia)],M 0 bv];let⟨@i,Q,w,rfl⟩:=kh n;rw[J i ⋯];have:=ga (aP+i) ⋯ ⋯;rw[Fc];lia
 have a1:(((h.drop aP).take v).drop q).length=v-q:=by rw[hH,ca]
 have ev:(((h.drop<|aP+v).take z).take j).length=j:=by rw[g_,f4];lia
 have ex:∀f∈((h.drop<|aP+v).take z).take j,G f<=G ((((h.drop aP).take v).drop q).getD ((((h.drop aP).take v).drop q).length-1) 0):=λf n=>by
  rw[a1,show (((h.drop aP).take v).drop q).getD (v-q-1) 0=((h.drop aP).take v).getD (v-1) 0 by simp only[List.getD,mv,show q+(v-q-1)=v-1 by lia],J _ ⋯,show aP+(v-1)=aP+v-1 by lia];let⟨@i,Q,w,rfl⟩:=lb n;rw[M i ⋯];have:=gl (aP+v+i) ⋯ ⋯;lia
 have fd:∀f∈((h.drop aP).take v).drop q,f<s:=λf n=>H f (mU<|n0<|mU n);have fn:∀f∈((h.drop<|aP+v).take z).take j,f<s:=λf n=>H f (mU<|n0<|n0 n);by_cases fr:v-q<=j
 ·rw[aK fr];refine bo (Tc T fd fn (E.sublist<|wH _ _) (F.sublist<|rE _ _) ⋯ ⋯ eq ex (by exact C) ?_);intro out r a2 B;let⟨@b,rfl,R,bd⟩:=a2;have S:=IG (G:=G) E F ⋯ ⋯ y dL R bd;refine bo (kC ?_);refine bo (j0 ?_);refine bk ?_;have c:hg r=Y:=B.f.trans U;show A (hg r).isNone _ m;rw[c];refine e (((h.drop aP).take v).take q++b++((h.drop<|aP+v).take z).drop j) _ (B.k.trans C) (by first|rfl|exact c) (by exact B.p) (by rw[<-al];exact S.2) S.1 ?_;have be:arrOf r=(h.map<|ba af).toArray:=B.a;have bQ:b.length=v-q+j:=by rw[R.length_eq,dW,a1,ev]
  have bi:=xQ (b.map<|ba af) (h.map<|ba af) (aP+q) 0 (aP+q) (by rw[bl,bl,bQ];lia) rfl;show List.foldl (λg f=>g.setIfInBounds (aP+q+f.2) f.1) (arrOf r) (b.map<|ba af).toArray.toList.zipIdx=_;rw[be];refine bi.trans ?_;rw[bl,bQ,<-j3,<-kc,<-gz,<-gz];congr 2;have bm:h.take (aP+q)=h.take aP++((h.drop aP).take v).take q:=by
   rw[uI,vn cl,px]
  have bn:h.drop (aP+q+(v-q+j))=((h.drop<|aP+v).take z).drop j++h.drop (aP+(v+z)):=by
   have:=w5 (I:=h.drop (aP+v)) (a:=j) (i:=z) as (by rw[hH];lia);rw[ob,ob]at this;rw[show aP+q+(v-q+j)=aP+v+j by lia,this,show aP+v+z=aP+(v+z) by lia]
  rw[bm,bn];simp only[bq]
 ·rw[aL fr];refine bo (KJ T fd fn (E.sublist<|wH _ _) (F.sublist<|rE _ _) ⋯ ⋯ eq ex (by exact C) ?_);intro out r a2 B;let⟨@b,rfl,R,bd⟩:=a2;have S:=IG (G:=G) E F ⋯ ⋯ y dL R bd;refine bo (kC ?_);refine bo (j0 ?_);refine bk ?_;have c:hg r=Y:=B.f.trans U;show A (hg r).isNone _ m;rw[c];refine e (((h.drop aP).take v).take q++b++((h.drop<|aP+v).take z).drop j) _ (B.k.trans C) (by first|rfl|exact c) (by exact B.p) (by rw[<-al];exact S.2) S.1 ?_;have be:arrOf r=(h.map<|ba af).toArray:=B.a;have bQ:b.length=v-q+j:=by rw[R.length_eq,dW,a1,ev]
  have bi:=xQ (b.map<|ba af) (h.map<|ba af) (aP+q) 0 (aP+q) (by rw[bl,bl,bQ];lia) rfl;show List.foldl (λg f=>g.setIfInBounds (aP+q+f.2) f.1) (arrOf r) (b.map<|ba af).toArray.toList.zipIdx=_;rw[be];refine bi.trans ?_;rw[bl,bQ,<-j3,<-kc,<-gz,<-gz];congr 2;have bm:h.take (aP+q)=h.take aP++((h.drop aP).take v).take q:=by
   rw[uI,vn cl,px]
  have bn:h.drop (aP+q+(v-q+j))=((h.drop<|aP+v).take z).drop j++h.drop (aP+(v+z)):=by
   have:=w5 (I:=h.drop (aP+v)) (a:=j) (i:=z) as (by rw[hH];lia);rw[ob,ob]at this;rw[show aP+q+(v-q+j)=aP+v+j by lia,this,show aP+v+z=aP+(v+z) by lia]
  rw[bm,bn];simp only[bq]
end
section
variable{US:bC}{D:bc}{O:bw}{UH:ab->ai->Prop}{U7:gR}{af:Array bj}{G:Nat->Int}{s:Nat}{m:ai}{n:Array (Nat×Nat×Nat)}
structure er(U7:gR)(af:Array bj)(n:Array (Nat×Nat×Nat))(L:bA)(p:Array Nat):Prop where
 k:PyProof.Rows.kindOf L=U7
 a:arrOf L=p.map (ba af)
 p:hM L=n
 f:hg L=Y
def rj(f:fC s G (eU US D O U7 af) m){u:Array Nat}(b:cW s u){a i:Nat}(UN:a<s)(c:i<s){L:bA}(h:er U7 af n L u){A:Option Bool->bA->ai->Prop}(e:A (Z<|decide (bf G u a<bf G u i)) L m):
  kasC (aR US D) O UH (oz a i) A L m:=by
 have d:∀a,a<s->(u.map<|ba af)[a]?=Z (ba af<|u.getD a 0):=λa UN=>by
  have:a<u.size:=by rw[b.size];exact UN
  simp[Array.getD,this]
 rw[ltAt'_eq];refine bo (j0 ?_);rw[h.a];dsimp only;rw[vG,vG,d a UN,d i c];refine bo (bk ?_);refine bo (bk ?_);exact rW f (b.lt UN) (b.lt c) h.k e
variable{u:Array Nat}{L:bA}
def vN(h:er U7 af n L u){a i:Nat}{A:Unit->bA->ai->Prop}(e:∀b,er U7 af n b (m2 u a i)->A () b m):kasC (aR US D) O UH (sP a i) A L m:=by
 rw[reverseSlice'_eq];refine kC (e _ ⟨h.k,?_,h.p,h.f⟩);show mirror (arrOf L) a i ((i-a)/2)=_;rw[h.a];exact CG (ba af) (λq=>a+q) (λq=>i-1-q) _ u
def RU(h:er U7 af n L u){a i:Nat}{A:Unit->bA->ai->Prop}(e:∀b,er U7 af n b (rx u a<|a-i)->A () b m):kasC (aR US D) O UH (moveDown' a i) A L m:=by
 rw[moveDown'_eq];refine kC (e _ ⟨h.k,?_,h.p,h.f⟩);show rx (arrOf L) a (a-i)=_;rw[h.a];exact CG (ba af) (λq=>a-q) (λq=>a-q-1) _ u
theorem rB{z VR:Type}{ay:fH}{N:Nat->VR->StateT z dw (ForInStep VR)}{A:VR->z->ai->Prop}(l:Nat->VR->z->ai->Prop)(Vx:Nat)(step:∀f o L UI,f<Vx->l f o L UI->kasC ay O UH (N f o) (λj b d=>match j with | .yield a=>l (f+1) a b d | .done a=>A a b d) L UI):∀(t g:Nat) (o:VR) (L:z) (UI:ai),g+t<=Vx->(∀o L UI,l (g+t) o L UI->A o L UI)->l g o L UI->
   kasC ay O UH (forIn (range' g t) o N) A L UI
 |0,g,o,L,UI,i,h,e=>by
  show kasC ay O UH (forIn ([]:List Nat) o N) A L UI;exact kasC_nil (h o L UI e)
 |t+1,g,o,L,UI,i,h,e=>by
  show kasC ay O UH (forIn (g::range' (g+1) t) o N) A L UI;refine kasC_cons (f7 (step g o L UI ⋯ e) (λj d S=>?_) λ_ W c=>c);let⟨j,b⟩:=j;cases j with
  |done a=>exact S
  |yield a=>exact rB l Vx step t (g+1) a b d ⋯ (λo L UI UN=>h o L UI (by rw[show g+(t+1)=g+1+t by lia];exact UN)) S
end
section
variable{US:bC}{D:bc}{O:bw}{UH:ab->ai->Prop}{U7:gR}{af:Array bj}{G:Nat->Int}{s:Nat}{m:ai}{n:Array (Nat×Nat×Nat)}
def hX(G:Nat->Int)(u:Array Nat)(UJ t:Nat):Prop:=(∀a i,UJ<=a->a<=i->i<UJ+t->bf G u a<=bf G u i)
def HY{u:Array Nat}{UJ t:Nat}(e:∀i,UJ+1<=i->i<UJ+t->bf G u (i-1)<=bf G u i):hX G u UJ t:=by
 intro a i UN b c;obtain⟨r,rfl⟩:∃r,i=a+r:=⟨i-a,⋯⟩;clear b;induction r with
 |zero=>exact lL _
 |succ r f=>
  have g:=f ⋯;have d:=e (a+(r+1)) ⋯ c;rw[show a+(r+1)-1=a+r by lia]at d;lia
def JR(al:fC s G (eU US D O U7 af) m){u:Array Nat}(am:cW s u){UJ t k:Nat}(be:UJ+t<=s)(y:1<=k)(bi:k<=t)(l:hX G u UJ k){L:bA}(h:er U7 af n L u){A:Bool->bA->ai->Prop}(e:∀w b,cW s w->er U7 af n b w->(∀a,a<UJ->w[a]?=u[a]?)->hX G w UJ t->A X b m):
  kasC (aR US D) O UH (binarySort' UJ t k) A L m:=by
 rw[binarySort'_eq];rw[show max k 1=k by lia];with_unfolding_all refine bo (hJ (a:=λo b UI=>m=UI/\o=(Y,())/\∃p,cW s p/\er U7 af n b p/\(∀a,a<UJ->p[a]?=u[a]?)/\hX G p UJ t)
  (fS (rB (λf o b UI=>m=UI/\o=(Y,())/\1<=f/\∃p,cW s p/\er U7 af n b p/\(∀a,a<UJ->p[a]?=u[a]?)/\hX G p UJ f) t ?step _ _ _ _ _ ⋯ ?fin ⟨rfl,rfl,y,u,am,h,λ_ W=>rfl,l⟩)) ?after)
 case after=>
  rintro o b UI ⟨rfl,rfl,p,B,C,H,z⟩;exact bk (e p _ B C H z)
 case fin=>
  rintro o b UI ⟨rfl,rfl,bm,p,B,C,H,z⟩;rw[show k+(t-k)=t by lia]at z;exact⟨rfl,rfl,p,B,C,H,z⟩
 case step=>
  rintro q o b UI bn ⟨rfl,rfl,Vf,p,J,Q,ap,l⟩;dsimp only;have as:∀a,UJ<=a->a<UJ+0->bf G p a<=bf G p (UJ+q):=λa g d=>⋯
  have a1:∀a,UJ+q<=a->a<UJ+q->bf G p (UJ+q)<=bf G p a:=λa g d=>⋯
  refine bo (hJ (a:=λo r UI=>m=UI/\b=r/\∃I j,o=(Y,I,j)/\I<=q/\(∀a,UJ<=a->a<UJ+I->bf G p a<=bf G p (UJ+q))/\(∀a,UJ+I<=a->a<UJ+q->bf G p (UJ+q)<=bf G p a))
   (fS (rB (λf o r UI=>m=UI/\b=r/\∃I j,o=(Y,I,j)/\I<=j/\j<=q/\j-I<=q-f/\(∀a,UJ<=a->a<UJ+I->bf G p a<=bf G p (UJ+q))/\(∀a,UJ+j<=a->a<UJ+q->bf G p (UJ+q)<=bf G p a)) q ?s2 _ _ _ _ _ ⋯ ?f2 ⟨rfl,rfl,0,q,rfl,⋯,⋯,⋯,as,a1⟩)) ?VL)
  case f2=>
   rintro o r UI ⟨rfl,rfl,I,j,rfl,c5,dM,jA,jm,v⟩;exact⟨rfl,rfl,I,j,rfl,⋯,jm,λa f x=>v a ⋯ x⟩
  case s2=>
   rintro f o r UI bs ⟨rfl,rfl,I,j,rfl,c5,dM,jA,jm,v⟩;dsimp only;by_cases c:I >= j
   ·rw[aK c];exact bk ⟨rfl,rfl,I,j,rfl,⋯,jm,λa f x=>v a ⋯ x⟩
   rw[aL c];have M:I<=(I+j)/2:=⋯
   have a2:(I+j)/2<j:=⋯
   have N:(I+j)/2-I<=q-(f+1):=⋯
   have P:j-((I+j)/2+1)<=q-(f+1):=⋯
   generalize (I+j)/2=mid at M a2 N P ⊢;refine bo (rj al J ⋯ ⋯ Q ?_);dsimp only;by_cases R:bf G p (UJ+q)<bf G p (UJ+mid)
   ·rw[aK ⇑R];refine bk ⟨rfl,rfl,I,mid,rfl,M,⋯,N,jm,λa f x=>?_⟩;have:=l (UJ+mid) a ⋯ f x;lia
   ·rw[aL ⇑R];refine bk ⟨rfl,rfl,mid+1,j,rfl,⋯,dM,P,λa f x=>?_,v⟩;have:=l a (UJ+mid) f ⋯ ⋯;lia
  case VL=>
   rintro o r UI ⟨rfl,rfl,I,j,rfl,c5,jm,v⟩;dsimp only;refine bo (RU Q ?_);intro bv bd;have F:∀a,(rx p (UJ+q)<|UJ+q-(UJ+I))[a]?=if a=UJ+I then p[UJ+q]? else if UJ+I<a/\a<=UJ+q then p[a-1]? else p[a]?:=λa=>by
    have:=getElem?_bubble (xs:=p) (src:=UJ+q) (by rw[J.size];lia) (UJ+q-(UJ+I)) ⋯ a
    rwa [show UJ+q-(UJ+q-(UJ+I))=UJ+I by lia]at this
   have a8:∀a,bf G (rx p (UJ+q)<|UJ+q-(UJ+I)) a=if a=UJ+I then bf G p (UJ+q) else if UJ+I<a/\a<=UJ+q then bf G p (a-1) else bf G p a:=λa=>by
    have F:=F a;by_cases c:a=UJ+I
    ·rw[aK c]at F ⊢;exact mz F
    ·rw[aL c]at F ⊢;by_cases S:UJ+I<a/\a<=UJ+q
     ·rw[aK S]at F ⊢;exact mz F
     ·rw[aL S]at F ⊢;exact mz F
   refine bk ⟨rfl,rfl,⋯,_,J.Mg _ _,bd,λa UN=>by rw[F,aL ⋯,aL ⋯];exact ap a UN,HY λi f x=>?_⟩;rw[a8,a8];by_cases T:i-1=UJ+I
   ·rw[aK T,aL ⋯,aK ⋯];exact v (i-1) ⋯ ⋯
   ·rw[aL T];by_cases U:i=UJ+I
    ·rw[aK U,aL ⋯];exact jm (i-1) ⋯ ⋯
    ·rw[aL U];by_cases cd:UJ+I<i-1
     ·rw[aK ⋯,aK ⋯];exact l _ _ ⋯ ⋯ ⋯
     ·rw[aL ⋯,aL ⋯];exact l _ _ ⋯ ⋯ ⋯
def ek(G:Nat->Int)(u:Array Nat):Nat->List (Nat×Nat×Nat)->Nat->Prop
 |g,[],d=>g=d
 |g,(f,I,_)::C,d=>f=g/\0<I/\hX G u f I/\ek G u (g+I) C d
variable{u:Array Nat}
theorem ek.le:∀{C:List (Nat×Nat×Nat)}{g d:Nat},ek G u g C d->g+C.length<=d
 |[],g,d,e=>by rw[show d=g from e.symm];exact bb _
 | (f,I,_)::C,g,d,e=>by
  have:=e.2.2.2.le;have:=e.2.1;rw[dz];lia
theorem ek.congr{p:Array Nat}:∀{C:List (Nat×Nat×Nat)}{g d:Nat},ek G u g C d->(∀a,g<=a->a<d->bf G p a=bf G u a)->ek G p g C d
 |[],g,d,e,_=>e
 | (f,I,_)::C,g,d,e,F=>by
  have:=e.2.2.2.le;let@⟨rfl,B,b,c⟩:=e;refine⟨rfl,B,λa i UN h j=>?_,c.congr λa g d=>F a ⋯ d⟩;rw[F a UN ⋯,F i ⋯ ⋯];exact b a i UN h j
theorem ek.app{u:Array Nat}:∀{C J:List (Nat×Nat×Nat)}{g d:Nat},ek G u g (C++J) d↔∃o,ek G u g C o/\ek G u o J d
 |[],J,g,d=>⟨λe=>⟨g,rfl,e⟩,λ⟨o,c,e⟩=>by rw[show g=o from c];exact e⟩
 | (f,I,k)::C,J,g,d=>by
  show (f=g/\0<I/\hX G u f I/\ek G u (g+I) (C++J) d)↔_;rw[ek.app];constructor
  ·rintro⟨y,B,a,o,b,h⟩;exact⟨o,⟨y,B,a,b⟩,h⟩
  ·rintro⟨o,⟨y,B,a,b⟩,h⟩;exact⟨y,B,a,o,b,h⟩
def Pd{U_:Type}{I:List U_}{a:Nat}(e:a+1<I.length):∃b f x c,I=b++f::x::c/\b.length=a:=by
 refine⟨I.take a,I[a]'⋯,I[a+1],I.drop<|a+2,?_,by rw[g_];lia⟩;have d:=jW (l:=I) (i:=a) ⋯;have g:=jW (l:=I) (i:=a+1) e;rw[<-g,<-d,fq]
def tR(I:List Nat)(a:Nat):bf G I.toArray a=G (I.getD a 0):=by unfold bf;rw[l8]
def G0(R:fC s G (eU US D O U7 af) m){u:Array Nat}(F:cW s u){L:bA}(h:er U7 af n L u){UJ a:Nat}(UN:a+1<n.size)(UG:ek G u 0 n.toList UJ)(cl:UJ<=s){A:Bool->bA->ai->Prop}(e:∀H r w,cW s r->er U7 af H w r->H.size+1=n.size->ek G r 0 H.toList UJ->(∀a,UJ<=a->bf G r a=bf G u a)->A X w m):kasC (aR US D) O UH (vP a) A L m:=by
 let⟨b,⟨aP,v,j⟩,⟨cz,z,x⟩,@l,c,rfl⟩:=Pd (I:=n.toList) (a:=a) ⇑UN;rw[c]at UG;let⟨@o,S,rfl,T,U,rfl,al,am,bU⟩:=ek.app.mp UG;have dM:=bU.le;have C:n=(b++(aP,v,j)::(aP+v,z,x)::l).toArray:=by rw[<-c]
 have an:u.size=s:=F.size;have ap:∀f∈u.toList,f<s:=λf as=>eT.mp (F.mem_iff.mp as);have E:∀a,bf G u a=G (u.toList.getD a 0):=λa=>tR u.toList a;have bQ:u.toList.length=s:=by rw[dk,an]
 have J:∀g t,g+t<=s->hX G u g t->cy G ((u.toList.drop g).take t):=λg t co e=>by
  refine oc.mpr λa i UN a1 cr=>?_;have a2:=UN;have bd:=a1;rw[g_,hH,bQ]at a2 bd;have:=e (g+a) (g+i) ⋯ ⋯ ⋯;rw[E,E]at this;rw[uy,pv,uy,pv];rw[cA,cA,dy ⋯,dy ⋯]at this;exact this
 refine R2 R (h:=u.toList) ap (a:=b.length) (aP:=aP) (v:=v) (z:=z) (bs:=j) (f0:=x) h.k (by rw[h.a];apply kV;simp) h.f (by rw[h.p,C];simp) (by rw[h.p,C];simp) T al ⋯ (J _ _ ⋯ U) (J _ _ ⋯ am) ?_;intro mid w Vf be bi M bm bn;have bs:mid.length=v+z:=by rw[M.length_eq,g_,hH,bQ];lia
 have bv:u.toList.take aP++(u.toList.drop aP).take (v+z)++u.toList.drop (aP+(v+z))=u.toList:=by rw[px,fq]
 have ca:cW s (u.toList.take aP++mid++u.toList.drop (aP+(v+z))).toArray:=by
  show (u.toList.take aP++mid++u.toList.drop (aP+(v+z))).Perm (range s);refine List.Perm.trans (eQ _<|dO _ M) ?_;rw[bv];exact F
 have Wf:(u.toList.take aP).length=aP:=by rw[g_,bQ];lia
 have cd:∀a,a<aP->bf G (u.toList.take aP++mid++u.toList.drop (aP+(v+z))).toArray a=bf G u a:=λa UN=>by
  rw[tR,E];congr 1;rw[cA,cA,bq,mc ⋯,om,aK UN]
 have P:∀a,aP+(v+z)<=a->bf G (u.toList.take aP++mid++u.toList.drop (aP+(v+z))).toArray a=bf G u a:=λa UN=>by
  rw[tR,E];congr 1;rw[cA,cA,kH (by rw[dW];lia),mv,dW,Wf,bs];congr 2;lia
 have Q:∀a,aP<=a->a<aP+(v+z)->bf G (u.toList.take aP++mid++u.toList.drop (aP+(v+z))).toArray a=G (mid.getD (a-aP) 0):=λa y B=>by
  rw[tR];congr 1;rw[cA,cA,bq,kH ⋯,Wf,mc ⋯]
 have ce:((b++(aP,v,j)::(aP+v,z,x)::l).toArray.setIfInBounds b.length (aP,v+z,j)).eraseIdxIfInBounds (b.length+1)=(b++(aP,v+z,j)::l).toArray:=by
  rw[IB,HG _ _<|bb _,vx,F1];rw[IT,List.eraseIdx_append_of_length_le ⋯,show b.length+1-b.length=1 by lia];rfl
 refine e ((b++(aP,v+z,j)::l).toArray) _ w ca ⟨Vf,by rw[bn];apply kV;simp,by rw[bi,h.p,C,ce],be⟩ (by rw[C];simp;lia) ?_ (λa UN=>P a ⋯);have ch:ek G u (aP+(v+z)) l UJ:=by rw[<-sl];exact bU
 refine ek.app.mpr ⟨aP,S.congr λa W d=>cd a d,rfl,⋯,λa i y B ci=>?_,ch.congr λa g d=>P a g⟩
 ·rw[Q a y ⋯,Q i ⋯ ci];exact n7 bm ⋯ ⋯
end
section
variable{US:bC}{D:bc}{O:bw}{UH:ab->ai->Prop}{U7:gR}{af:Array bj}{G:Nat->Int}{s:Nat}{m:ai}{n:Array (Nat×Nat×Nat)}
variable{p:Array Nat}
def uz(b:cW s p){a i:Nat}(c:i<=s)(q:Nat):(m2 p a i)[q]?=if a<=q/\q<i then p[a+i-1-q]? else p[q]?:=by
 unfold m2;rw[getElem?_mirror_all (by rw[b.size];lia)]
def JI(b:cW s p){a i:Nat}(d:i<=s)(c:∀q,a<=q->q<i->bf G p q=bf G p a)(q:Nat):bf G (m2 p a i) q=bf G p q:=by
 by_cases e:a<=q/\q<i
 ·rw[mz (show (m2 p a i)[q]?=p[a+i-1-q]? by rw[uz b d,aK e]),c _ ⋯ ⋯,c q e.1 e.2]
 ·exact mz (by rw[uz b d,aL e])
structure nz(G:Nat->Int)(s UJ:Nat)(u p:Array Nat):Prop where
 ni:cW s p
 be:∀a,a<UJ->p[a]?=u[a]?
 a8:∀q,bf G p q=bf G u q
def nz.rev{UJ:Nat}{u:Array Nat}(VM:nz G s UJ u p){a i:Nat}(UN:UJ<=a)(b:i<=s)(c:∀q,a<=q->q<i->bf G u q=bf G u a):nz G s UJ u (m2 p a i):=
 ⟨VM.ni.rev a i,λq e=>by rw[uz VM.ni b,aL ⋯];exact VM.be q e,λq=>by
  rw[JI VM.ni b (λq g d=>by rw[VM.a8,VM.a8];exact c q g d)];exact VM.a8 q⟩
theorem Fo{N:Nat->Int}{g d:Nat}(e:∀i,g+1<=i->i<d->N i=N (i-1)):∀r,g+r<d->N (g+r)=N g
 |0,_=>rfl
 |r+1,hd=>(e (g+(r+1)) ⋯ hd).trans (Fo e r ⋯)
def Dk(l:fC s G (eU US D O U7 af) m){UJ a:Nat}(w:UJ+a<=s){p:Array Nat}{e:bA}{g:Nat}(q:cW s p)(UP:er U7 af n e p)(x:1<=g)(VL:g<=a)(r:∀i,UJ+1<=i->i<UJ+g->bf G p (i-1)<=bf G p i):
   kasC (aR US D) O UH (forIn [g:a] ((Y:Option (Option Nat)),g) λf o=>oz (UJ+o.2) (UJ+o.2-1) >>= λj=>match j with
    |some u=>if u=X then pure (ForInStep.done (Y,o.2)) else pure (ForInStep.yield (Y,o.2+1))
    |f=>pure<|ForInStep.done (Z Y,o.2))
    (λo b UI=>m=UI/\e=b/\∃t,o=(Y,t)/\g<=t/\t<=a/\(∀i,UJ+1<=i->i<UJ+t->bf G p (i-1)<=bf G p i)/\(t=a\/bf G p (UJ+t)<bf G p (UJ+t-1))) e m:=by
 refine fS (rB (λf o b UI=>m=UI/\e=b/\o=(Y,f)/\g<=f/\∀i,UJ+1<=i->i<UJ+f->bf G p (i-1)<=bf G p i) a ?_ _ _ _ _ _ ⋯ ?_ ⟨rfl,rfl,rfl,bb _,r⟩)
 ·rintro f o b UI y ⟨rfl,rfl,rfl,k,d⟩;dsimp only;refine bo (rj l q ⋯ ⋯ UP ?_);dsimp only;by_cases h:bf G p (UJ+f)<bf G p (UJ+f-1)
  ·rw[aK ⇑h];exact bk ⟨rfl,rfl,f,rfl,k,⋯,d,.inr h⟩
  ·rw[aL ⇑h];refine bk ⟨rfl,rfl,rfl,⋯,λi v z=>?_⟩;by_cases c:i=UJ+f
   ·subst c;lia
   ·exact d i v ⋯
 ·rintro o b UI ⟨rfl,rfl,rfl,k,d⟩;rw[show g+(a-g)=a by lia]at d ⊢;exact⟨rfl,rfl,a,rfl,⋯,bb _,d,.inl rfl⟩
def vO(UJ a t:Nat): StateT bA dw (Option Nat):=(sP UJ (UJ+t) >>= λ_ => (forIn [t:a] ((Y:Option (Option Nat)),t) λf o => oz (UJ+o.2) (UJ+o.2-1) >>= λj => match j with
    |some b => if b=X then pure (ForInStep.done (Y,o.2)) else pure (ForInStep.yield (Y,o.2+1))
    |f => pure<|ForInStep.done (Z Y,o.2)) >>= λo => match o.1 with
    |some j => pure j
    |none => pure (Z o.2))
def CO(UJ f:Nat)(o:Option (Option Nat)×Nat×Nat):StateT bA dw (ForInStep<|Option (Option Nat)×Nat×Nat):=(oz (UJ+o.2.1) (UJ+o.2.1-1) >>= λj=>match j with
 |some a=>if a=X then (if o.2.2>0 then sP (UJ+o.2.1-(o.2.2+1)) (UJ+o.2.1) >>= λ_=>pure (.yield (Y,o.2.1+1,0)) else pure (.yield (Y,o.2.1+1,0)))
  else oz (UJ+o.2.1-1) (UJ+o.2.1) >>= λj=>match j with
   |some b=>if b=X then pure (.done (Y,o.2.1,o.2.2)) else pure (.yield (Y,o.2.1+1,o.2.2+1))
   |f=>pure (.done (Z Y,o.2.1,o.2.2))
 |f=>pure (.done (Z Y,o.2.1,o.2.2)))
def vR(UJ a t:Nat):StateT bA dw (Option Nat):=(liftM (PySem.rule "list.sort.descending-run") >>= λ_=>forIn [t+1:a] ((Y:Option (Option Nat)),t+1,0) (CO UJ) >>= λo=>match o.1 with
 |some j=>pure j
 |none=>if o.2.2>0 then sP (UJ+o.2.1-(o.2.2+1)) (UJ+o.2.1) >>= λ_=>vO UJ a o.2.1 else vO UJ a o.2.1)
def Ff(j:fC s G (eU US D O U7 af) m){UJ c t:Nat}(k:UJ+c<=s){u p:Array Nat}{L:bA}(VM:nz G s UJ u p)(h:er U7 af n L p)(l:1<=t)(q:t<=c)(r:∀i,UJ+1<=i->i<UJ+t->bf G u i<=bf G u (i-1)){A:Option Nat->bA->ai->Prop}(e:∀t b f,1<=t->t<=c->cW s b->er U7 af n f b->(∀a,a<UJ->b[a]?=u[a]?)->(∀i,UJ+1<=i->i<UJ+t->bf G b (i-1)<=bf G b i)->A (Z t) f m):kasC (aR US D) O UH (vO UJ c t) A L m:=by
 unfold vO;refine bo (vN h λy U6=>?_);have F:=uz VM.ni (a:=UJ) (i:=UJ+t) ⋯;have a8:∀a,UJ<=a->a<UJ+t->bf G (m2 p UJ<|UJ+t) a=bf G u (UJ+(UJ+t)-1-a):=λa g d=>(mz (by rw[F,aK ⟨g,d⟩])).trans (VM.a8 _);refine bo (hJ (Dk j k (VM.ni.rev UJ<|UJ+t) U6 l q λi z B=>?_) ?_)
 ·rw[a8 _ ⋯ ⋯,a8 _ ⋯ ⋯];have:=r (UJ+(UJ+t)-1-(i-1)) ⋯ ⋯;rw[show UJ+(UJ+t)-1-(i-1)-1=UJ+(UJ+t)-1-i by lia]at this;exact this
 ·rintro o f UI ⟨rfl,rfl,v,rfl,C,w,x,E⟩;dsimp only;exact bk (e v _ _ ⋯ w (VM.ni.rev UJ<|UJ+t) U6 (λa UN=>by rw[F,aL ⋯];exact VM.be a UN) x)
def CB(B:fC s G (eU US D O U7 af) m){UJ k t:Nat}(F:UJ+k<=s){u p:Array Nat}{L:bA}(VM:nz G s UJ u p)(h:er U7 af n L p)(U:1<=t)(al:t<k)(P:∀i,UJ+1<=i->i<UJ+(t+1)->bf G u i<=bf G u (i-1)){A:Option Nat->bA->ai->Prop}(e:∀t z l,1<=t->t<=k->cW s z->er U7 af n l z->(∀a,a<UJ->z[a]?=u[a]?)->(∀i,UJ+1<=i->i<UJ+t->bf G z (i-1)<=bf G z i)->A (Z t) l m):kasC (aR US D) O UH (vR UJ k t) A L m:=by
 have aT:∀{f r:Nat},r+1<=f->(∀i,UJ+f-r<=i->i<UJ+f->bf G u i=bf G u (i-1))->∀q,UJ+f-(r+1)<=q->q<UJ+f->bf G u q=bf G u (UJ+f-(r+1)):=λ{f r} hd c q g d=>by
  have:=Fo (N:=bf G u) (g:=UJ+f-(r+1)) (d:=UJ+f) (λi f x=>c i ⋯ x) (q-(UJ+f-(r+1))) ⋯
  rwa [show UJ+f-(r+1)+(q-(UJ+f-(r+1)))=q by lia]at this
 unfold vR;refine bo (oh<|i_ ?_);refine bo (hJ (a:=λo l UI=>m=UI/\∃j f r,o=(Y,f,r)/\er U7 af n l j/\nz G s UJ u j/\t+1<=f/\f<=k/\r+1<=f/\(∀i,UJ+1<=i->i<UJ+f->bf G u i<=bf G u (i-1))/\∀i,UJ+f-r<=i->i<UJ+f->bf G u i=bf G u (i-1))
  (fS (rB (λf o l UI=>m=UI/\∃j r,o=(Y,f,r)/\er U7 af n l j/\nz G s UJ u j/\t+1<=f/\r+1<=f/\(∀i,UJ+1<=i->i<UJ+f->bf G u i<=bf G u (i-1))/\∀i,UJ+f-r<=i->i<UJ+f->bf G u i=bf G u (i-1)) k ?Vz _ _ _ _ _ ⋯ ?Vy ⟨rfl,p,0,rfl,h,VM,bb _,⋯,P,λi g d=>⋯⟩)) ?R)
 case Vz=>
  rintro f o l UI an ⟨rfl,j,r,rfl,Q,b,C,y,v,w⟩;unfold CO;dsimp only;refine bo (rj B b.ni ⋯ ⋯ Q ?_);dsimp only;rw[b.a8,b.a8];by_cases H:bf G u (UJ+f)<bf G u (UJ+f-1)
  ·rw[aK ⇑H];have I:∀i,UJ+1<=i->i<UJ+(f+1)->bf G u i<=bf G u (i-1):=λi E S=>by
    by_cases c:i=UJ+f
    ·subst c;lia
    ·exact v i E ⋯
   by_cases hd:r>0
   ·rw[aK hd];refine bo (vN Q λT U6=>?_);exact bk ⟨rfl,_,0,rfl,U6,b.rev ⋯ ⋯<|aT y w,⋯,⋯,I,λi g d=>⋯⟩
   ·rw[aL hd];exact bk ⟨rfl,j,0,rfl,Q,b,⋯,⋯,I,λi g d=>⋯⟩
  ·rw[aL ⇑H];refine bo (rj B b.ni ⋯ ⋯ Q ?_);dsimp only;rw[b.a8,b.a8];by_cases J:bf G u (UJ+f-1)<bf G u (UJ+f)
   ·rw[aK ⇑J];exact bk ⟨rfl,j,f,r,rfl,Q,b,C,⋯,y,v,w⟩
   ·rw[aL ⇑J];refine bk ⟨rfl,j,r+1,rfl,Q,b,⋯,⋯,λi E S=>?_,λi g d=>?_⟩
    ·by_cases c:i=UJ+f
     ·subst c;lia
     ·exact v i E ⋯
    ·by_cases c:i=UJ+f
     ·subst c;lia
     ·exact w i ⋯ ⋯
 case Vy=>
  rintro o l UI ⟨rfl,j,r,rfl,Q,b,C,y,v,w⟩;rw[show t+1+(k-(t+1))=k by lia] at *;exact⟨rfl,j,k,r,rfl,Q,b,C,bb _,y,v,w⟩
 case R=>
  rintro o l UI ⟨rfl,j,f,r,rfl,Q,b,C,M,y,v,w⟩;dsimp only;by_cases hd:r>0
  ·rw[aK hd];refine bo (vN Q λT U6=>?_);exact Ff B F (b.rev ⋯ ⋯<|aT y w) U6 ⋯ M v e
  ·rw[aL hd];exact Ff B F b Q ⋯ M v e
def HN(UJ a:Nat): StateT bA dw (Option Nat):=((forIn [1:a] ((Y:Option (Option Nat)),1) λf o => oz (UJ+o.2) (UJ+o.2-1) >>= λj => match j with
    |some b => if b=X then pure (ForInStep.done (Y,o.2)) else pure (ForInStep.yield (Y,o.2+1))
    |f => pure<|ForInStep.done (Z Y,o.2)) >>= λo => match o.1 with
    |some j => pure j
    |none => if (o.2==a)=X then pure (Z o.2) else if o.2>1 then oz UJ (UJ+o.2-1) >>= λj => match j with
      |some c => if c=X then pure (Z o.2) else sP UJ (UJ+o.2) >>= λ_ => vR UJ a o.2
      |f => pure Y
      else vR UJ a o.2)
def PD(UJ a:Nat):countRun' UJ a=HN UJ a:=by
 kernel_rfl
def J6(k:fC s G (eU US D O U7 af) m){u:Array Nat}(b:cW s u){UJ f:Nat}(y:1<=f)(p:UJ+f<=s){L:bA}(h:er U7 af n L u){A:Option Nat->bA->ai->Prop}(e:∀t j v,1<=t->t<=f->cW s j->er U7 af n v j->(∀a,a<UJ->j[a]?=u[a]?)->(∀i,UJ+1<=i->i<UJ+t->bf G j (i-1)<=bf G j i)->A (Z t) v m):
  kasC (aR US D) O UH (countRun' UJ f) A L m:=by
 rw[PD];unfold HN;have B:nz G s UJ u u:=⟨b,λ_ W=>rfl,λ_=>rfl⟩;refine bo (hJ (Dk k p b h (bb _) y λi g d=>⋯) ?_);rintro o v UI ⟨rfl,rfl,t,rfl,w,C,l,F⟩;dsimp only;by_cases c:t=f
 ·rw[aK ⇑c];exact bk (e t u _ w C b h (λ_ W=>rfl) l)
 rw[aL ⇑c];have H:bf G u (UJ+t)<bf G u (UJ+t-1):=F.resolve_left c;by_cases E:t>1
 ·rw[aK E];refine bo (rj k b ⋯ ⋯ h ?_);dsimp only;by_cases UQ:bf G u UJ<bf G u (UJ+t-1)
  ·rw[aK ⇑UQ];exact bk (e t u _ w C b h (λ_ W=>rfl) l)
  ·rw[aL ⇑UQ];have I:∀r,r<t->bf G u UJ<=bf G u (UJ+r)/\bf G u (UJ+r)<=bf G u (UJ+t-1):=by
    have J:∀r,r<t->bf G u UJ<=bf G u (UJ+r):=λr=>by
     induction r with
     |zero=>intro W;exact lL _
     |succ r x=>
      intro hd;have g:=l (UJ+(r+1)) ⋯ ⋯;rw[show UJ+(r+1)-1=UJ+r by lia]at g;have:=x ⋯;lia
    have M:∀r,r<t->bf G u (UJ+t-1-r)<=bf G u (UJ+t-1):=λr=>by
     induction r with
     |zero=>intro W;exact lL _
     |succ r x=>
      intro hd;have g:=l (UJ+t-1-r) ⋯ ⋯;rw[show UJ+t-1-r-1=UJ+t-1-(r+1) by lia]at g;have:=x ⋯;lia
    intro r hd;refine⟨J r hd,?_⟩;have:=M (t-1-r) ⋯
    rwa [show UJ+t-1-(t-1-r)=UJ+r by lia]at this
   have z:∀q,UJ<=q->q<UJ+t->bf G u q=bf G u UJ:=λq g d=>by
    have:=I (q-UJ) ⋯;rw[show UJ+(q-UJ)=q by lia]at this;lia
   refine bo (vN h λQ U6=>?_);exact CB (u:=u) k p (B.rev (bb _) ⋯ z) U6 w ⋯ (λi N P=>by
    by_cases c:i=UJ+t
    ·subst c;lia
    ·rw[z i ⋯ ⋯,z (i-1) ⋯ ⋯];exact lL _) e
 rw[aL E];obtain rfl:t=1:=⋯
 exact CB (u:=u) k p B h (bb _) ⋯ (λi N P=>by
  obtain rfl:i=UJ+1:=⋯
  exact Int.le_of_lt H) e
end
section
variable{US:bC}{D:bc}{O:bw}{UH:ab->ai->Prop}{U7:gR}{af:Array bj}{G:Nat->Int}{s:Nat}{m:ai}{n:Array (Nat×Nat×Nat)}
variable{u:Array Nat}
theorem ek.same:∀{C J:List (Nat×Nat×Nat)}{g d:Nat},ek G u g C d->(C.map λf=>(f.1,f.2.1))=(J.map λf=>(f.1,f.2.1))->ek G u g J d
 |[],[],g,d,e,_=>e
 |[],_::_,g,d,e,c=>by cases c
 |_::_,[],g,d,e,c=>by cases c
 | (f,I,k)::C,(j,l,m)::J,g,d,e,c=>by
  rw[cw,cw]at c;injection c with h i;injection h with a b;dsimp only at a b;subst a;subst b;exact⟨e.1,e.2.1,e.2.2.1,e.2.2.2.same i⟩
def JV(E:Array (Nat×Nat×Nat))(a k:Nat):(E.toList.map λf=>(f.1,f.2.1))=((E.modify a λf=>(f.1,f.2.1,k)).toList.map λf=>(f.1,f.2.1)):=by
 apply qE;intro i;rw[dU,dU,eA,eA,Array.getElem?_modify];split
 ·rw[Option.map_map];rfl
 ·rfl
def hX.congr{p:Array Nat}{UJ t:Nat}(e:hX G u UJ t)(F:∀a,UJ<=a->bf G p a=bf G u a):hX G p UJ t:=λa i g d o=>by
 rw[F a g,F i ⋯];exact e a i g d o
def Rm{ay:fH}{O:bw}{UH:ab->ai->Prop}{z U_:Type}{o:Nat->Prop}{c:∀t,Decidable (o t)}{b VP:Nat->StateT z dw U_}{A:U_->z->ai->Prop}{m:ai}(UT:Nat->z->Prop)(h:∀t L,UT t L->kasC ay O UH (VP t) A L m)(a:(∀t L,UT t L->kasC ay O UH (VP t) A L m)->∀t L,o t->UT t L->kasC ay O UH (b t) A L m):∀t L,UT t L->kasC ay O UH (if o t then b t else VP t) A L m:=λt L u=>
 if e:o t then by rw[aK e];exact a h t L e u else by rw[aL e];exact h t L u
variable{A:Unit->bA->ai->Prop}
def Md(z:fC s G (eU US D O U7 af) m)(B:2<=s)(ap:∀l b,cW s l->i8 G l s->arrOf b=l.map (ba af)->hg b=Y->A () b m):kasC (aR US D) O UH sortRuns' A (ro U7 af (range s).toArray) m:=by
 rw[sortRuns'_eq];refine bo (j0 ?_);dsimp only;have as:(arrOf<|ro U7 af (range s).toArray).size=s:=by
  show ((range s).toArray.map<|ba af).size=s;simp
 simp only[as];refine bo (hJ (a:=λo b UI=>m=UI/\o=(Y,s)/\∃n u,cW s u/\er U7 af n b u/\ek G u 0 n.toList s)
  (fS (gV (λf o b UI=>m=UI/\∃UJ n u,o=(Y,UJ)/\f<=UJ/\UJ<=s/\cW s u/\er U7 af n b u/\ek G u 0 n.toList UJ) ?step _ 0 _ _ _ ?fin ⟨rfl,0,#[],(range s).toArray,rfl,bb _,⋯,List.Perm.refl _,⟨rfl,rfl,rfl,rfl⟩,rfl⟩)) ?after)
 case fin=>
  rintro o b UI ⟨rfl,UJ,n,u,rfl,g,d,r,c,N⟩;have:UJ=s:=⋯
  subst this;exact⟨rfl,rfl,n,u,r,c,N⟩
 case after=>
  rintro o b UI ⟨rfl,rfl,n,u,j,h,UG⟩;dsimp only;refine bo (hJ (a:=λo b UI=>m=UI/\o=(Y,())/\∃u,cW s u/\i8 G u s/\arrOf b=u.map (ba af)/\hg b=Y)
   (fS (gV (λf o b UI=>m=UI/\o=(Y,())/\∃n u,cW s u/\er U7 af n b u/\ek G u 0 n.toList s/\n.size+f<=s) ?C _ 0 _ _ _ ?f2 ⟨rfl,rfl,n,u,j,h,UG,by have:=UG.le;rw[dk]at this;lia⟩)) ?VL)
  case VL=>
   rintro o b UI ⟨rfl,rfl,u,g,d,o,r⟩;exact bk (ap u _ g d o r)
  case f2=>
   rintro o b UI ⟨rfl,rfl,n,u,j,h,UG,a1⟩;have c:n.toList=[]:=lT (by rw[dk];lia);rw[c]at UG;have:0=s:=UG;lia
  case C=>
   rintro f o b UI ⟨rfl,rfl,n,u,j,h,UG,a1⟩;refine bo (j0 ?_);by_cases c:(hM b).size<=1
   ·rw[aK c];refine bk ⟨rfl,rfl,u,j,?_,h.a,h.f⟩;rw[h.p]at c;have a2:n.toList.length<=1:=by rw[dk];exact c
    match S:n.toList,a2 with
    |[],_=>
     rw[S]at UG;have:0=s:=UG;lia
    |[(f,I,k)],_=>
     rw[S]at UG;let@⟨rfl,_,bd,be⟩:=UG;have:0+I=s:=be;exact λa i bi ch=>bd a i (gk _) bi ⋯
    |_::_::_,e=>exact absurd e ↥0
   ·rw[aL c];rw[h.p]at c;have bm:∀M,M+1<n.size->kasC (aR US D) O UH (vP M) (λd v C=>d=X/\m=C/\∃n u,cW s u/\er U7 af n v u/\ek G u 0 n.toList s/\n.size+(f+1)<=s) b m:=λM bn=>
     G0 z j h bn UG (bb _) λP l bs g d o r T=>⟨rfl,rfl,P,l,g,d,r,⋯⟩;refine bo (hJ (bm _ ?_) ?_)
    ·rw[h.p];have:∀(o:Prop) [Decidable o],(if o then n.size-2-1 else n.size-2)+1<n.size:=λo W=>by split<;>lia
     exact this _
    ·rintro d v C ⟨rfl,rfl,bv⟩;rw[aL ∅];exact bk ⟨rfl,rfl,bv⟩
 case step=>
  rintro f o b UI ⟨rfl,UJ,n,u,rfl,ci,cl,j,h,UG⟩;dsimp only;by_cases U:UJ >= s
  ·rw[aK U];have:UJ=s:=⋯
   subst this;exact bk ⟨rfl,rfl,n,u,j,h,UG⟩
  rw[aL U];refine bo (J6 z j ⋯ ⋯ h ?_);intro t al y w E F UP am H;have p:t<=s-UJ/\1<=t/\∃u,cW s u/\er U7 af n y u/\ek G u 0 n.toList UJ/\hX G u UJ t:=⟨E,w,al,F,UP,UG.congr λa W d=>mz<|am a d,HY H⟩;dsimp only;clear H am UP F w E;revert t y;refine Rm (λt y=>t<=s-UJ/\1<=t/\∃u,cW s u/\er U7 af n y u/\ek G u 0 n.toList UJ/\hX G u UJ t) ?_ ?_
  ·intro t v p;let@⟨E,w,⟨@VI,J,U6,bU,L⟩⟩:=p;refine bo (j0 ?_);rcases co:(hM v).back? with _|⟨cr,cs,db⟩
   ·dsimp only;refine bo (kC ?_);refine bk ⟨rfl,UJ+t,n.push (UJ,t,0),VI,rfl,⋯,⋯,J,⟨U6.k,U6.a,by show (hM v).push _=_;rw[U6.p],U6.f⟩,?_⟩;rw[zP];exact ek.app.mpr ⟨UJ,bU,rfl,⋯,L,rfl⟩
   ·dsimp only;refine bo (hJ (a:=λo b UI=>m=UI/\o=(Y,())/\∃n u,cW s u/\er U7 af n b u/\ek G u 0 n.toList UJ/\hX G u UJ (t))
     (fS<|gV (λf o b UI=>m=UI/\o=(Y,())/\∃n u,cW s u/\er U7 af n b u/\ek G u 0 n.toList UJ/\hX G u UJ (t)) ?_ _ 0 _ _ _ (λ_ W W k=>k) ⟨rfl,rfl,n,VI,J,U6,bU,L⟩) ?_)
    ·rintro x o b UI ⟨rfl,rfl,n,u,j,h,UG,O⟩;refine bo (j0 ?_);by_cases c:(hM b).size>1
     ·rw[aK c];rcases ds:(hM b)[(hM b).size-2]? with _|⟨g,d,dL⟩
      ·dsimp only;exact bk ⟨rfl,rfl,n,u,j,h,UG,O⟩
      ·dsimp only;split
       ·exact bk ⟨rfl,rfl,n,u,j,h,UG,O⟩
       ·refine bo (G0 z j h (by rw[h.p]at c ⊢;lia) UG ⋯ ?_);intro P l bs g d o r T;rw[aL ∅];exact bk ⟨rfl,rfl,P,l,g,d,r,O.congr T⟩
     ·rw[aL c];dsimp only;exact bk ⟨rfl,rfl,n,u,j,h,UG,O⟩
    ·rintro o b UI ⟨rfl,rfl,n,u,j,h,UG,O⟩;dsimp only;refine bo (kC ?_);refine bo (kC ?_);refine bk ⟨rfl,UJ+t,(n.modify (n.size-1) _).push (UJ,t,0),u,rfl,⋯,⋯,j,⟨h.k,h.a,by show ((hM b).modify ((hM b).size-1) _).push _=_;rw[h.p],h.f⟩,?_⟩;rw[zP];exact ek.app.mpr ⟨UJ,UG.same<|JV _ _ _,rfl,⋯,O,rfl⟩
  ·intro UO t y eq p;let@⟨E,w,⟨@al,F,UP,ca,H⟩⟩:=p;refine bo (oh<|i_ ?_);have Q:t<=min (s-UJ) (minRun' s s 0):=⋯
   have an:min (s-UJ) (minRun' s s 0)<=s-UJ:=⋯
   generalize min (s-UJ) (minRun' s s 0)=cd at Q an ⊢;refine bo (JR z F ⋯ w Q H UP ?_);intro VI v J U6 ce L;rw[aL ∅];exact UO cd v ⟨an,df w Q,VI,J,U6,ca.congr λa W d=>mz<|ce a d,L⟩
def DQ(c:fC s G (eU US D O U7 af) m)(B:2<=s)(e:s<1001\/∀i,1<=i->i<s->G (i-1)<=G i)(d:∀a b,cW s a->i8 G a s->arrOf b=a.map (ba af)->hg b=Y->A () b m):kasC (aR US D) O UH sortRuns' A (ro U7 af (range s).toArray) m:=Md c B d
end
end L2
namespace L2
open Spec PyProof.Rows
section
variable{b:aO}{R:List (ah×aX)}{z:a7}{h:ax}{m:ai}{S:aZ}
variable{VW:List ah}{Vd:Nat}
def aF.Ft{UO:ah}{E:List ak}(l:aF b R z h m)(f:∀d∈VW,jJ b R h d)(q:∀d n,d∉VW->m.heap.get? d=Z n->S.get? d=Z n)(o:m.heap.objs.size<=UO)(new:d0 b.prog b.w (upd h UO<|.tup E) S UO (.tup E)):aF b R z (upd h UO<|.tup E) {m with heap:=S,toks:=Vd}:=by
 have i:h UO=Y:=l.aY.fresh o;have v:∀d n,m.heap.get? d=Z n->d≠UO:=λd n c=>cT (d6 (bW c) o);have r:∀d J,h d=Z J->d∉VW:=λd J c k=>by rw[(f d k).1]at c;cases c
 refine l.step (VZ:=m.gens) (VD:=m.drawn) (VW:=VW) (λd a=>⟨(f d a).2.2.2.1,(f d a).2.1,(f d a).2.2.2.2.1,(f d a).2.2.2.2.2⟩) (λd n W W e c W=>q d n e c) (λd n W W e c W=>⟨n.slots,q d n e c⟩)
  (λd n W c s=>by rw[b0 (v d n c)];exact s) (λd n e c=>⟨n,q d n e c⟩) (λd n W e c W=>q d n e c) (λd U0 c=>by rw[b0 (fV c i)];exact c) (λd n J c=>by rw[b0 (fV c i)];exact c)
  (λd c=>⟨by rw[b0 (fV c i)];exact c,λa=>.of λn=>q d n a⟩) (λt x=>?_) (λg n c=>?_) l.bare
 ·let⟨n,T,@U9,y,j⟩:=x;exact⟨n,T,U9,q _ n (λk=>(f _ k).2.1 rfl) y,j⟩
 ·by_cases u:g=UO
  ·subst u;rw[dp]at c;cases c;exact new
  ·rw[b0 u]at c;refine (l.aY g n c).eF (λd J a p=>q d J ?_ p) (λd p=>by rw[b0 (fV p i)];exact p) (λd U0 p=>by rw[b0 (fV p i)];exact p) λd n U0 p=>by rw[b0 (fV p i)];exact p
   rcases a with k|k
   ·rw[k];exact r g n c
   ·exact r d _ k
def aF.E2(l:aF b R z h m)(f:∀d∈VW,jJ b R h d)(q:∀d n,d∉VW->m.heap.get? d=Z n->S.get? d=Z n):aF b R z h {m with heap:=S,toks:=Vd}:=by
 have i:∀d J,h d=Z J->d∉VW:=λd J c k=>by rw[(f d k).1]at c;cases c
 refine l.step (VZ:=m.gens) (VD:=m.drawn) (VW:=VW) (λd a=>⟨(f d a).2.2.2.1,(f d a).2.1,(f d a).2.2.2.2.1,(f d a).2.2.2.2.2⟩) (λd n W W e c W=>q d n e c) (λd n W W e c W=>⟨n.slots,q d n e c⟩)
  (λd n W W s=>s) (λd n e c=>⟨n,q d n e c⟩) (λd n W e c W=>q d n e c) (λd U0 c=>c) (λd n J c=>c) (λd c=>⟨c,λa=>.of λn=>q d n a⟩) (λt o=>?_) (λg n c=>?_) l.bare
 ·let⟨n,T,@U9,r,j⟩:=o;exact⟨n,T,U9,q _ n (λk=>(f _ k).2.1 rfl) r,j⟩
 ·refine (l.aY g n c).eF (λd J a p=>q d J ?_ p) (λd p=>p) (λd U0 p=>p) λd n U0 p=>p;rcases a with k|k
  ·rw[k];exact i g n c
  ·exact i d _ k
end
section
variable{US:bC}{D:bc}{O:bw}{UH:ab->ai->Prop}{m:ai}
variable{a:Nat}{Vj:Array ab}{A:ab->ai->Prop}
def yE{af C:ah}{f:ab}(d:m.heap.IsTupleIter af C a)(bP:m.heap.IsTuple C Vj)(e:Vj[a]?=Z f)(p:∀S,S.IsTupleIter af C (a+1)->aZ.SameBut af m.heap S->A f {m with heap:=S}):wpAny (aR US D) O (br.SmallTypes.nextOf<|.ref af) A UH m:=by
 let⟨@n,c,g,b⟩:=id d;let⟨@ol,g1,W,⟨@We,h⟩⟩:=bP;unfold br.SmallTypes.nextOf;refine ao (lu (name:=aC.ofString "__next__") d.typeIs vb<|g7 vb d.typeIs A7 ?k<|CR _)
 case k=>
  show wpAny _ _ (me (.ref af) 0 >>= _) _ _ m;refine ao (gO c b (x:=.ref C) rfl ?_);show wpAny _ _ (if (ab.ref C==ab.none)=X then _ else _) _ _ m;rw[aL (show ¬ (ab.ref C==ab.none)=X by intro k;cases k)];show wpAny _ _ (me (.ref af) 1 >>= _) _ _ m;refine ao (gO c b (x:=.int a 0) rfl ?_);show wpAny _ _ (mF (.ref C) >>= _) _ _ m;refine ao (hE g1 h ?_);simp only[kY,e];refine ao (m8 c b ↥0 (aQ ⟨f,rfl,aQ (p _ ⟨_,l6 _ c<|AF<|pL b _,(w1 ..).trans g,by rw[pL b];simp[cP]⟩<|kQ ..)⟩))
def IL{af C:ah}(h:O.handled=Y)(b:m.heap.IsTupleIter af C a)(bP:m.heap.IsTuple C Vj)(i:Vj[a]?=Y)(p:∀S c,aZ.ExtBut af m.heap S->(∃n,S.get? c=Z n/\n.cls=.type "StopIteration")->UH (.ref c) {m with heap:=S}):wpAny (aR US D) O (br.SmallTypes.nextOf<|.ref af) A UH m:=by
 let⟨@n,d,l,e⟩:=id b;let⟨@ol,g1,W,⟨@We,j⟩⟩:=bP;unfold br.SmallTypes.nextOf;refine ao (lu (name:=aC.ofString "__next__") b.typeIs vb<|g7 vb b.typeIs A7 ?k<|CR _)
 case k=>
  show wpAny _ _ (me (.ref af) 0 >>= _) _ _ m;refine ao (gO d e (x:=.ref C) rfl ?_);show wpAny _ _ (if (ab.ref C==ab.none)=X then _ else _) _ _ m;rw[aL (show ¬ (ab.ref C==ab.none)=X by intro k;cases k)];show wpAny _ _ (me (.ref af) 1 >>= _) _ _ m;refine ao (gO d e (x:=.int a 0) rfl ?_);show wpAny _ _ (mF (.ref C) >>= _) _ _ m;refine ao (hE g1 j ?_);simp only[kY,i];refine ao (i_ (ao (m8 d e ↥0 ?_)));show wpAny _ _ (mG (.type "StopIteration") [] >>= _) _ _ _;apply ao;simp only[mG,r0];refine ao (gu (ao (m:=m6 _ _) (p9 (a:=ab.none) (by first|rfl|(simp only[m6];rfl)) (gu ?_ (by size_fits)))) (by size_fits));simp only[raiseNew];apply ao;apply uY;rw[show O.in1.handled=Y from h];refine ao (m:=pure _) (aQ<|u6 ?_);exact p _ _ (((kQ ..).extBut.push _).push _) ⟨_,cR _ rfl,rfl⟩
end
section
variable{US:bC}{D:bc}{O:bw}{UH:ab->ai->Prop}{m:ai}
variable{e S:aZ}{g:ah}
def iL{C:ah}{a:Nat}(f:e.IsTupleIter g C a)(q:∀n,e.get? g=Z n->S.get? g=Z n):S.IsTupleIter g C a:=let ⟨n,c,j⟩:=f;⟨n,q n c,j⟩
variable{E:Array ab}
def p8(f:e.IsTuple g E)(q:∀n,e.get? g=Z n->S.get? g=Z n):S.IsTuple g E:=let ⟨n,c,j⟩:=f;⟨n,q n c,j⟩
variable{g d:ab}{Vf Vt:Nat}{U0:Array ab}
def Si{k c1 dc b e p q:ah}{f x:ab}{A:ab->ai->Prop}(w:uE k c1 dc b e p q)(r:jr m.heap k c1 dc .none)(an:gK m.heap c1 (.ref b) (.ref e))(ap:gK m.heap dc g d)(y:m.heap.IsTupleIter b p Vf)(B:m.heap.IsTupleIter e q Vt)(as:m.heap.IsTuple p E)(a1:m.heap.IsTuple q U0)(a2:E[Vf]?=Z f)(bd:U0[Vt]?=Z x)(be:∀S,jr S k c1 dc (cP m.heap.objs.size)->gK S dc f x->S.IsTupleIter b p (Vf+1)->S.IsTupleIter e q (Vt+1)->gK S m.heap.objs.size f x->
   (∀o n,o≠k->o≠dc->o≠b->o≠e->m.heap.get? o=Z n->S.get? o=Z n)->A (.ref m.heap.objs.size) {m with heap:=S}):
  wpAny (aR US D) O (br.«zip.__next__» ⟨[.ref k],[]⟩) (λbi UI=>∃v,bi=.done (.ret v)/\A v UI) UH m:=by
 show wpAny _ _ (me (.ref k) 2 >>= _) _ _ _;refine ao (gO r rfl (x:=.bool av) rfl ?_);show wpAny _ _ (me (.ref k) 3 >>= _) _ _ _;refine ao (gO r rfl (x:=.ref c1) rfl<|ao<|hE an rfl ?_);show wpAny _ _ (br.SmallTypes.ownedTupleIsFree (.ref k) >>= _) _ _ _;apply ao;unfold br.SmallTypes.ownedTupleIsFree;refine ao (gO r rfl (x:=.none) rfl<|aQ ?_);simp only[iY];refine ao (i_ (ao (gO r rfl (x:=.ref dc) rfl (ao (jn r ↥0 λN G h=>?_)))));replace G:jr N k c1 dc .ellipsis:=G;apply ao;simp only[xk,Cv,AN,Dz];refine ao (ao<|wz ?_);show wpAny _ _ (br.SmallTypes.nextOf (.ref b) >>= _) _ _ _;refine ao (yE (m:={m with heap:=N}) (iL y λn c=>h.extBut _ n w.i1z c) (p8 as λn c=>h.extBut _ n w.l1z c) a2 λH VL j=>aQ ?_);have Vo:gK H dc g d:=j.extBut _ _ w.TOi1 (h.extBut _ _ w.TOz ap);refine ao (hE (s:={m with heap:=H}) Vo rfl<|ao<|xq (s:={m with heap:=H}) Vo λP Vu l=>?_);replace Vu:gK P dc f d:=Vu;refine ao (lP<|aQ<|ao<|ao<|wz ?_);show wpAny _ _ (br.SmallTypes.nextOf (.ref e) >>= _) _ _ _;refine ao (yE (m:={m with heap:=P}) (iL B λn c=>l.extBut _ n w.TOi2.symm<|j.extBut _ n w.i12.symm<|h.extBut _ n w.i2z c) (p8 a1 λn c=>l.extBut _ n w.l2TO<|j.extBut _ n w.l2i1<|h.extBut _ n w.l2z c) bd λI bm s=>aQ ?_);have VE:gK I dc f d:=s.extBut _ _ w.TOi2 Vu;refine ao (hE (s:={m with heap:=I}) VE rfl<|ao<|xq (s:={m with heap:=I}) VE λa Vp t=>?_);replace Vp:gK a dc f x:=Vp;refine ao (lP<|aQ<|aQ<|ao<|hE (s:={m with heap:=a}) Vp rfl<|ao<|wo ?_);have Q:a.objs.size=m.heap.objs.size:=by rw[t.1,s.1,l.1,j.1,h.1]
 have R:jr a k c1 dc .ellipsis:=t.extBut _ _ w.TOz.symm (s.extBut _ _ w.i2z.symm<|l.extBut _ _ w.TOz.symm<|j.extBut _ _ w.i1z.symm G);have bn:∀o n,o≠k->o≠dc->o≠b->o≠e->m.heap.get? o=Z n->a.get? o=Z n:=λo n i u J L c=>t.extBut _ _ u (s.extBut _ _ L<|l.extBut _ _ u<|j.extBut _ _ J<|h.extBut _ _ i c);have c5:a.IsTupleIter b p (Vf+1):=iL VL λn c=>t.extBut _ n w.TOi1.symm (s.extBut _ n w.i12<|l.extBut _ n w.TOi1.symm c);have dM:a.IsTupleIter e q (Vt+1):=iL bm λn c=>t.extBut _ n w.TOi2.symm c;have T:k<a.objs.size:=bW R;show wpAny _ _ (br.SmallTypes.ownedTupleHandOut (.ref k) (.ref a.objs.size) >>= _) _ _ _;apply ao;unfold br.SmallTypes.ownedTupleHandOut;have bs:jr (a.push {cls:=.type "tuple",data:=.seq #[f,x]}) k c1 dc .ellipsis:=bT _ R;refine ao (jn bs ↥0 λbv M U=>?_);replace M:jr bv k c1 dc (cP a.objs.size):=M;refine jn M ↥0 λz C al=>?_;replace C:jr z k c1 dc (cP a.objs.size):=C;have F:∀o n,o≠k->a.get? o=Z n->z.get? o=Z n:=λo n i c=>al.extBut _ _ i (U.extBut _ _ i<|bT _ c);have am:gK z a.objs.size f x:=al.extBut _ _ (hi T) (U.extBut _ _ (hi T)<|cR _ rfl);rw[Q]at C am;refine aQ ⟨_,rfl,?_⟩;show A (.ref a.objs.size) _;rw[Q];exact be z C (F _ _ w.TOz Vp) (iL c5 λn c=>F _ n w.i1z c) (iL dM λn c=>F _ n w.i2z c) am λo n i u J L c=>F o n i (bn o n i u J L c)
def MA{k c1 dc j l v x:ah}{A:PySem.Fin->ai->Prop}(L:O.handled=Y)(w:uE k c1 dc j l v x)(q:jr m.heap k c1 dc .none)(U:gK m.heap c1 (.ref j) (.ref l))(al:gK m.heap dc g d)(y:m.heap.IsTupleIter j v Vf)(B:m.heap.IsTupleIter l x Vt)(M:m.heap.IsTuple v E)(am:m.heap.IsTuple x U0)(an:E[Vf]?=Y\/U0[Vt]?=Y)(N:∀S c,(∀o n,o≠k->o≠dc->o≠j->o≠l->m.heap.get? o=Z n->S.get? o=Z n)->(∃n,S.get? c=Z n/\n.cls=.type "StopIteration")->UH (.ref c) {m with heap:=S}):
  wpAny (aR US D) O (br.«zip.__next__» ⟨[.ref k],[]⟩) A UH m:=by
 show wpAny _ _ (me (.ref k) 2 >>= _) _ _ _;refine ao (gO q rfl (x:=.bool av) rfl ?_);show wpAny _ _ (me (.ref k) 3 >>= _) _ _ _;refine ao (gO q rfl (x:=.ref c1) rfl<|ao<|hE U rfl ?_);show wpAny _ _ (br.SmallTypes.ownedTupleIsFree (.ref k) >>= _) _ _ _;apply ao;unfold br.SmallTypes.ownedTupleIsFree;refine ao (gO q rfl (x:=.none) rfl<|aQ ?_);simp only[iY];refine ao (i_ (ao (gO q rfl (x:=.ref dc) rfl (ao (jn q ↥0 λz u a=>?_)))));replace u:jr z k c1 dc .ellipsis:=u;apply ao;simp only[xk,Cv,AN,Dz];refine ao (ao<|wz ?_);show wpAny _ _ (br.SmallTypes.nextOf (.ref j) >>= _) _ _ _;cases C:E[Vf]? with
 |none=>
  refine ao (IL (m:={m with heap:=z}) L (iL y λn c=>a.extBut _ n w.i1z c) (p8 M λn c=>a.extBut _ n w.l1z c) C λr c b F=>?_);let⟨@G,h,s⟩:=F;have P:jr r k c1 dc .ellipsis:=b _ _ w.i1z.symm u;have H:c≠k:=λp=>by subst p;rw[P]at h;cases h;simp at s
  refine jn P ↥0 λI W i=>N I c (λo n t W J W p=>i.extBut _ _ t<|b _ _ J<|a.extBut _ _ t p) ⟨G,i.extBut _ _ H h,s⟩
 |some f=>
  have ap:U0[Vt]?=Y:=by
   rcases an with e|e
   ·rw[C]at e;cases e
   ·exact e
  refine ao (yE (m:={m with heap:=z}) (iL y λn c=>a.extBut _ n w.i1z c) (p8 M λn c=>a.extBut _ n w.l1z c) C λr VL b=>aQ ?_);have Vo:gK r dc g d:=b.extBut _ _ w.TOi1 (a.extBut _ _ w.TOz al);refine ao (hE (s:={m with heap:=r}) Vo rfl<|ao<|xq (s:={m with heap:=r}) Vo λI Vu i=>?_);refine ao (lP<|aQ<|ao<|ao<|wz ?_);show wpAny _ _ (br.SmallTypes.nextOf (.ref l) >>= _) _ _ _;refine ao (IL (m:={m with heap:=I}) L (iL B λn c=>i.extBut _ n w.TOi2.symm<|b.extBut _ n w.i12.symm<|a.extBut _ n w.i2z c) (p8 am λn c=>i.extBut _ n w.l2TO<|b.extBut _ n w.l2i1<|a.extBut _ n w.l2z c) ap λas c Q F=>?_);let⟨@G,h,s⟩:=F;have R:jr as k c1 dc .ellipsis:=Q _ _ w.i2z.symm (i.extBut _ _ w.TOz.symm<|b.extBut _ _ w.i1z.symm u);have H:c≠k:=λp=>by subst p;rw[R]at h;cases h;simp at s
  refine jn R ↥0 λa1 W T=>N a1 c (λo n t a2 J bd p=>T.extBut _ _ t<|Q _ _ bd<|i.extBut _ _ a2<|b.extBut _ _ J<|a.extBut _ _ t p) ⟨G,T.extBut _ _ H h,s⟩
end
variable{m:ai}{VA:bU}{Vh VK Vg:List Nat}{own U1:List aC}{VQ Ve o c d g:bh}{VY:List cM}{UH:oS}{L:cM}{Wb z:a7}{fd:gG}{s V9:Nat}{U E:List ak}{H:List V}{aN Vx O UG G U3 Vm UU P:List ah}{A:cL}{f:aC}{j T:List bh}{Vd:ea}{b:aO}{U6 UP Q h:ax}{v:ak}{u UZ:Pos}{UK:Φ}
def j5(e:aZ)(a b:ah):aZ:=(((((e.push {cls:=.type "tuple_iterator",data:=.fields #[.ref a,.int 0 0]}).push {cls:=.type "tuple_iterator",data:=.fields #[.ref b,.int 0 0]}).push
 {cls:=.type "tuple",data:=.seq #[.ref e.objs.size,.ref (e.push {cls:=.type "tuple_iterator",data:=.fields #[.ref a,.int 0 0]}).objs.size]}).push {cls:=.type "tuple",data:=.seq #[.none,.none]}))
def RA(a b:ah)(E U0:Array ab):
    Meets (br.«zip.__new__» ⟨[.type "zip", .ref a,.ref b],[]⟩) (λ_ UG m => m.heap.IsTuple a E /\ m.heap.IsTuple b U0 /\
      UG (.ok<|.ret<|.ref (j5 m.heap a b).objs.size) {m with heap:=(j5 m.heap a b).push {cls:=.type "zip", data:=.fields #[.none,.bool av,.bool av,.ref ((m.heap.push {cls:=.type "tuple_iterator", data:=.fields #[.ref a,.int 0 0]}).push {cls:=.type "tuple_iterator", data:=.fields #[.ref b,.int 0 0]}).objs.size,
        .ref (((m.heap.push {cls:=.type "tuple_iterator", data:=.fields #[.ref a,.int 0 0]}).push {cls:=.type "tuple_iterator", data:=.fields #[.ref b,.int 0 0]}).push
  {cls:=.type "tuple", data:=.seq #[.ref m.heap.objs.size,.ref (m.heap.push {cls:=.type "tuple_iterator", data:=.fields #[.ref a,.int 0 0]}).objs.size]}).objs.size]} }) :=
  .of_wp λUS D O UG m e => by
    let⟨d,F,r,Vq,U5⟩:=m;let@⟨f,g,e⟩:=e;have j:=sub_zip;have h:aZ.IsTuple (ai.heap ⟨d,F,r,Vq,U5⟩) a E:=f;have i:aZ.IsTuple (ai.heap ⟨d.push {cls:=.type "tuple_iterator", data:=.fields #[.ref a,.int 0 0]}, F,r,Vq,U5⟩) b U0:=p8 g λn c => bT _ c
    wp_walk using wpAny_pyIter_tuple h,wpAny_pyIter_tuple i
    exact ⟨_,rfl,e⟩
def uN(UK:Φ)(g d:ah):ig:=(
 ⟨λa h=>∃E U0 f x,cC UK h g E/\cC UK h d U0/\E[a]?=Z f/\U0[a]?=Z x,
  λa h v Q=>∃UO f x,h UO=Y/\v=.ref UO/\Q=upd h UO (.tup [f,x])/\(∀E,cC UK h g E->E[a]?=Z f)/\(∀U0,cC UK h d U0->U0[a]?=Z x),
  λa h=>∃E U0,cC UK h g E/\cC UK h d U0/\(E.length<=a\/U0.length<=a)⟩)
def F8(g d k c1 dc b c:ah)(a:Nat)(e:aZ):Prop:=(jr e k c1 dc .none/\gK e c1 (.ref b) (.ref c)/\(∃u p,gK e dc u p)/\e.IsTupleIter b g a/\e.IsTupleIter c d a)
theorem Pz{UT:bC}{D:bc}(g d k c1 dc s t:ah)(w:uE k c1 dc s t g d):
  oF UT D UK (.Tuple T V9 UZ) (uN UK g d) [k,c1,dc,s,t] k (F8 g d k c1 dc s t) where
 mem:=by simp
 obj:=λa e L o i=>by
  let@⟨y,B,⟨u,@p,r⟩,⟨@VE,U,_,bs⟩,⟨@Vp,al,_,bv⟩⟩:=L;simp only[b9,qz,lH]at i;rcases i with rfl|rfl|rfl|rfl|rfl
  ·exact⟨_,y,λv c=>by cases c⟩
  ·exact⟨_,B,λv c=>by cases c⟩
  ·exact⟨_,r,λv c=>by cases c⟩
  ·exact⟨_,U,λv c=>by rw[bs]at c;cases c⟩
  ·exact⟨_,al,λv c=>by rw[bv]at c;cases c⟩
 keep:=λa e S L q=>by
  let@⟨y,B,⟨u,@p,r⟩,C,F⟩:=L;exact⟨q k ↥0 _ y,q c1 ↥0 _ B,⟨u,p,q dc ↥0 _ r⟩,iL C λn c=>q s ↥0 n c,iL F λn c=>q t ↥0 n c⟩
 item:=by
  intro b am an ap i a R m z h UH l I L as;subst am an ap;let⟨E,U0,f,@x,M,N,be,bi⟩:=as;let⟨@UW,a1,u,G⟩:=l.tuple M;let⟨@a2,bd,VI,ca⟩:=l.tuple N;let⟨@J,cd,ce⟩:=a1.get be;let⟨@bm,ch,ci⟩:=bd.get bi;have cl:=L;let@⟨y,B,⟨bX,@ke,r⟩,C,F⟩:=L;have H:m.TypeIs (.ref k) "zip" := ⟨_,y,rfl⟩;unfold fb;refine ao (lC (lu (name:=aC.ofString "__next__") H uT (g7 uT H D_
   (Si (A:=λv UI=>wpAny (aR b.prog b.w) b.A (pure<|Z v) (λj co=>∃J,j=Z J/\wpAny (aR b.prog b.w) b.A (sq (.Tuple T V9 UZ) (.ref k) J) (λ_ bn=>∃f Q,aF b R z Q bn/\bY f J/\(uN b.K g d).rP a h f Q/\F8 g d k c1 dc s t (a+1) bn.heap/\∀d∈[k,c1,dc,s,t],Q d=Y) UH co) UH UI)
    w y B r C F (show m.heap.IsTuple g UW.toArray from u) (show m.heap.IsTuple d a2.toArray from VI) (f:=J) (x:=bm) ⇑cd ⇑ch λS cr cs db ds dL P=>aQ ⟨_,rfl,?_⟩) (DS _))));refine wpAny_letOwnedTupleGo_zip cr λeq ev cz=>?_;have lt:∀o∈[k,c1,dc,s,t],o<m.heap.objs.size:=λo i=>by
   let@⟨y,B,⟨u,@p,r⟩,⟨@VE,U,_⟩,⟨@Vp,al,_⟩⟩:=cl;simp only[b9,qz,lH]at i;rcases i with rfl|rfl|rfl|rfl|rfl
   ·exact bW y
   ·exact bW B
   ·exact bW r
   ·exact bW U
   ·exact bW al
  have dE:∀o n,o∉[k,c1,dc,s,t]->m.heap.get? o=Z n->eq.get? o=Z n:=λo n i c=>by
   simp only[b9,qz,lH,not_or]at i;exact cz.extBut _ _ i.1 (P o n i.1 i.2.2.1 i.2.2.2.1 i.2.2.2.2 c)
  have ex:m.heap.objs.size≠k:=hi (lt k ↥0);have fd:h m.heap.objs.size=Y:=l.aY.fresh (bb _);refine⟨.ref m.heap.objs.size,upd h m.heap.objs.size<|.tup [f,x],l.Ft (Vd:=m.toks) I dE (bb _) ⟨by show 2<=sizeLine;decide,[J,bm],.cons ce<|.cons ci .nil,?_⟩,rfl,⟨_,f,x,fd,rfl,rfl,λVG G=>?_,λVG G=>?_⟩,?_,λo i=>?_⟩
  ·exact⟨_,cz.extBut _ _ ex dL,rfl,0,rfl⟩
  ·rw[l.zt G M];exact be
  ·rw[l.zt G N];exact bi
  ·exact⟨ev,cz.extBut _ _ w.TIz<|P _ _ w.TIz w.TITO w.TIi1 w.TIi2 B,⟨_,_,cz.extBut _ _ w.TOz cs⟩,iL db λn c=>cz.extBut _ n w.i1z c,iL ds λn c=>cz.extBut _ n w.i2z c⟩
  ·rw[b0 (cT<|lt o i)];exact (I o i).1
 done:=by
  intro b am an ap i a R m z h UH l I L as;subst am an ap;let⟨E,@U0,M,N,fn⟩:=as;let⟨@UW,a1,u,G⟩:=l.tuple M;let⟨@a2,bd,VI,ca⟩:=l.tuple N;let@⟨y,B,⟨bX,@ke,r⟩,C,F⟩:=L;have H:m.TypeIs (.ref k) "zip" := ⟨_,y,rfl⟩;have f1:=a1.length;have f2:=bd.length;unfold fb;refine ao (lC (lu (name:=aC.ofString "__next__") H uT (g7 uT H D_
   (MA (l.ok.hd i) w y B r C F (show m.heap.IsTuple g UW.toArray from u) (show m.heap.IsTuple d a2.toArray from VI) (by
    rcases fn with e|e
    ·exact .inl (by simp;lia)
    ·exact .inr (by simp;lia)) λS c P ⟨n,fr,f0⟩=>?_) (DS _))))
  refine ao (oT (T := "StopIteration") (b:=X) ⟨n,fr,f0⟩ t7<|aQ ⟨rfl,l.E2 (Vd:=m.toks) I λo n i c=>?_⟩);simp only[b9,qz,lH,not_or]at i;exact P o n i.1 i.2.2.1 i.2.2.2.1 i.2.2.2.2 c
 self:=λ_ W W W W L e=>Er L.1 e
section
variable{b:aO}
def JX(UK:Φ)(VC:eZ):c1:=(λz h UG=>VC z h λU UP=>∃g d,U=[.ref g,.ref d]/\(∃E,cC UK UP g E)/\(∃U0,cC UK UP d U0)/\UG (uN UK g d) UP)
def SK{VC:eZ}{U1:Pos}(H:eM b "zip")(I:b.aM "zip" = Y)(J:hz b [g,d] VC)(ar:bS [g,d] b.env=[(av,b7 g b.env),(av,b7 d b.env)]:=by rfl)(v:bS [d] b.env=[(av,b7 d b.env)]:=by rfl):
  jb b (.Tuple T V9 U1) (.Call (.Name "zip" u) [g,d] [] UZ) (JX b.K VC):=by
 intro R m z h UG l e;refine Call_ (m3 l H I boot_zip (uA (bZ (J UZ R m z h _ l e) λVa a ⟨U,UP,k,L,M⟩=>?_) (by rw[ar,v]) (by rw[v];rfl)));let⟨f,@i,c,⟨@E,N⟩,⟨@U0,O⟩,p⟩:=M;subst c;cases L with
 |cons j s=>
  cases s with
  |cons VA s=>
   cases s;cases j;cases VA;let⟨@UW,an,u,ap⟩:=k.tuple N;let⟨@Q,as,VI,a1⟩:=k.tuple O;have S:f<a.heap.objs.size:=by let⟨@n,c,P⟩:=u;exact bW c
   have al:i<a.heap.objs.size:=by let⟨@n,c,P⟩:=VI;exact bW c
   refine callType_new F.called_zip ∅ (F.typeCall_zip_2 _ _) (F.newCall_zip_2 _ _) (λam=>F.args_object_init_3 am _ _) F.entry_zip_new (RA f i UW.toArray Q.toArray) ⟨u,VI,?_⟩;have t:(a.heap.push {cls:=.type "tuple_iterator",data:=.fields #[.ref f,.int 0 0]}).objs.size=a.heap.objs.size+1:=hD ..;have q:((a.heap.push {cls:=.type "tuple_iterator",data:=.fields #[.ref f,.int 0 0]}).push {cls:=.type "tuple_iterator",data:=.fields #[.ref i,.int 0 0]}).objs.size=a.heap.objs.size+2:=by rw[hD,t]
   have r:(((a.heap.push {cls:=.type "tuple_iterator",data:=.fields #[.ref f,.int 0 0]}).push {cls:=.type "tuple_iterator",data:=.fields #[.ref i,.int 0 0]}).push
    {cls:=.type "tuple",data:=.seq #[.ref a.heap.objs.size,.ref (a.heap.push {cls:=.type "tuple_iterator",data:=.fields #[.ref f,.int 0 0]}).objs.size]}).objs.size=a.heap.objs.size+3:=by rw[hD,q]
   have x:(j5 a.heap f i).objs.size=a.heap.objs.size+4:=by unfold j5;rw[hD,r]
   show _/\_;refine⟨⟨_,cR _ rfl,rfl⟩,Er (TI:=a.heap.objs.size+2) (TO:=a.heap.objs.size+3) (f0:=.none) ?_ ?_⟩
   ·rw[q,r];exact cR _ rfl
   ·rw[q,r,x];have y:((j5 a.heap f i).push {cls:=.type "zip",data:=.fields #[.none,.bool av,.bool av,.ref<|a.heap.objs.size+2,.ref<|a.heap.objs.size+3]}).get? (a.heap.objs.size+4)=Z {cls:=.type "zip",data:=.fields #[.none,.bool av,.bool av,.ref<|a.heap.objs.size+2,.ref<|a.heap.objs.size+3]}:=by rw[<-x];exact cR _ rfl
    have A:((j5 a.heap f i).push {cls:=.type "zip",data:=.fields #[.none,.bool av,.bool av,.ref<|a.heap.objs.size+2,.ref<|a.heap.objs.size+3]}).get? (a.heap.objs.size+3)=Z {cls:=.type "tuple",data:=.seq #[.none,.none]}:=by
     rw[<-r];exact bT _ (cR _ rfl)
    have B:((j5 a.heap f i).push {cls:=.type "zip",data:=.fields #[.none,.bool av,.bool av,.ref<|a.heap.objs.size+2,.ref<|a.heap.objs.size+3]}).get? (a.heap.objs.size+2)=Z {cls:=.type "tuple",data:=.seq #[.ref a.heap.objs.size,.ref<|a.heap.objs.size+1]}:=by
     rw[<-q,<-t];exact bT _ (bT _<|cR _ rfl)
    have C:((j5 a.heap f i).push {cls:=.type "zip",data:=.fields #[.none,.bool av,.bool av,.ref<|a.heap.objs.size+2,.ref<|a.heap.objs.size+3]}).get? (a.heap.objs.size+1)=Z {cls:=.type "tuple_iterator",data:=.fields #[.ref i,.int 0 0]}:=by
     rw[<-t];exact bT _ (bT _<|bT _<|cR _ rfl)
    have D:((j5 a.heap f i).push {cls:=.type "zip",data:=.fields #[.none,.bool av,.bool av,.ref<|a.heap.objs.size+2,.ref<|a.heap.objs.size+3]}).get? a.heap.objs.size=Z {cls:=.type "tuple_iterator",data:=.fields #[.ref f,.int 0 0]}:=
     bT _ (bT _<|bT _<|bT _<|cR _ rfl);have dE:∀o n,a.heap.get? o=Z n->((j5 a.heap f i).push {cls:=.type "zip",data:=.fields #[.none,.bool av,.bool av,.ref<|a.heap.objs.size+2,.ref<|a.heap.objs.size+3]}).get? o=Z n:=λo n c=>
     bT _ (bT _<|bT _<|bT _<|bT _ c);generalize ((j5 a.heap f i).push {cls:=.type "zip",data:=.fields #[.none,.bool av,.bool av,.ref<|a.heap.objs.size+2,.ref<|a.heap.objs.size+3]})=a2 at D C B A y dE ⊢;have w:uE (a.heap.objs.size+4) (a.heap.objs.size+2) (a.heap.objs.size+3) a.heap.objs.size (a.heap.objs.size+1) f i:=PySem.W.ktu_apart _ _ _ S al;refine⟨_,_,_,_,UP,rfl,k.kept (Vd:=a.toks) dE,Pz f i _ _ _ _ _ w,⟨y,B,⟨_,_,A⟩,⟨_,D,rfl,rfl⟩,⟨_,C,rfl,rfl⟩⟩,λo G=>?_,p⟩;have:a.heap.objs.size<=o:=by
     simp only[b9,qz,lH]at G;rcases G with rfl|rfl|rfl|rfl|rfl
     ·exact mQ _ _
     ·exact mQ _ _
     ·exact mQ _ _
     ·exact bb _
     ·exact mQ _ _
    exact k.qc this (k.aY.fresh this)
end
def Fd(UK:Φ)(h:ax)(f:ak)(UO:String)(d:Bool):Prop:=(
 (∃a,f=.int a/\((UO = "int" /\ d=X)\/(UO = "tuple" /\ d=av)\/(UO = "str" /\ d=av)\/(UO = "bool" /\ d=av)\/(UO = "list" /\ d=av)))\/
 (∃a,f=.aE a/\((UO = "bool" /\ d=X)\/(UO = "int" /\ d=X)\/(UO = "tuple" /\ d=av)\/(UO = "str" /\ d=av)\/(UO = "list" /\ d=av)))\/
 (∃a,f=.str a/\((UO = "str" /\ d=X)\/(UO = "int" /\ d=av)\/(UO = "tuple" /\ d=av)\/(UO = "bool" /\ d=av)\/(UO = "list" /\ d=av)))\/
 (∃g E,f=.ref g/\cC UK h g E/\((UO = "tuple" /\ d=X)\/(UO = "int" /\ d=av)\/(UO = "str" /\ d=av)\/(UO = "bool" /\ d=av)\/(UO = "list" /\ d=av)))\/
 (∃g E,f=.ref g/\c9 UK h g E/\((UO = "list" /\ d=X)\/(UO = "int" /\ d=av)\/(UO = "str" /\ d=av)\/(UO = "bool" /\ d=av)\/(UO = "tuple" /\ d=av))))
section
variable{b:aO}
def NM:eR b (.builtin "isinstance") (λE h A=>∃f UO d,E=[f,.ty UO]/\Fd b.K h f UO d/\A (.aE d) h):=by
 intro R m z h E Va A l j e;let⟨f,UO,@d,rfl,UN,p⟩:=e;cases j with
 |cons j o=>
  cases o with
  |cons VA o=>
   cases o;cases VA;have VS:∀{d:Bool},A (.aE d) h->ec b R z A (.bool d) m:=λ{d} p=>⟨.aE d,h,l,rfl,p⟩;have c:∀{d:Bool},A (.aE d) h->ec b R z A (.bool d) {m with toks:=m.toks+1}:=λ{d} p=>⟨.aE d,h,l.tok _,rfl,p⟩;rcases UN with ⟨a,rfl,UN⟩|⟨a,rfl,UN⟩|⟨a,rfl,UN⟩|⟨g,E,rfl,ar,UN⟩|⟨g,E,rfl,ar,UN⟩
   ·let⟨@C,rfl⟩:=j;rcases UN with ⟨rfl,rfl⟩|⟨rfl,rfl⟩|⟨rfl,rfl⟩|⟨rfl,rfl⟩|⟨rfl,rfl⟩
    ·exact IsiPair.int_int (VS p)
    ·exact IsiPair.int_tuple (c p)
    ·exact IsiPair.int_str (c p)
    ·exact IsiPair.int_bool (c p)
    ·exact IsiPair.int_list (c p)
   ·cases j;rcases UN with ⟨rfl,rfl⟩|⟨rfl,rfl⟩|⟨rfl,rfl⟩|⟨rfl,rfl⟩|⟨rfl,rfl⟩
    ·exact IsiPair.bool_bool (VS p)
    ·exact IsiPair.bool_int (VS p)
    ·exact IsiPair.bool_tuple (c p)
    ·exact IsiPair.bool_str (c p)
    ·exact IsiPair.bool_list (c p)
   ·let⟨@C,rfl⟩:=j;rcases UN with ⟨rfl,rfl⟩|⟨rfl,rfl⟩|⟨rfl,rfl⟩|⟨rfl,rfl⟩|⟨rfl,rfl⟩
    ·exact IsiPair.str_str (VS p)
    ·exact IsiPair.str_int (c p)
    ·exact IsiPair.str_tuple (c p)
    ·exact IsiPair.str_bool (c p)
    ·exact IsiPair.str_list (c p)
   ·cases j;let⟨@UW,q,⟨@n,i,k,W⟩,r⟩:=l.tuple ar;rcases UN with ⟨rfl,rfl⟩|⟨rfl,rfl⟩|⟨rfl,rfl⟩|⟨rfl,rfl⟩|⟨rfl,rfl⟩
    ·exact IsiPair.tuple_tuple i k (VS p)
    ·exact IsiPair.tuple_int i k (c p)
    ·exact IsiPair.tuple_str i k (c p)
    ·exact IsiPair.tuple_bool i k (c p)
    ·exact IsiPair.tuple_list i k (c p)
   ·cases j;let⟨@UW,q,u,r⟩:=l.list ar;let⟨@n,i,k,W⟩:=u.isList;rcases UN with ⟨rfl,rfl⟩|⟨rfl,rfl⟩|⟨rfl,rfl⟩|⟨rfl,rfl⟩|⟨rfl,rfl⟩
    ·exact IsiPair.list_list i k (VS p)
    ·exact IsiPair.list_int i k (c p)
    ·exact IsiPair.list_str i k (c p)
    ·exact IsiPair.list_bool i k (c p)
    ·exact IsiPair.list_tuple i k (c p)
def N3:∀{VB:List Bool}{Va:List ab},cp (VB.map ak.aE) Va->∀(a:Nat) (v:ab),Va[a]?=Z v->∃d,VB[a]?=Z d/\v=ab.bool d:=by
 intro VB Va j a v e;have b:=j.length;rw[bl]at b;have UN:a<VB.length:=by rw[b];exact (eV.mp e).1
 let⟨@J,c,g⟩:=j.get (a:=a) (f:=ak.aE VB[a]) (by simp[UN]);rw[e]at c;cases c;exact⟨VB[a],by simp[UN],g⟩
def Sd(n:b.calm=X):eR b (.builtin "all") (λE h A=>∃I VB,E=[.ref I]/\h I=Z (.lst<|List.map ak.aE VB)/\A (.aE<|VB.all id) h):=by
 intro R m z h E Va A l j e;let⟨I,@VB,rfl,o,p⟩:=e;let⟨@J,rfl,q⟩:=iM j;cases q;let@⟨k,⟨UW,@s,f,c⟩⟩:=l.aY I _ o;have g:m.heap.IsList I UW.toArray:=⟨_,c,rfl,s,rfl⟩;refine call_all_walk (Di g ⟨m.heap.objs.size,[m.heap.objs.size,I],[m.heap.objs.size],UW.toArray.size,_,_,λa=>(VB[a]?).getD X,rfl,kU.list (A:=b.A.in1) (l.ok.hd n) _ I (cT<|bW c) UW.toArray,
  ⟨⟨_,cR _ rfl,rfl,rfl⟩,g.push _⟩,λa v UI x y r i=>?_,λS Vq t=>?_⟩)
 ·let⟨@d,u,rfl⟩:=N3 f a v ⇑r;simp only[u,uL]at i;exact mn i
 ·have w:UW.toArray.size=VB.length:=by
   have:=f.length;rw[bl]at this;rw[cJ,this]
  rw[w,LSm.range_all];exact⟨.aE _,h,l.kept<|LSm.kept_iter t,rfl,p⟩
def SG:dH b (gi .Mult) (pX IntMulOk λa i=>.int<|a*i):=wq λ_ W W W W W W c p=>mul_int p c
end
inductive ag where
 | im (r:V)
 | cQ
 | c2 (H:List V)
 | lst (H:List V)
 | dn (UX:List (ew×V))
 | aJ (UX:List (List V×V))
 | dY (E:List ag)
 | ej (E:List ag)
 | e_ (UX:List (List V×V))
 | dL (UX:List (List V×List V))
variable{Vw:List ag->Option ag}{N:ag->ag->Option ag}{n:Option ag}{r:ag}
abbrev a4:=List (Option ag)
variable{U4 w:a4}{e:List ag->a4->Option a4}
abbrev eL{U7:Type}(h:ax):List (U7×V)->List (U7×ak)->Prop:=eg λu p=>u.1=p.1/\cf h u.2 p.2
def eL.mono{U7:Type}{I:List (U7×V)}{t:List (U7×ak)}(C:mq h Q)(e:eL h I t):eL Q I t:=eg.uh e λ_ W k=>⟨k.1,k.2.mono C⟩
structure e2(h Q:ax):Prop where
 tup:mq h Q
 b6:∀g n J,h g=Z (.b6 n J)->Q g=Z (.b6 n J)
def lU(h:ax):List (List V×List V)->List (List V×ak)->List ah->Prop
 |[],a,UU=>a=[]/\UU=[]
 |u::j,a,UU=>∃d E D b,a=(u.1,.ref d)::D/\h d=Z (.lst E)/\bI h u.2 E/\lU h j D b/\UU=d::b
theorem lU.mono{h Q:ax}(C:e2 h Q):∀{I:List (List V×List V)}{a:List (List V×ak)}{UU:List ah},lU h I a UU->(∀g∈UU,∀n,h g=Z n->Q g=Z n)->lU Q I a UU
 |[],_,_,e,_=>e
 |u::j,a,UU,e,q=>by
  let⟨d,E,D,@b,c,y,B,f,rfl⟩:=e;exact⟨d,E,D,b,c,q d (.head _) _ y,B.mono C.tup,lU.mono C f λg i=>q g<|.tail _ i,rfl⟩
mutual
def b2(h:ax):ag->ak->List ah->Prop
 |.im r,v,P=>cf h r v/\P=[]
 |.cQ,_,P=>P=[]
 |.c2 H,v,P=>∃g E n,v=.ref g/\h g=Z (.b6 n<|.lst E)/\bI h H E/\P=[]
 |.lst H,v,P=>∃g E,v=.ref g/\h g=Z (.lst E)/\bI h H E/\P=[g]
 |.dn UX,v,P=>∃g i,v=.ref g/\h g=Z (.dn i)/\eL h UX i/\P=[g]
 |.aJ UX,v,P=>∃g i,v=.ref g/\h g=Z (.aJ i)/\eL h UX i/\P=[g]
 |.dY H,v,P=>∃g E UU,v=.ref g/\h g=Z (.lst E)/\c0 h H E UU/\P=g::UU
 |.ej H,v,P=>∃g E,v=.ref g/\h g=Z (.tup E)/\c0 h H E P
 |.e_ UX,v,P=>∃g i n,v=.ref g/\h g=Z (.b6 n<|.aJ i)/\eL h UX i/\P=[]
 |.dL UX,v,P=>∃g i UU,v=.ref g/\h g=Z (.aJ i)/\lU h UX i UU/\P=g::UU
def c0(h:ax):List ag->List ak->List ah->Prop
 |[],U,P=>U=[]/\P=[]
 |r::H,U,P=>∃v j U3 G,U=v::j/\b2 h r v U3/\c0 h H j G/\P=U3++G
end
mutual
theorem b2.mono{h Q:ax}(C:e2 h Q):∀{r:ag}{v:ak}{P:List ah},b2 h r v P->(∀g∈P,∀n,h g=Z n->Q g=Z n)->b2 Q r v P
 |.im r,v,P,e,_=>⟨e.1.mono C.tup,e.2⟩
 |.cQ,v,P,e,_=>e
 |.c2 H,v,P,e,_=>by
  let⟨g,E,@n,rfl,y,B,rfl⟩:=e;exact⟨g,E,n,rfl,C.b6 _ _ _ y,B.mono C.tup,rfl⟩
 |.lst H,v,P,e,q=>by
  let⟨g,@E,rfl,y,B,rfl⟩:=e;exact⟨g,E,rfl,q g (.head _) _ y,B.mono C.tup,rfl⟩
 |.dn UX,v,P,e,q=>by
  let⟨g,@E,rfl,y,B,rfl⟩:=e;exact⟨g,E,rfl,q g (.head _) _ y,B.mono C.tup,rfl⟩
 |.aJ UX,v,P,e,q=>by
  let⟨g,@E,rfl,y,B,rfl⟩:=e;exact⟨g,E,rfl,q g (.head _) _ y,B.mono C.tup,rfl⟩
 |.dY H,v,P,e,q=>by
  let⟨g,E,@UU,rfl,y,B,rfl⟩:=e;exact⟨g,E,UU,rfl,q g (.head _) _ y,c0.mono C B λd a=>q d<|.tail _ a,rfl⟩
 |.ej H,v,P,e,q=>by
  let⟨g,@E,rfl,y,B⟩:=e;exact⟨g,E,rfl,C.tup g E y,c0.mono C B q⟩
 |.e_ UX,v,P,e,_=>by
  let⟨g,E,@n,rfl,y,B,rfl⟩:=e;exact⟨g,E,n,rfl,C.b6 _ _ _ y,B.mono C.tup,rfl⟩
 |.dL UX,v,P,e,q=>by
  let⟨g,i,@UU,rfl,y,B,rfl⟩:=e;exact⟨g,i,UU,rfl,q g (.head _) _ y,B.mono C λd a=>q d<|.tail _ a,rfl⟩
theorem c0.mono{h Q:ax}(C:e2 h Q):∀{H:List ag}{U:List ak}{P:List ah},c0 h H U P->(∀g∈P,∀n,h g=Z n->Q g=Z n)->c0 Q H U P
 |[],U,P,e,_=>e
 |r::H,U,P,e,q=>by
  let⟨v,j,U3,@G,rfl,y,B,rfl⟩:=e;exact⟨v,j,U3,G,rfl,b2.mono C y λg a=>q g<|fl _ a,c0.mono C B λg a=>q g<|dT _ a,rfl⟩
end
def fZ(h:ax)(g:ah):Prop:=(∃n,h g=Z n/\(∀E,n≠.tup E)/\∀u J,n≠.b6 u J)
theorem lU.chg{h:ax}:∀{I:List (List V×List V)}{b:List (List V×ak)}{UU:List ah},lU h I b UU->∀g∈UU,fZ h g
 |[],_,UU,e,g,a=>by rw[e.2]at a;cases a
 |u::j,b,UU,e,g,a=>by
  let⟨d,E,D,@i,c,y,B,f,rfl⟩:=e;rcases b9.mp a with rfl|a
  ·exact⟨_,y,(λ_ c=>by cases c),(λ_ W c=>by cases c)⟩
  ·exact lU.chg f g a
mutual
theorem b2.chg{h:ax}:∀{r:ag}{v:ak}{P:List ah},b2 h r v P->∀g∈P,fZ h g
 |.im r,v,P,e,g,b=>by rw[e.2]at b;cases b
 |.cQ,v,P,e,g,b=>by rw[show P=[] from e]at b;cases b
 |.c2 H,v,P,e,d,a=>by
  let⟨g,E,@n,rfl,y,B,rfl⟩:=e;cases a
 |.lst H,v,P,e,d,a=>by
  let⟨g,@E,rfl,y,B,rfl⟩:=e;rw[cN.mp a];exact⟨_,y,(λ_ c=>by cases c),(λ_ W c=>by cases c)⟩
 |.dn UX,v,P,e,d,a=>by
  let⟨g,@E,rfl,y,B,rfl⟩:=e;rw[cN.mp a];exact⟨_,y,(λ_ c=>by cases c),(λ_ W c=>by cases c)⟩
 |.aJ UX,v,P,e,d,a=>by
  let⟨g,@E,rfl,y,B,rfl⟩:=e;rw[cN.mp a];exact⟨_,y,(λ_ c=>by cases c),(λ_ W c=>by cases c)⟩
 |.dY H,v,P,e,d,a=>by
  let⟨g,E,@UU,rfl,y,B,rfl⟩:=e;rcases b9.mp a with rfl|a
  ·exact⟨_,y,(λ_ c=>by cases c),(λ_ W c=>by cases c)⟩
  ·exact c0.chg B d a
 |.ej H,v,P,e,d,a=>by
  let⟨g,@E,rfl,y,B⟩:=e;exact c0.chg B d a
 |.e_ UX,v,P,e,d,a=>by
  let⟨g,E,@n,rfl,y,B,rfl⟩:=e;cases a
 |.dL UX,v,P,e,d,a=>by
  let⟨g,i,@UU,rfl,y,B,rfl⟩:=e;rcases b9.mp a with rfl|a
  ·exact⟨_,y,(λ_ c=>by cases c),(λ_ W c=>by cases c)⟩
  ·exact B.chg d a
theorem c0.chg{h:ax}:∀{H:List ag}{U:List ak}{P:List ah},c0 h H U P->∀g∈P,fZ h g
 |[],U,P,e,g,a=>by rw[e.2]at a;cases a
 |r::H,U,P,e,g,a=>by
  let⟨v,j,U3,@G,rfl,y,B,rfl⟩:=e;rcases ed.mp a with a|a
  ·exact b2.chg y g a
  ·exact c0.chg B g a
end
theorem c0.length:∀{H:List ag}{U:List ak}{P:List ah},c0 h H U P->H.length=U.length
 |[],U,P,e=>by rw[e.1];rfl
 |r::H,U,P,e=>by
  let⟨v,j,U3,@G,rfl,y,B,rfl⟩:=e;rw[dz,dz,B.length]
theorem bI.length:∀{H:List V}{U:List ak},bI h H U->H.length=U.length
 |[],U,e=>by rw[show U=[] from e];rfl
 |r::H,U,e=>by
  let⟨v,@j,rfl,y,B⟩:=e;rw[dz,dz,B.length]
def nk(h:ax):Option ag->Option ak->List ah->Prop
 |none,_,P=>P=[]
 |some r,f,P=>∃v,f=Z v/\b2 h r v P
def bx(h:ax):a4->a7->List ah->Prop
 |[],z,P=>z=[]/\P=[]
 |n::w,z,P=>∃f j U3 G,z=f::j/\nk h n f U3/\bx h w j G/\P=U3++G
structure a9(h:ax)(P:List ah)(Q:ax)(Vm:List ah):Prop where
 keep:∀g n,h g=Z n->g∉P->Q g=Z n
 sub:∀g∈Vm,g∈P\/h g=Y
 aj:Vm.Nodup
 tup:e2 h Q
 grow:∀g n,h g=Z n->∃Vk,Q g=Z Vk
theorem nk.mono(C:e2 h Q):∀{n:Option ag}{f:Option ak}{P:List ah},nk h n f P->(∀g∈P,∀n,h g=Z n->Q g=Z n)->nk Q n f P
 |none,_,_,e,_=>e
 |some r,f,P,e,q=>by
  let⟨@v,rfl,e⟩:=e;exact⟨v,rfl,e.mono C q⟩
theorem bx.mono{h Q:ax}(C:e2 h Q):∀{w:a4}{z:a7}{P:List ah},bx h w z P->(∀g∈P,∀n,h g=Z n->Q g=Z n)->bx Q w z P
 |[],z,P,e,_=>e
 |n::w,z,P,e,q=>by
  let⟨f,j,U3,@G,rfl,y,B,rfl⟩:=e;exact⟨f,j,U3,G,rfl,y.mono C λg a=>q g<|fl _ a,bx.mono C B λg a=>q g<|dT _ a,rfl⟩
theorem nk.chg:∀{n:Option ag}{f:Option ak}{P:List ah},nk h n f P->∀g∈P,fZ h g
 |none,_,P,e,g,a=>by rw[show P=[] from e]at a;cases a
 |some r,f,P,e,g,a=>by
  let⟨@v,rfl,e⟩:=e;exact e.chg g a
theorem bx.chg{h:ax}:∀{w:a4}{z:a7}{P:List ah},bx h w z P->∀g∈P,fZ h g
 |[],z,P,e,g,a=>by rw[e.2]at a;cases a
 |n::w,z,P,e,g,a=>by
  let⟨f,j,U3,@G,rfl,y,B,rfl⟩:=e;rcases ed.mp a with a|a
  ·exact y.chg g a
  ·exact bx.chg B g a
theorem bx.len{h:ax}:∀{w:a4}{z:a7}{P:List ah},bx h w z P->w.length=z.length
 |[],z,P,e=>by rw[e.1];rfl
 |n::w,z,P,e=>by
  let⟨f,j,U3,@G,rfl,y,B,rfl⟩:=e;rw[dz,dz,bx.len B]
def ag.c4:ag->Bool
 |.im _=>X
 |.c2 _=>X
 |.e_ _=>X
 |_=>av
def b2.c4(e:b2 h r v P)(o:r.c4=X):P=[]:=by
 cases r with
 |im r=>exact e.2
 |c2 H=>let⟨g,E,@n,rfl,y,B,rfl⟩:=e;rfl
 |e_ H=>let⟨g,E,@n,rfl,y,B,rfl⟩:=e;rfl
 |_=>cases o
theorem bx.out{h:ax}:∀{w:a4}{z:a7}{P:List ah}{a:Nat}{r:ag},bx h w z P->w[a]?=Z (Z r)->∃v U3 G,z[a]?=Z (Z v)/\b2 h r v U3/\bx h (w.set a<|Z .cQ) z G/\(G++U3).Perm P
 |[],z,P,a,r,e,c=>by simp at c
 |n::w,z,P,0,r,e,c=>by
  let⟨f,j,U3,@G,rfl,y,B,rfl⟩:=e;simp at c;subst c;let⟨@v,rfl,y⟩:=y;exact⟨v,U3,G,rfl,y,⟨Z v,j,[],G,rfl,⟨v,rfl,rfl⟩,B,rfl⟩,c8⟩
 |n::w,z,P,a+1,r,e,c=>by
  let⟨f,j,U3,@G,rfl,y,B,rfl⟩:=e;let⟨v,d,@b,g,i,k,l⟩:=bx.out (a:=a) B ⇑c;refine⟨v,d,U3++b,by simpa using g,i,⟨f,j,U3,b,rfl,y,k,rfl⟩,?_⟩;rw[bq];exact dO _ l
theorem bx.put{h:ax}:∀{w:a4}{z:a7}{P:List ah}{a:Nat}{r:ag}{v:ak}{UU:List ah},bx h w z P->b2 h r v UU->a<w.length->∃U3 G,bx h (w.set a<|Z r) (z.set a<|Z v) U3/\(U3++G).Perm (P++UU)
 |[],z,P,a,r,v,UU,e,D,I=>by simp at I
 |n::w,z,P,0,r,v,UU,e,D,I=>by
  let⟨f,j,U3,@G,rfl,y,B,rfl⟩:=e;refine⟨UU++G,U3,⟨Z v,j,UU,G,rfl,⟨v,rfl,D⟩,B,rfl⟩,?_⟩;refine c8.trans ?_;rw[bq];exact dO _ c8
 |n::w,z,P,a+1,r,v,UU,e,D,I=>by
  let⟨f,j,U3,@G,rfl,y,B,rfl⟩:=e;let⟨b,@c,d,g⟩:=bx.put (a:=a) B D ⇑I;refine⟨U3++b,c,⟨f,_,U3,b,rfl,y,d,rfl⟩,?_⟩;rw[bq,bq];exact dO _ g
def bx.c4{a:Nat}(e:bx h w z P)(c:w[a]?=Z (Z r))(o:r.c4=X):∃v,z[a]?=Z (Z v)/\b2 h r v []:=by
 let⟨v,U3,@G,d,b,W⟩:=e.out c;obtain rfl:=b.c4 o;exact⟨v,d,b⟩
def Kn{a:Nat}(e:z[a]?=Z (Z v)):z.set a (Z v)=z:=by
 refine qE λi=>?_;by_cases c:a=i
 ·subst c;rw[e,tU (eV.mp e).1]
 ·rw[ow c]
def bx.back{a:Nat}(e:bx h w z P)(D:b2 h r v UU)(b:z[a]?=Z (Z v)):∃U3 G,bx h (w.set a<|Z r) z U3/\(U3++G).Perm (P++UU):=by
 have I:a<w.length:=by rw[e.len];exact (eV.mp b).1
 let⟨U3,@G,y,B⟩:=e.put (a:=a) D I;rw[Kn b]at y;exact⟨U3,G,y,B⟩
def e2.of(N:rN h Q)(F:∀g n J,h g=Z (.b6 n J)->Q g=Z (.b6 n J)):e2 h Q:=⟨⟨N,F⟩,F⟩
def Sr(h:ax):e2 h h:=⟨⟨λ_ W c=>c,λ_ W W c=>c⟩,λ_ W W c=>c⟩
def e2.trans(g:e2 h UP)(d:e2 UP U6):e2 h U6:=⟨⟨λf E c=>d.tup.t f E<|g.tup.t f E c,λf n J c=>d.b6 f n J<|g.b6 f n J c⟩,λf n J c=>d.b6 f n J<|g.b6 f n J c⟩
def a9.refl(e:Vm.Nodup)(m:∀g∈Vm,g∈P):a9 h P h Vm:=⟨λ_ W c W=>c,λg a=>.inl<|m g a,e,Sr h,λ_ n c=>⟨n,c⟩⟩
def a9.perm(e:P.Nodup)(u:Vm.Perm P):a9 h P h Vm:=a9.refl ((u.nodup_iff).mpr e) λg a=>u.mem_iff.mp a
def a9.trans(g:a9 h P UP (U3++UG))(d:a9 UP U3 U6 G)(i:∀f∈UG,fZ UP f):a9 h P U6 (G++UG):=by
 have aj:=dR.mp g.aj;have j:∀f∈G,f∉UG:=λf a UQ=>by
  rcases d.sub f a with e|e
  ·exact aj.2.2 f e f UQ rfl
  ·let⟨@n,c,W⟩:=i f UQ;rw[c]at e;cases e
 refine⟨λf n c a=>?_,λf a=>?_,dR.mpr ⟨d.aj,aj.2.1,λf a x k c=>j f a<|c ▸ k⟩,g.tup.trans d.tup,λf n c=>let ⟨Vk,b⟩:=g.grow f n c;d.grow f Vk b⟩
 ·refine d.keep f n (g.keep f n c a) λy=>?_;rcases g.sub f (fl _ y) with e|e
  ·exact a e
  ·rw[c]at e;cases e
 ·rcases ed.mp a with a|a
  ·rcases d.sub f a with e|e
   ·exact g.sub f (fl _ e)
   ·refine .inr ?_;cases c:h f with
    |none=>rfl
    |some n=>
     let⟨@Vk,b⟩:=g.grow f n c;rw[b]at e;cases e
  ·exact g.sub f (dT _ a)
def bV.tupS(m:bV h Q):e2 h Q:=⟨⟨λg E c=>m g _ c,λg n J c=>m g _ c⟩,λg n J c=>m g _ c⟩
def PV{g d:ah}{n J:e1}(c:h d=Z n)(e:h g=Y):L2.upd h g J d=Z n:=by rw[b0 (fV c e)];exact c
def bV.upd(m:bV h Q){g:ah}{n:e1}(e:Q g=Y):bV h (L2.upd Q g n):=λd J c=>PV (m d J c) e
abbrev ay(U_:Type):=a4->Option (U_×a4)
variable{Wd:ay ag}{V1 q:ay Bool}
inductive bJ where
 | bF (a:Nat)
 | dv (r:ag)
variable{VH M:ay bJ}{F:ay (List bJ)}
def d7(w:a4):bJ->Option ag
 |.bF a=>(w[a]?).getD Y
 |.dv r=>Z r
def i3(h:ax)(z:a7):bJ->ak->List ah->Prop
 |.bF a,v,UG=>z[a]?=Z (Z v)/\UG=[]
 |.dv r,v,UG=>b2 h r v UG
def jF(F:ay ag):cb:=(λz h A=>∃w P j U4,bx h w z P/\P.Nodup/\F w=Z (j,U4)/\∀v Q Vm UG,bx Q U4 z Vm->b2 Q j v UG->a9 h P Q (Vm++UG)->A v Q)
def nh(F:ay bJ):cb:=(λz h A=>∃w P j U4,bx h w z P/\P.Nodup/\F w=Z (j,U4)/\∀v Q Vm UG,bx Q U4 z Vm->i3 Q z j v UG->a9 h P Q (Vm++UG)->A v Q)
def jz(F:ay Bool):ea:=(λz h A=>∃w P d U4,bx h w z P/\P.Nodup/\F w=Z (d,U4)/\∀Q Vm,bx Q U4 z Vm->a9 h P Q Vm->A d Q)
def b5(b:aO)(c:bh)(F:ay ag):Prop:=(∀ ⦃u⦄,wW b c (jF F) u)
def dN(b:aO)(c:bh)(F:ay bJ):Prop:=(∀ ⦃u⦄,wW b c (nh F) u)
def hW(b:aO)(c:bh)(F:ay Bool):Prop:=(∀ ⦃u⦄,Ik b c (jz F) u)
def eh{C Vd:cb}(e:bD b c C)(a:∀z h A,Vd z h A->C z h A):bD b c Vd:=λR m z h A l d=>e R m z h A l (a z h A d)
def se{C:ea}(e:hs b c C)(a:∀z h A,Vd z h A->C z h A):hs b c Vd:=λR m z h A l d=>e R m z h A l (a z h A d)
def i3.mono{j:bJ}(e:i3 h z j v UG)(C:e2 h Q)(q:∀g∈UG,∀n,h g=Z n->Q g=Z n):i3 Q z j v UG:=by
 cases j with
 |bF a=>exact e
 |dv r=>exact b2.mono C e q
def i3.chg{j:bJ}(e:i3 h z j v UG):∀g∈UG,fZ h g:=by
 cases j with
 |bF a=>intro g b;rw[e.2]at b;cases b
 |dv r=>exact b2.chg e
def eE(h:ax)(r:ag)(v:ak):Prop:=(∃UG,b2 h r v UG)
def i3.read{j:bJ}(e:i3 h z j v UG)(L:bx h w z P)(c:d7 w j=Z r):eE h r v:=by
 cases j with
 |dv VD=>cases c;exact⟨UG,e⟩
 |bF a=>
  have d:w[a]?=Z (Z r):=by
   have:(w[a]?).getD Y=Z r:=c;cases p:w[a]? with
   |none=>rw[p]at this;cases this
   |some n=>rw[p]at this;rw[show n=Z r from this]
  let⟨g,U3,@G,b,f,W⟩:=L.out d;rw[e.1]at b;cases b;exact⟨U3,f⟩
@[simp] def dS(a:Nat):ay ag:=λw=>match w[a]? with
 |some (Z r)=>if r.c4=X then Z (r,w) else Z (r,w.set a<|Z .cQ)
 |_=>Y
def az(r:V):ay ag:=(λw=>Z (.im r,w))
@[simp] def au(a:Nat):ay bJ:=λw=>match w[a]? with
 |some (Z _)=>Z (.bF a,w)
 |_=>Y
@[simp] def ae(F:ay ag):ay bJ:=λw=>(F w).map λu=>(.dv u.1,u.2)
section
variable{b:aO}
variable{a:Nat}
def fw(e:bD b c (iH a)):b5 b c (dS a):=by
 refine eh e λz h A f=>?_;let⟨w,P,j,@U4,L,aj,d,p⟩:=f;unfold dS at d;split at d
 ·rename_i r hd;split at d
  ·rename_i g;cases d;let⟨@v,y,B⟩:=L.c4 hd g;exact⟨v,y,p v h P [] L B (by rw[b8];exact a9.perm aj (List.Perm.refl _))⟩
  ·cases d;let⟨v,U3,@G,y,B,i,k⟩:=L.out hd;exact⟨v,y,p v h G U3 i B<|a9.perm aj k⟩
 ·cases d
def KS(e:bD b c (iH a)):dN b c (au a):=by
 refine eh e λz h A f=>?_;let⟨w,P,j,@U4,L,aj,d,p⟩:=f;unfold au at d;split at d
 ·rename_i r hd;cases d;let⟨v,U3,@G,y,B,g,i⟩:=L.out hd;exact⟨v,y,p v h P [] L ⟨y,rfl⟩ (by rw[b8];exact a9.perm aj (List.Perm.refl _))⟩
 ·cases d
def a_{F:ay ag}(e:b5 b c F):dN b c (ae F):=by
 refine eh e λz h A d=>?_;let⟨w,P,j,@U4,L,aj,a,p⟩:=d;unfold ae at a;let⟨@⟨VA,UR⟩,y,B⟩:=cm.mp a;cases B;exact⟨w,P,VA,_,L,aj,y,p⟩
def q1{r:V}(e:bD b c (mC v))(hd:∀h,cf h r v):b5 b c (az r):=by
 refine eh e λz h A a=>?_;let⟨w,P,j,@U4,L,aj,d,p⟩:=a;cases d;exact p v h P [] L ⟨hd h,rfl⟩ (by rw[b8];exact a9.perm aj (List.Perm.refl _))
def j8{a:Int}{i UZ}:b5 b (.Constant (.int a) i UZ) (az<|.int a):=q1 mT λ_=>rfl
def lx{d:Bool}{i UZ}:b5 b (.Constant (.bool d) i UZ) (az<|.aE d):=q1 KQ λ_=>rfl
def yH{i UZ}:b5 b (.Constant .none i UZ) (az .aS):=q1 Pt λ_=>rfl
def oP{i UZ}:b5 b (.Constant (.str f) i UZ) (az<|.str f):=q1 Ly λ_=>rfl
def two{UR Vi:a4}{f x:bJ}{UK:ak->ak->ax->Prop}(L:bx h w z P)(aj:P.Nodup)(b:M w=Z (f,UR))(k:VH UR=Z (x,Vi))(q:∀v J Q Vm a bU,bx Q Vi z Vm->i3 Q z f v a->i3 Q z x J bU->a9 h P Q ((Vm++bU)++a)->UK v J Q):nh M z h λv UP=>nh VH z UP λJ U6=>UK v J U6:=by
 refine⟨w,P,f,UR,L,aj,b,λv UP U3 a l j d=>⟨UR,U3,x,Vi,l,(dR.mp d.aj).1,k,λJ U6 G bU m Vo i=>?_⟩⟩;refine q v J U6 G a bU m (j.mono i.tup λg b n c=>i.keep g n c λe=>?_) Vo (d.trans i j.chg);exact (dR.mp d.aj).2.2 g e g b rfl
def a9.new{d:List ah}(g:a9 h P UP (U3++UG))(m:bV UP U6)(aj:d.Nodup)(e:∀f∈d,UP f=Y)(o:∀f∈U3,fZ UP f):a9 h P U6 (U3++d):=by
 refine⟨λf n c a=>m _ _<|g.keep f n c a,λf a=>?_,dR.mpr ⟨(dR.mp g.aj).1,aj,λf a x i c=>?_⟩,g.tup.trans m.tupS,λf n c=>let ⟨Vk,b⟩:=g.grow f n c;⟨Vk,m _ _ b⟩⟩
 ·rcases ed.mp a with a|a
  ·exact g.sub f (fl _ a)
  ·refine .inr ?_;cases c:h f with
   |none=>rfl
   |some n=>
    let⟨@Vk,b⟩:=g.grow f n c;rw[e f a]at b;cases b
 ·subst c;let⟨@n,c,W⟩:=o f a;rw[e f i]at c;cases c
def fe(b:aO)(N:ab->ab->dw ab)(Vw:ag->ag->Option ag):Prop:=(
 dH b N λf x h A=>∃Vz Vy r,eE h Vz f/\eE h Vy x/\Vw Vz Vy=Z r/\∀v Q UG,bV h Q->b2 Q r v UG->UG.Nodup->(∀g∈UG,h g=Y)->A v Q)
@[simp] def aD(Vw:ag->ag->Option ag)(M VH:ay bJ):ay ag:=λw=>(M w).bind λu=>(VH u.2).bind λp=>(d7 p.2 u.1).bind λVz=>(d7 p.2 p.1).bind λVy=>(Vw Vz Vy).map λr=>(r,p.2)
def uw{Vw:ag->ag->Option ag}(e:jF (aD Vw M VH) z h A):
  nh M z h λf UP=>nh VH z UP λx U6=>∃Vz Vy r,eE U6 Vz f/\eE U6 Vy x/\Vw Vz Vy=Z r/\∀v Q UG,bV U6 Q->b2 Q r v UG->UG.Nodup->(∀g∈UG,U6 g=Y)->A v Q:=by
 let⟨w,P,j,@U4,L,aj,a,p⟩:=e;unfold aD at a;let⟨@⟨f,UR⟩,k,a⟩:=bN.mp a;let⟨@⟨x,Vi⟩,l,a⟩:=bN.mp a;let⟨@Vz,y,a⟩:=bN.mp a;let⟨@Vy,B,a⟩:=bN.mp a;let⟨@r,m,a⟩:=cm.mp a;cases a;refine two L aj k l λv J U6 G u bU b o Vo i=>⟨Vz,Vy,_,o.read b y,Vo.read b B,m,λD q UG d Vc s t=>?_⟩;rw[bq]at i;exact p D q G UG (b.mono d.tupS λg W n c=>d g n c) Vc (i.new d s t b.chg)
def mm{Vw:qg}(a:fe b (gi Vw) N)(c:dN b g M)(f:dN b d VH):b5 b (.BinOp g Vw d UZ) (aD N M VH):=
 eh (RT a c f) λ_ W W e=>uw e
variable{Vw:kF}
def iV(a:fe b (d1 Vw) N)(c:dN b g M)(f:dN b d VH)(h:oD Vw d=av):b5 b (.Compare g [Vw] [d] UZ) (aD N M VH):=
 eh (OC a c f h) λ_ W W e=>uw e
def C_(a:iv b (λf x h A=>∃Vz Vy r,eE h Vz f/\eE h Vy x/\N Vz Vy=Z r/\∀v Q UG,bV h Q->b2 Q r v UG->UG.Nodup->(∀g∈UG,h g=Y)->A v Q))(c:dN b g M)(i:dN b d VH)(ar:mD d):b5 b (.Subscript g d UZ) (aD N M VH):=
 eh (sH a c i ar) λ_ W W e=>uw e
@[simp] def oX:ag->Option Bool
 |.im (.aE d)=>Z d
 |_=>Y
@[simp] def b1(F:ay ag):ay Bool:=λw=>(F w).bind λu=>(oX u.1).map λd=>(d,u.2)
def qY{d:Bool}(e:oX r=Z d):r=.im (.aE d):=by
 unfold oX at e;split at e
 ·cases e;rfl
 ·cases e
def e0(a:fe b (d1 Vw) N)(c:dN b g M)(e:dN b d VH)(f:oD Vw d=av):hW b (.Compare g [Vw] [d] UZ) (b1<|aD N M VH):=by
 refine se (Je a c e f) λz h A i=>?_;let⟨w,P,o,@U4,L,aj,j,p⟩:=i;refine uw ⟨w,P,.im<|.aE o,U4,L,aj,?_,λv Q Vm UG k Vc m=>⟨o,Vc.1,p Q Vm k (by rw[Vc.2,b8]at m;exact m)⟩⟩;let⟨@u,y,B⟩:=bN.mp j;let⟨@q,l,n⟩:=cm.mp B;cases n;rw[y,<-qY l]
@[simp] def hB(F:ay Bool):ay Bool:=λw=>(F w).map λu=>(!u.1,u.2)
variable{F:ay Bool}
def ko(e:hW b g F):hW b (.UnaryOp .Not g UZ) (hB F):=by
 refine se (KC e) λz h A a=>?_;let⟨w,P,o,@U4,L,aj,c,p⟩:=a;let⟨@u,y,B⟩:=cm.mp c;cases B;exact⟨w,P,u.1,_,L,aj,y,p⟩
@[simp] def gf(F e:ay Bool):ay Bool:=λw=>(F w).bind λu=>if u.1=X then e u.2 else Z (av,u.2)
@[simp] def iO(F e:ay Bool):ay Bool:=λw=>(F w).bind λu=>if u.1=X then Z (X,u.2) else e u.2
variable{A:Bool->ax->Prop}{e:ay Bool}
def FE(D:jz (gf F e) z h A):Df (jz F) (jz e) z h A:=by
 let⟨w,P,o,@U4,L,aj,c,p⟩:=D;let⟨@⟨d,UR⟩,y,B⟩:=bN.mp c;refine⟨w,P,d,UR,L,aj,y,λUP U3 b a=>?_⟩;cases d with
 |true=>
  rw[aK rfl];rw[aK rfl]at B;exact⟨UR,U3,o,U4,b,a.aj,B,λU6 G g i=>p U6 G g (by
   have:=a9.trans (UG:=[]) (by rw[b8];exact a) i (λf j=>nomatch j)
   rwa [b8]at this)⟩
 |false=>
  rw[aL cU]at B ⊢;cases B;exact p UP U3 b a
def LO(D:jz (iO F e) z h A):FN (jz F) (jz e) z h A:=by
 let⟨w,P,o,@U4,L,aj,c,p⟩:=D;let⟨@⟨d,UR⟩,y,B⟩:=bN.mp c;refine⟨w,P,d,UR,L,aj,y,λUP U3 b a=>?_⟩;cases d with
 |false=>
  rw[aL cU]at B ⊢;exact⟨UR,U3,o,U4,b,a.aj,B,λU6 G g i=>p U6 G g (by
   have:=a9.trans (UG:=[]) (by rw[b8];exact a) i (λf j=>nomatch j)
   rwa [b8]at this)⟩
 |true=>
  rw[aK rfl]at B ⊢;cases B;exact p UP U3 b a
def hx(b:aO)(c:bh)(F:ay Bool):Prop:=(∀ ⦃u⦄,BK b c (jz F) u)
def Gn{C:ea}(e:j9 b c C)(a:∀z h A,Vd z h A->C z h A):j9 b c Vd:=λd R m z h A l f=>e d R m z h A l (a z h A f)
def EY(e:hW b g F):hx b (.BoolOp .And [g] UZ) F:=Nt e
def pR(e:hW b g F):hx b (.BoolOp .Or [g] UZ) F:=Ro e
def vT(e:hW b g F)(a:hx b (.BoolOp .And (d::j) UZ) q):hx b (.BoolOp .And (g::d::j) UZ) (gf F q):=Gn (Mm e a) λ_ W W D=>FE D
def mS(e:hW b g F)(a:hx b (.BoolOp .Or (d::j) UZ) q):hx b (.BoolOp .Or (g::d::j) UZ) (iO F q):=Gn (Q8 e a) λ_ W W D=>LO D
def hx.nf(e:hx b c F):hW b c F:=j9.pt e
@[simp] def ij(F:ay Bool):ay ag:=λw=>(F w).map λu=>(.im<|.aE u.1,u.2)
def A1(e:b5 b c (ij F)):bD b c λz h A=>jz F z h λd Q=>A (.aE d) Q:=by
 refine eh e λz h A a=>?_;let⟨w,P,o,@U4,L,aj,f,p⟩:=a;refine⟨w,P,.im<|.aE o,U4,L,aj,by unfold ij;rw[f];rfl,λv Q Vm UG g Vc m=>?_⟩;rw[show v=.aE o from Vc.1];exact p Q Vm g (by rw[Vc.2,b8]at m;exact m)
def Hq(e:bD b c λz h A=>jz F z h λd Q=>A (.aE d) Q):b5 b c (ij F):=by
 refine eh e λz h A a=>?_;let⟨w,P,j,@U4,L,aj,f,p⟩:=a;let⟨@u,y,B⟩:=cm.mp f;cases B;exact⟨w,P,u.1,_,L,aj,y,λQ Vm g m=>p _ Q Vm [] g ⟨rfl,rfl⟩ (by rw[b8];exact m)⟩
def pB{F:ay ag}(e:b5 b c F):b5 b c (ij<|b1 F):=by
 refine eh e λz h A a=>?_;let⟨w,P,j,@U4,L,aj,d,p⟩:=a;let⟨@u,y,B⟩:=cm.mp d;let⟨@f,g,i⟩:=bN.mp y;let⟨@o,k,l⟩:=cm.mp i;cases l;cases B;exact⟨w,P,f.1,_,L,aj,g,by rw[qY k];exact p⟩
def L6(e:b5 b g (ij F)):b5 b (.UnaryOp .Not g UZ) (ij<|hB F):=by
 refine Hq (eh (Nv<|A1 e) λz h A a=>?_);let⟨w,P,o,@U4,L,aj,c,p⟩:=a;let⟨@u,y,B⟩:=cm.mp c;cases B;exact⟨w,P,u.1,_,L,aj,y,λQ Vm d m=>⟨_,rfl,p Q Vm d m⟩⟩
def Bw{Vw}{F:ay ag}(e:b5 b g F):b5 b (.BoolOp Vw [g] UZ) F:=OD e
def yw(e:b5 b g (ij F))(a:b5 b (.BoolOp .And (d::j) UZ) (ij q)):b5 b (.BoolOp .And (g::d::j) UZ) (ij<|gf F q):=by
 refine Hq (eh (Pm (A1 e)<|A1 a) λz h A D=>?_);have:=FE D;let⟨w,P,o,@U4,L,aj,c,p⟩:=this;exact⟨w,P,o,U4,L,aj,c,λQ Vm f m=>⟨o,rfl,p Q Vm f m⟩⟩
@[simp] def pe(o:ay Bool)(g d:ay ag):ay ag:=λw=>(o w).bind λu=>if u.1=X then g u.2 else d u.2
def a9.seq(g:a9 h P UP U3)(d:a9 UP U3 U6 G):a9 h P U6 G:=by
 have:=a9.trans (UG:=[]) (by rw[b8];exact g) d (λf a=>nomatch a)
 rwa [b8]at this
def TO{M VH:ay ag}(i:hW b o V1)(k:b5 b g M)(l:b5 b d VH):b5 b (.IfExp o g d UZ) (pe V1 M VH):=by
 refine eh (LA i k l) λz h A m=>?_;let⟨w,P,j,@U4,L,aj,n,p⟩:=m;let⟨@⟨C,UR⟩,y,B⟩:=bN.mp n;refine⟨w,P,C,UR,L,aj,y,λUP U3 f a=>?_⟩;cases C with
 |true=>
  rw[aK rfl]at B ⊢;exact⟨UR,U3,j,U4,f,a.aj,B,λv U6 G UG c Vc e=>p v U6 G UG c Vc<|a.seq e⟩
 |false=>
  rw[aL cU]at B ⊢;exact⟨UR,U3,j,U4,f,a.aj,B,λv U6 G UG c Vc e=>p v U6 G UG c Vc<|a.seq e⟩
end
def kd(h:ax)(z:a7):List bJ->List ak->List ah->Prop
 |[],U,UG=>U=[]/\UG=[]
 |n::U5,U,UG=>∃v j a bU,U=v::j/\i3 h z n v a/\kd h z U5 j bU/\UG=a++bU
def gZ(F:ay (List bJ)):eZ:=(λz h A=>∃w P j U4,bx h w z P/\P.Nodup/\F w=Z (j,U4)/\∀U Q Vm UG,bx Q U4 z Vm->kd Q z j U UG->a9 h P Q (Vm++UG)->A U Q)
def fA(b:aO)(T:List bh)(F:ay (List bJ)):Prop:=(∀ ⦃u⦄,El b T (gZ F) u)
def Hn{C Vd:eZ}(e:hz b T C)(a:∀z h A,Vd z h A->C z h A):hz b T Vd:=λUZ R m z h A l c=>e UZ R m z h A l (a z h A c)
def aG:ay (List bJ):=(λw=>Z ([],w))
@[simp] def aq(F:ay bJ)(e:ay (List bJ)):ay (List bJ):=λw=>(F w).bind λu=>(e u.2).map λp=>(u.1::p.1,p.2)
def a9.k4(m:a9 h P Q O)(u:O.Perm Vx):a9 h P Q Vx:=⟨m.keep,λg a=>m.sub g<|u.mem_iff.mpr a,(u.nodup_iff).mp m.aj,m.tup,m.grow⟩
def a9.less(m:a9 h P Q O)(u:(Vx++aN).Perm O):a9 h P Q Vx:=
 ⟨m.keep,λg a=>m.sub g<|u.mem_iff.mp<|fl _ a,(dR.mp<|(u.nodup_iff).mpr m.aj).1,m.tup,m.grow⟩
section
variable{b:aO}
def o8:fA b [] aG:=by
 refine Hn uk λz h A a=>?_;let⟨w,P,j,@U4,L,aj,c,p⟩:=a;cases c;exact p [] h P [] L ⟨rfl,rfl⟩ (by rw[b8];exact a9.perm aj (List.Perm.refl _))
def nI{F:ay bJ}{e:ay (List bJ)}(l:dN b c F)(UQ:fA b T e)(ar:bS (c::T) b.env=(av,b7 c b.env)::bS T b.env:=by rfl):fA b (c::T) (aq F e):=by
 refine Hn (vh l UQ ar) λz h A m=>?_;let⟨w,P,j,@U4,L,aj,o,p⟩:=m;let⟨@⟨f,UR⟩,y,B⟩:=bN.mp o;let⟨@⟨U0,Vi⟩,q,r⟩:=cm.mp B;cases r;refine⟨w,P,f,UR,L,aj,y,λv UP U3 i s k a=>⟨UR,U3,U0,_,s,(dR.mp a.aj).1,q,λU U6 G bU t Vo d=>?_⟩⟩;refine p (v::U) U6 G (i++bU) t ⟨v,U,i,bU,rfl,k.mono d.tup λg u n c=>d.keep g n c λe=>?_,Vo,rfl⟩ ((a.trans d k.chg).k4 ?_)
 ·exact (dR.mp a.aj).2.2 g e g u rfl
 ·rw[bq];exact dO _ c8
end
def gw(w:a4):List bJ->Option (List ag)
 |[]=>Z []
 |n::U5=>(d7 w n).bind λr=>(gw w U5).map λH=>r::H
def m_(h:ax):List ag->List ak->Prop
 |[],U=>U=[]
 |r::H,U=>∃v j,U=v::j/\eE h r v/\m_ h H j
theorem kd.read{h:ax}{w:a4}{z:a7}{P:List ah}(L:bx h w z P):∀{U5:List bJ}{U:List ak}{UG:List ah}{H:List ag},kd h z U5 U UG->gw w U5=Z H->m_ h H U
 |[],_,_,_,e,c=>by cases c;exact e.1
 |n::U5,_,_,_,e,c=>by
  let⟨v,j,g,@bU,rfl,y,B,rfl⟩:=e;let⟨@r,a,b⟩:=bN.mp c;let⟨@H,d,f⟩:=cm.mp b;cases f;exact⟨v,j,rfl,y.read L a,kd.read L B d⟩
def eB:List bJ->a4->Option (List ag×a4)
 |[],w=>Z ([],w)
 |.dv r::U5,w=>(eB U5 w).map λu=>(r::u.1,u.2)
 |.bF a::U5,w=>(dS a w).bind λu=>(eB U5 u.2).map λp=>(u.1::p.1,p.2)
def FQ{a:Nat}(L:bx h w z P)(e:dS a w=Z (r,U4)):∃v U3 UG,z[a]?=Z (Z v)/\b2 h r v UG/\bx h U4 z U3/\(U3++UG).Perm P:=by
 unfold dS at e;split at e
 ·rename_i c hd;split at e
  ·rename_i b;cases e;let⟨@v,y,B⟩:=L.c4 hd b;exact⟨v,P,[],y,B,L,by rw[b8]⟩
  ·cases e;let⟨v,U3,@G,y,B,d,f⟩:=L.out hd;exact⟨v,G,U3,y,B,d,f⟩
 ·cases e
def kI:(O++(Vx++aN)).Perm (Vx++(O++aN)):=by
 rw[<-bq,<-bq];exact eQ _ c8
theorem nE{h:ax}{z:a7}:∀{U5:List bJ}{U:List ak}{UG P:List ah}{w U4:a4}{H:List ag},bx h w z P->kd h z U5 U UG->eB U5 w=Z (H,U4)->∃U3 b,bx h U4 z U3/\c0 h H U b/\(U3++b).Perm (P++UG)
 |[],_,_,P,_,_,_,L,e,c=>by
  cases c;exact⟨P,[],L,⟨e.1,rfl⟩,by rw[e.2]⟩
 |.dv r::U5,_,_,P,w,_,_,L,e,c=>by
  let⟨v,j,b,@bU,rfl,y,B,rfl⟩:=e;rw[eB]at c;let⟨@u,g,i⟩:=cm.mp c;cases i;let⟨U3,@d,f,k,l⟩:=nE (U4:=u.2) (H:=u.1) L B g;exact⟨U3,b++d,f,⟨v,j,b,d,rfl,y,k,rfl⟩,kI.trans<|(dO _ l).trans kI⟩
 |.bF a::U5,_,_,P,w,_,_,L,e,c=>by
  let⟨v,j,b,@bU,rfl,@⟨y,rfl⟩,B,rfl⟩:=e;rw[eB]at c;let⟨@⟨r,UR⟩,n,o⟩:=bN.mp c;let⟨@u,g,i⟩:=cm.mp o;cases i;let⟨s,U3,@d,f,k,l,p⟩:=FQ L n;rw[y]at f;cases f;let⟨G,@m,Vf,Vt,q⟩:=nE (U4:=u.2) (H:=u.1) l B g;refine⟨G,d++m,Vf,⟨v,j,d,m,rfl,k,Vt,rfl⟩,kI.trans<|(dO _ q).trans ?_⟩;rw[<-bq];exact eQ _ (c8.trans p)
@[simp] def i2:List bJ->List ag->a4->a4
 |.bF a::U5,r::H,w=>i2 U5 H (match w[a]? with|some (Z .cQ)=>w.set a (Z r)|_=>w)
 |.dv _::U5,_::H,w=>i2 U5 H w
 |_,_,w=>w
theorem tq{h l:ax}{z:a7}:∀{U5:List bJ}{H:List ag}{U:List ak}{UG P UM:List ah}{w:a4},bx h w z P->kd l z U5 U UM->c0 h H U UG->∃U3 b,bx h (i2 U5 H w) z U3/\(U3++b).Perm (P++UG)
 |[],H,_,UG,P,_,w,L,_,_=>⟨P,UG,by unfold i2;exact L,List.Perm.refl _⟩
 |.dv _::U5,[],_,UG,P,_,w,L,_,_=>⟨P,UG,by unfold i2;exact L,List.Perm.refl _⟩
 |.bF _::U5,[],_,UG,P,_,w,L,_,_=>⟨P,UG,by unfold i2;exact L,List.Perm.refl _⟩
 |.dv _::U5,r::H,_,UG,P,_,w,L,e,D=>by
  let⟨v,j,m,@n,rfl,y,B,rfl⟩:=e;let⟨o,VA,b,@bU,c,k,i,rfl⟩:=D;cases c;let⟨U3,@d,f,g⟩:=tq (w:=w) L B i;refine⟨U3,b++d,by rw[i2];exact f,kI.trans<|(dO _ g).trans kI⟩
 |.bF a::U5,r::H,_,UG,P,_,w,L,e,D=>by
  let⟨v,j,m,@n,rfl,@⟨y,W⟩,B,rfl⟩:=e;let⟨o,VA,b,@bU,c,k,i,rfl⟩:=D;cases c;rw[i2];split
  ·let⟨U3,@UU,f,g⟩:=L.back k y;let⟨G,@d,Vf,Vt⟩:=tq f B i;refine⟨G,d++UU,Vf,?_⟩;rw[<-bq,<-bq];refine (eQ _ Vt).trans ?_;rw[bq];refine (dO _ c8).trans ?_;rw[<-bq];exact eQ _ g
  ·let⟨U3,@d,f,g⟩:=tq L B i;exact⟨U3,b++d,f,kI.trans<|(dO _ g).trans kI⟩
def hk:List ag->Option (List V)
 |[]=>Z []
 |.im r::H=>(hk H).map λj=>r::j
 |_::_=>Y
@[simp] def ra(H:List ag):ag:=match hk H with
 |some is=>.im (.tup is)
 |none=>.ej H
@[simp] def sg(H:List ag):ag:=match hk H with
 |some is=>.lst is
 |none=>.dY H
theorem z9{h:ax}:∀{H:List ag}{U:List ak}{UG:List ah}{is:List V},c0 h H U UG->hk H=Z is->bI h is U/\UG=[]
 |[],_,_,_,e,c=>by cases c;exact e
 |.im r::H,_,_,_,e,c=>by
  let⟨v,j,f,@bU,rfl,@⟨y,rfl⟩,B,rfl⟩:=e;rw[hk]at c;let⟨@u,a,b⟩:=cm.mp c;cases b;let@⟨d,rfl⟩:=z9 B a;exact⟨⟨v,j,rfl,y,d⟩,rfl⟩
 |.cQ::_,_,_,_,_,c=>by rw[hk]at c;cases c;all_goals (intro W k;cases k)
 |.c2 _::_,_,_,_,_,c=>by rw[hk]at c;cases c;all_goals (intro W k;cases k)
 |.lst _::_,_,_,_,_,c=>by rw[hk]at c;cases c;all_goals (intro W k;cases k)
 |.dn _::_,_,_,_,_,c=>by rw[hk]at c;cases c;all_goals (intro W k;cases k)
 |.aJ _::_,_,_,_,_,c=>by rw[hk]at c;cases c;all_goals (intro W k;cases k)
 |.dY _::_,_,_,_,_,c=>by rw[hk]at c;cases c;all_goals (intro W k;cases k)
 |.ej _::_,_,_,_,_,c=>by rw[hk]at c;cases c;all_goals (intro W k;cases k)
 |.e_ _::_,_,_,_,_,c=>by rw[hk]at c;cases c;all_goals (intro W k;cases k)
 |.dL _::_,_,_,_,_,c=>by rw[hk]at c;cases c;all_goals (intro W k;cases k)
@[simp] def cV(F:ay (List bJ)):ay ag:=λw=>(F w).bind λu=>(eB u.1 u.2).bind λp=>if p.1.length<=100000 then Z (ra p.1,p.2) else Y
@[simp] def f_(F:ay (List bJ)):ay ag:=λw=>(F w).bind λu=>(eB u.1 u.2).bind λp=>if p.1.length<=100000 then Z (sg p.1,p.2) else Y
def Mh{H:List ag}{u:ah}(m:bV h Q)(e:c0 h H U UG)(c:Q u=Z (.tup U)):∃a,b2 Q (ra H) (.ref u) a/\a=UG:=by
 unfold ra;split
 ·rename_i is UN;let@⟨b,rfl⟩:=z9 e UN;exact⟨[],⟨⟨u,U,rfl,c,b.mono m.tupS.tup⟩,rfl⟩,rfl⟩
 ·exact⟨UG,⟨u,U,rfl,c,e.mono m.tupS λg W n p=>m g n p⟩,rfl⟩
def Rd{H:List ag}{u:ah}(m:bV h Q)(e:c0 h H U UG)(c:Q u=Z (.lst U)):b2 Q (sg H) (.ref u) (u::UG):=by
 unfold sg;split
 ·rename_i is UN;let@⟨a,rfl⟩:=z9 e UN;exact⟨u,U,rfl,c,a.mono m.tupS.tup,rfl⟩
 ·exact⟨u,U,UG,rfl,c,e.mono m.tupS λg W n p=>m g n p,rfl⟩
def k3(e:s<=100000):s<=sizeLine:=df e ∅
def a9.add{u:ah}{n:e1}(g:a9 h P UP O)(a:UP u=Y)(o:∀f∈O,fZ UP f):a9 h P (upd UP u n) (O++[u]):=by
 have m:bV UP (upd UP u n):=(bV.refl UP).upd a;have:=a9.new (UG:=[]) (d:=[u]) (by rw[b8];exact g) m (gh _ _) (λf b=>by rw[cN.mp b];exact a) o;exact this
def a9.same(g:a9 h P UP O)(m:bV UP U6):a9 h P U6 O:=
 ⟨λf n c a=>m _ _<|g.keep f n c a,g.sub,g.aj,g.tup.trans m.tupS,λf n c=>let ⟨Vk,b⟩:=g.grow f n c;⟨Vk,m _ _ b⟩⟩
section
variable{b:aO}
def h1{d}(e:fA b T F):b5 b (.Tuple T d UZ) (cV F):=by
 refine eh (OO e) λz h A f=>?_;let⟨w,P,j,@U4,L,aj,i,p⟩:=f;let⟨@⟨U5,UR⟩,y,B⟩:=bN.mp i;let⟨@⟨H,Vi⟩,k,a⟩:=bN.mp B;refine⟨w,P,U5,UR,L,aj,y,λU UP U3 D l o q=>?_⟩;let⟨G,@bU,r,Vc,Vr⟩:=nE l o k;split at a
 ·rename_i s;cases a;have t:U.length<=100000:=by rw[<-Vc.length];exact s
  refine⟨k3 t,λu v=>?_⟩;have m:bV UP (upd UP u<|.tup U):=(bV.refl UP).upd v;let⟨@x,C,rfl⟩:=Mh m Vc dp;exact p _ _ G x (r.mono m.tupS λg W n c=>m g n c) C ((q.k4 Vr.symm).same m)
 ·cases a
def mf(e:fA b T F):b5 b (.List T UZ) (f_ F):=by
 refine eh (BP e) λz h A l=>?_;let⟨w,P,j,@U4,L,aj,o,p⟩:=l;let⟨@⟨U5,UR⟩,y,B⟩:=bN.mp o;let⟨@⟨H,Vi⟩,q,d⟩:=bN.mp B;refine⟨w,P,U5,UR,L,aj,y,λU UP U3 D r s t=>?_⟩;let⟨G,@bU,i,Vc,Vr⟩:=nE r s q;split at d
 ·rename_i v;cases d;have x:U.length<=100000:=by rw[<-Vc.length];exact v
  refine⟨k3 x,λu k=>?_⟩;have m:bV UP (upd UP u<|.lst U):=(bV.refl UP).upd k;have C:=Rd m Vc (u:=u) dp;refine p _ _ G (u::bU) (i.mono m.tupS λg W n c=>m g n c) C (((t.k4 Vr.symm).add k λf a=>?_).k4 ?_)
  ·rcases ed.mp a with a|a
   ·exact i.chg f a
   ·exact Vc.chg f a
  ·rw[bq];exact dO _ c8
 ·cases d
def hI(b:aO)(N:ab)(Vw:List ag->Option ag):Prop:=(
 eR b N λE h A=>∃H r,m_ h H E/\Vw H=Z r/\∀v Q UG,bV h Q->b2 Q r v UG->UG.Nodup->(∀g∈UG,h g=Y)->A v Q)
@[simp] def cH(Vw:List ag->Option ag)(F:ay (List bJ)):ay ag:=λw=>(F w).bind λu=>(gw u.2 u.1).bind λH=>(Vw H).map λr=>(r,u.2)
def FC(e:jF (cH Vw F) z h A):
  gZ F z h λE UP=>∃H r,m_ UP H E/\Vw H=Z r/\∀v Q UG,bV UP Q->b2 Q r v UG->UG.Nodup->(∀g∈UG,UP g=Y)->A v Q:=by
 let⟨w,P,j,@U4,L,aj,d,p⟩:=e;let⟨@⟨U5,UR⟩,y,B⟩:=bN.mp d;let⟨@H,f,i⟩:=bN.mp B;let⟨@r,k,l⟩:=cm.mp i;cases l;refine⟨w,P,U5,UR,L,aj,y,λU UP U3 t a m o=>⟨H,_,m.read a f,k,λv U6 UG b Vc q s=>?_⟩⟩;exact p v U6 U3 UG (a.mono b.tupS λg W n c=>b g n c) Vc (o.new b q s a.chg)
def N0{id:String}(a:hI b (.builtin id) Vw)(d:eM b f)(g:b.aM f=Y)(h:e9 f=Z (.builtin id))(i:fA b (c::T) F)(j:f ≠ "__name__" := by decide)(k:(f==("__debug__" : aC))=av:=by decide)(l:bS (c::T) b.env=(av,b7 c b.env)::bS T b.env:=by rfl)(m:(e5 UZ<|bS T b.env).any (·.1)=av:=by rfl):
  b5 b (.Call (.Name f u) (c::T) [] UZ) (cH Vw F):=eh (Iv a d g h i j k l m) λ_ W W e=>FC e
def iB{UO:String}(a:hI b (.type UO) Vw)(d:eM b f)(g:b.aM f=Y)(h:e9 f=Z (.type UO))(i:fA b (c::T) F)(j:f ≠ "__name__" := by decide)(k:(f==("__debug__" : aC))=av:=by decide)(l:bS (c::T) b.env=(av,b7 c b.env)::bS T b.env:=by rfl)(m:(e5 UZ<|bS T b.env).any (·.1)=av:=by rfl):
  b5 b (.Call (.Name f u) (c::T) [] UZ) (cH Vw F):=eh (OM a d g h i j k l m) λ_ W W e=>FC e
abbrev dA:=List ag->Option (ag×List ag)
def jY(s:Nat)(UU:dA):jR:=(λU h A W=>U.length=s/\∃H P j l,c0 h H U P/\P.Nodup/\UU H=Z (j,l)/\∀v Q UG a,b2 Q j v UG->c0 Q l U a->a9 h P Q (UG++a)->A v Q)
@[simp] def bL(s:Nat)(UU:dA)(F:ay (List bJ)):ay ag:=λw=>(F w).bind λu=>if u.1.length=s then (eB u.1 u.2).bind λp=>(UU p.1).map λj=>(j.1,i2 u.1 j.2 p.2) else Y
theorem kd.length{h:ax}{z:a7}:∀{U5:List bJ}{U:List ak}{UG:List ah},kd h z U5 U UG->U5.length=U.length
 |[],_,_,e=>by rw[e.1];rfl
 |n::U5,_,_,e=>by
  let⟨v,j,a,@bU,rfl,y,B,rfl⟩:=e;rw[dz,dz,kd.length B]
def NU{UU:dA}{UH:fO}(e:jF (bL s UU F) z h A):Fx (jY s UU) [] UH (gZ F) z h A:=by
 let⟨w,P,j,@U4,L,aj,m,p⟩:=e;let⟨@⟨U5,UR⟩,y,B⟩:=bN.mp m;split at B
 ·rename_i o;let⟨@⟨H,Vi⟩,q,r⟩:=bN.mp B;let⟨@⟨VA,l⟩,t,u⟩:=cm.mp r;cases u;refine⟨w,P,U5,UR,L,aj,y,λU UP U3 T x a C=>?_⟩;let⟨G,bU,i,Vc,Vr⟩:=nE x a q;have b:=C.k4 (Vr.symm.trans c8);rw[b8];refine⟨by rw[<-a.length];exact o,H,bU,_,l,Vc,(dR.mp b.aj).1,t,λv k UG al D E d=>?_⟩;have I:=b.trans d i.chg;have J:∀g∈G,g∉bU:=λg f M=>(dR.mp b.aj).2.2 g M g f rfl;have N:bx k Vi z G:=i.mono d.tup λg f n c=>d.keep g n c (J g f);let⟨O,@Q,R,S⟩:=tq N a E;refine p v k O UG R D (I.less (aN:=Q) ?_);refine List.Perm.trans ?_ c8;rw[bq];refine (dO _ c8).trans ?_;rw[<-bq];refine (eQ _ S).trans ?_;rw[bq];exact dO _ c8
 ·cases B
variable{q:Nat}
def Su{UU:dA}{N:ah}(P:h5 b.prog b.w b.K b.aM b.base gB q N fd U1 (jY s UU))(UQ:dB q b.A)(a:eM b f)(d:b.aM f=Z (.ref N))(g:Γ b.K (.ref N)=X)(h:jg b.K fd U1 [])(i:fA b (c::T) F)(j:(f==("__debug__" : aC))=av:=by decide)(k:bS (c::T) b.env=(av,b7 c b.env)::bS T b.env:=by rfl)(l:(e5 UZ<|bS T b.env).any (·.1)=av:=by rfl):
  b5 b (.Call (.Name f u) (c::T) [] UZ) (bL s UU F):=eh (RO P UQ a d g h .nil K4 i j k l) λ_ U U e=>NU e
inductive gA where
 | bz|a5 (r:ag)|fg|ct
abbrev bO:=a4->Option (gA×a4)
def dt(Vg:List Nat)(z b:a7):Prop:=(b.length=z.length/\∀a∈Vg,b[a]?=z[a]?)
def dt.refl:dt Vg z z:=⟨rfl,λ_ W=>rfl⟩
def dt.trans{b:a7}(g:dt Vg z Wb)(d:dt Vg Wb b):dt Vg z b:=⟨d.1.trans g.1,λa UN=>(d.2 a UN).trans<|g.2 a UN⟩
def dt.set{i:Nat}{v:Option ak}(e:i∉Vg):dt Vg z (z.set i v):=⟨u9,λa UN=>ow λc=>e (by rw[c];exact UN)⟩
def sJ(Vg:List Nat)(UH:oS)(z:a7)(h:ax)(P:List ah)(U4:a4):gA->Prop
 |.bz=>∀a Q Vm,dt Vg z a->bx Q U4 a Vm->a9 h P Q Vm->UH.bz a Q
 |.fg=>∀a Q Vm,dt Vg z a->bx Q U4 a Vm->a9 h P Q Vm->UH.fg a Q
 |.ct=>∀a Q Vm,dt Vg z a->bx Q U4 a Vm->a9 h P Q Vm->UH.ct a Q
 |.a5 r=>∀v a Q Vm UG,dt Vg z a->bx Q U4 a Vm->b2 Q r v UG->a9 h P Q (Vm++UG)->UH.a5 v Q
def pV(Vg:List Nat)(F:bO):e4:=(λUH z h=>∃w P aT U4,bx h w z P/\P.Nodup/\F w=Z (aT,U4)/\sJ Vg UH z h P U4 aT)
def iw(b:aO)(Vg:List Nat)(L:cM)(F:bO):Prop:=(∀ ⦃u⦄,Fi b L (pV Vg F) u)
def h7(b:aO)(Vg:List Nat)(a:List cM)(F:bO):Prop:=(∀ ⦃u⦄,A_ b a (pV Vg F) u)
variable{Vd:e4}
def kq{C:e4}(e:hT b L C)(a:∀UH z h,Vd UH z h->C UH z h):hT b L Vd:=λR m z h w l c=>e R m z h w l (a w z h c)
def H3{L:List cM}{C:e4}(e:hC b L C)(a:∀UH z h,Vd UH z h->C UH z h):hC b L Vd:=λR m z h w l c=>e R m z h w l (a w z h c)
def sJ.on{aT:gA}(e:sJ Vg UH z h P U4 aT)(VK:dt Vg z Wb)(m:a9 h P UP U3):sJ Vg UH Wb UP U3 U4 aT:=by
 cases aT with
 |bz=>exact λa Q Vm N L UI=>e a Q Vm (VK.trans N) L (m.seq UI)
 |fg=>exact λa Q Vm N L UI=>e a Q Vm (VK.trans N) L (m.seq UI)
 |ct=>exact λa Q Vm N L UI=>e a Q Vm (VK.trans N) L (m.seq UI)
 |a5 r=>exact λv a Q Vm UG N L Vc UI=>e v a Q Vm UG (VK.trans N) L Vc (m.seq UI)
def eD:bO:=(λw=>Z (.bz,w))
@[simp] def bE(F e:bO):bO:=λw=>(F w).bind λu=>match u.1 with
 |.bz=>e u.2
 |aT=>Z (aT,u.2)
def gb:h7 b Vg [] eD:=by
 refine H3 Ko λUH z h a=>?_;let⟨w,P,aT,@U4,L,aj,c,p⟩:=a;cases c;exact p z h P dt.refl L (a9.perm aj<|List.Perm.refl _)
variable{F:bO}
def cG(e:iw b Vg L F):h7 b Vg [L] F:=Na e
def RH{e:bO}(D:pV Vg (bE F e) UH z h):Gy (pV Vg F) (pV Vg e) UH z h:=by
 let⟨w,P,aT,@U4,L,aj,a,p⟩:=D;let⟨@⟨b,UR⟩,y,B⟩:=bN.mp a;cases b with
 |bz=>exact⟨w,P,.bz,UR,L,aj,y,λd Q Vm VK c m=>⟨UR,Vm,aT,U4,c,m.aj,B,p.on VK m⟩⟩
 |fg=>cases B;exact⟨w,P,.fg,UR,L,aj,y,p⟩
 |ct=>cases B;exact⟨w,P,.ct,UR,L,aj,y,p⟩
 |a5 r=>cases B;exact⟨w,P,.a5 r,UR,L,aj,y,p⟩
def b4{a:List cM}{e:bO}(y:iw b Vg L F)(B:h7 b Vg a e):h7 b Vg (L::a) (bE F e):=H3 (L_ y B) λ_ W W D=>RH D
@[simp] def j_(F:ay ag):bO:=λw=>(F w).map λu=>(.bz,u.2)
variable{F:ay ag}
def pS(e:b5 b c F)(ar:oj c Y UZ.line b.env=pure av:=by rfl):iw b Vg (.Expr c UZ) (j_ F):=by
 refine kq (Kc e ar) λUH z h a=>?_;let⟨w,P,aT,@U4,L,aj,d,p⟩:=a;let⟨@⟨j,UR⟩,y,B⟩:=cm.mp d;cases B;exact⟨w,P,j,_,L,aj,y,λv Q Vm UG f Vc m=>p z Q Vm dt.refl f<|m.less<|List.Perm.refl _⟩
@[simp] def dd(F:ay ag):bO:=λw=>(F w).map λu=>(.a5 u.1,u.2)
def dZ(e:b5 b c F):iw b Vg (.Return (Z c) UZ) (dd F):=by
 refine kq (OH e) λUH z h a=>?_;let⟨w,P,aT,@U4,L,aj,d,p⟩:=a;let⟨@⟨j,UR⟩,y,B⟩:=cm.mp d;cases B;exact⟨w,P,j,_,L,aj,y,λv Q Vm UG f Vc m=>p v z Q Vm UG dt.refl f Vc m⟩
@[simp] def dP(o:ay Bool)(g d:bO):bO:=λw=>(o w).bind λu=>if u.1=X then g u.2 else d u.2
variable{VH:bO}
def fI{g d:List cM}{M:bO}(e:hW b o V1)(f:h7 b Vg g M)(i:h7 b Vg d VH):iw b Vg (.If o g d UZ) (dP V1 M VH):=by
 refine kq (QR e f i) λUH z h j=>?_;let⟨w,P,aT,@U4,L,aj,k,p⟩:=j;let⟨@⟨C,UR⟩,y,B⟩:=bN.mp k;refine⟨w,P,C,UR,L,aj,y,λUP U3 c a=>?_⟩;cases C with
 |true=>
  rw[aK rfl]at B ⊢;exact⟨UR,U3,aT,U4,c,a.aj,B,p.on dt.refl a⟩
 |false=>
  rw[aL cU]at B ⊢;exact⟨UR,U3,aT,U4,c,a.aj,B,p.on dt.refl a⟩
@[simp] def cD(a:Nat)(F:ay ag):bO:=λw=>(F w).bind λu=>if a<u.2.length then Z (.bz,u.2.set a<|Z u.1) else Y
variable{a:Nat}
def mB{V5:Pos}(d:b.N.Nodup)(UN:b.N[a]?=Z f)(e:hc b.env.scope f)(g:b5 b c F)(i:a∉Vg)(ar:oj c (Z<|.Name f V5) UZ.line b.env=pure av:=by rfl)(k:b.fn f=X\/b.env.scope.names.lookup f=Z .local:=by first|exact .inl rfl|exact .inr rfl|assumption):iw b Vg (.Assign [.Name f V5] c UZ) (cD a F):=by
 refine kq (RP d UN e g ar k) λUH z h l=>?_;let⟨w,P,aT,@U4,L,aj,m,p⟩:=l;let⟨@⟨j,UR⟩,y,B⟩:=bN.mp m;split at B
 ·rename_i n;cases B;refine⟨w,P,j,_,L,aj,y,λv UP U3 UG o Vc q=>?_⟩;let⟨G,@bU,r,Vr⟩:=o.put (a:=a) Vc n;exact p _ UP G (dt.set i) r (q.less Vr)
 ·cases B
abbrev fh:=ag->a4->Option a4
def xx(Vg:List Nat)(F:fh):gY:=(λv z h A=>∃w P r UG U4,bx h w z P/\b2 h r v UG/\(P++UG).Nodup/\F r w=Z U4/\∀a Q Vm,dt Vg z a->bx Q U4 a Vm->a9 h (P++UG) Q Vm->A a Q)
def hY(b:aO)(Vg:List Nat)(c:bh)(F:fh):Prop:=(∀ ⦃u⦄,HM b c (xx Vg F) u)
def AD{C Vd:gY}(e:jI b c C)(a:∀v z h A,Vd v z h A->C v z h A):jI b c Vd:=λR m z h f v A l j d=>e R m z h f v A l j (a f z h A d)
@[simp] def bG(a:Nat):fh:=λr w=>if a<w.length then Z (w.set a<|Z r) else Y
def rf(d:b.N.Nodup)(UN:b.N[a]?=Z f)(e:hc b.env.scope f)(g:a∉Vg)(i:b.fn f=X\/b.env.scope.names.lookup f=Z .local:=by first|exact .inl rfl|exact .inr rfl|assumption):hY b Vg (.Name f UZ) (bG a):=by
 refine AD (x7 d UN e i) λv z h A j=>?_;let⟨w,P,r,UG,@U4,L,Vc,aj,c,p⟩:=j;unfold bG at c;split at c
 ·rename_i k;cases c;let⟨G,@bU,l,Vr⟩:=L.put (a:=a) Vc k;exact p _ h G (dt.set g) l ((a9.perm aj<|List.Perm.refl _).less Vr)
 ·cases c
def RR(Vg:List Nat)(F:List ag->a4->Option a4):kP:=(λU z h A=>∃w P H UG U4,bx h w z P/\c0 h H U UG/\(P++UG).Nodup/\F H w=Z U4/\∀a Q Vm,dt Vg z a->bx Q U4 a Vm->a9 h (P++UG) Q Vm->A a Q)
def vA(b:aO)(Vg:List Nat)(T:List bh)(F:List ag->a4->Option a4):Prop:=(∀ ⦃u⦄,Bo b T (RR Vg F) u)
@[simp] def hh:List ag->a4->Option a4
 |[],w=>Z w
 |_,_=>Y
@[simp] def d2(F:fh)(e:List ag->a4->Option a4):List ag->a4->Option a4
 |r::H,w=>(F r w).bind (e H)
 |_,_=>Y
def C9{C Vd:kP}(e:oK b T C)(a:∀v z h A,Vd v z h A->C v z h A):oK b T Vd:=λR m z h E U A l j c=>e R m z h E U A l j (a E z h A c)
def A8:vA b Vg [] hh:=by
 refine C9 CW λU z h A c=>?_;let⟨w,P,H,UG,@U4,L,Vc,aj,a,p⟩:=c;cases H with
 |cons r H=>cases a
 |nil=>
  cases a;exact⟨Vc.1,p z h P dt.refl L<|(a9.perm aj<|List.Perm.refl _).less<|List.Perm.refl _⟩
def sF{F:fh}(y:hY b Vg c F)(B:vA b Vg T e)(ar:(fm (c::T) b.env).map (·.2)=hr c b.env::(fm T b.env).map (·.2):=by rfl):vA b Vg (c::T) (d2 F e):=by
 refine C9 (z6 y B ar) λU z h A t=>?_;let⟨w,P,H,UG,@U4,L,Vc,aj,m,p⟩:=t;cases H with
 |nil=>cases m
 |cons r H=>
  let⟨v,j,i,@bU,rfl,u,o,rfl⟩:=Vc;let⟨@UR,x,C⟩:=bN.mp (show (F r w).bind (e H)=Z U4 from m);have l:((P++i)++bU).Nodup:=by rw[bq];exact aj
  refine⟨v,j,rfl,w,P,r,i,UR,L,u,(dR.mp l).1,x,λWb UP U3 VK D f=>?_⟩;have q:∀g∈bU,g∉P++i:=λg a k=>(dR.mp l).2.2 g k g a rfl;have E:c0 UP H j bU:=o.mono f.tup λg a n c=>f.keep g n c (q g a);have s:a9 h (P++(i++bU)) UP (U3++bU):=by
   refine⟨λg n c a=>f.keep g n c λe=>a ?_,λg a=>?_,dR.mpr ⟨f.aj,(dR.mp l).2.1,λg a d k c=>?_⟩,f.tup,f.grow⟩
   ·rw[<-bq];exact fl _ e
   ·rcases ed.mp a with a|a
    ·rcases f.sub g a with e|e
     ·left;rw[<-bq];exact fl _ e
     ·exact .inr e
    ·left;rw[<-bq];exact dT _ a
   ·subst c;rcases f.sub g a with e|e
    ·exact q g k e
    ·let⟨@n,c,W⟩:=o.chg g k;rw[c]at e;cases e
  exact⟨UR,U3,H,bU,U4,D,E,s.aj,C,λI U6 G J M N=>p I U6 G (VK.trans J) M<|s.seq N⟩
@[simp] def g0(s:Nat)(e:List ag->a4->Option a4):fh:=λr w=>match r with
 |.im (.tup is)=>if is.length=s then e (is.map .im) w else Y
 |.ej H=>if H.length=s then e H w else Y
 |_=>Y
theorem Gx{h:ax}:∀{is:List V}{U:List ak},bI h is U->c0 h (is.map .im) U []
 |[],U,e=>⟨e,rfl⟩
 |r::is,U,e=>by
  let⟨v,@j,rfl,y,B⟩:=e;exact⟨v,j,[],[],rfl,⟨y,rfl⟩,Gx B,rfl⟩
def IQ(d:b.calm=X)(ar:vA b Vg T e)(f:(fm T b.env).length=s:=by rfl)(i:(fm T b.env).findIdx? (·.1)=Y:=by rfl):hY b Vg (.Tuple T q UZ) (g0 s e):=by
 refine AD (Kz d ar f i) λv z h A j=>?_;let⟨w,P,r,UG,@U4,L,Vc,aj,a,p⟩:=j;unfold g0 at a;split at a
 ·rename_i is;split at a
  ·rename_i c;let@⟨⟨g,@E,rfl,y,B⟩,rfl⟩:=Vc;exact⟨g,E,rfl,cC.of y,by rw[<-B.length];exact c,w,P,_,[],U4,L,Gx B,aj,a,p⟩
  ·cases a
 ·rename_i H;split at a
  ·rename_i c;let⟨g,@E,rfl,y,B⟩:=Vc;exact⟨g,E,rfl,cC.of y,by rw[<-B.length];exact c,w,P,_,UG,U4,L,B,aj,a,p⟩
  ·cases a
 ·cases a
@[simp] def eX(F:ay ag)(e:fh):bO:=λw=>(F w).bind λu=>(e u.1 u.2).map λU4=>(.bz,U4)
def ic{e:fh}(d:b5 b c F)(f:hY b Vg Ve e)(ar:u2 [Ve] c UZ.line b.env=pure av:=by rfl)(g:tT [Ve] c b.env=pure Y:=by rfl)(y:(fm [Ve] b.env).map (·.2)=[hr Ve b.env]:=by rfl):iw b Vg (.Assign [Ve] c UZ) (eX F e):=by
 refine kq (MI d f ar g y) λUH z h i=>?_;let⟨w,P,aT,@U4,L,aj,k,p⟩:=i;let⟨@⟨j,UR⟩,g1,g2⟩:=bN.mp k;let⟨@Vi,l,m⟩:=cm.mp g2;cases m;exact⟨w,P,j,UR,L,aj,g1,λv UP U3 UG n Vc a=>⟨UR,U3,j,UG,_,n,Vc,a.aj,l,λo Q Vm VK q r=>p o Q Vm VK q<|a.seq r⟩⟩
@[simp] def oH(a i:Nat)(F:ay (List bJ)):bO:=λw=>(F w).bind λu=>(eB u.1 u.2).bind λp=>match p.1 with
 |[Vz,Vy]=>if a<p.2.length/\i<p.2.length then Z (.bz,(p.2.set a<|Z Vz).set i<|Z Vy) else Y
 |_=>Y
def fB(o:ay Bool)(d:bO):Nat->bO
 |0=>λ_=>Y
 |s+1=>λw=>(o w).bind λu=>if u.1=X then (d u.2).bind λp=>match p.1 with
  |.bz=>fB o d s p.2
  |.ct=>fB o d s p.2
  |.fg=>Z (.bz,p.2)
  |.a5 r=>Z (.a5 r,p.2) else Z (.bz,u.2)
def wt(s:Nat)(m:sy (aR b.prog b.w) b.A b.env b.cF)(n:hW b o V1)(q:h7 b Vg VY VH):iw b Vg (.While o VY [] UZ) (fB V1 VH s):=by
 refine kq (S5 m n q) λUH z h u=>?_;let⟨w,P,aT,@U4,L,aj,x,p⟩:=u;refine⟨λt a Q=>∃g Vm,bx Q g a Vm/\dt Vg z a/\a9 h P Q Vm/\fB V1 VH t g=Z (aT,U4),⟨s,w,P,L,dt.refl,a9.perm aj<|List.Perm.refl _,x⟩,?_⟩;rintro t Wb UP ⟨UR,U3,y,i,d,D⟩;cases t with
 |zero=>cases D
 |succ t=>
  rw[fB]at D;let⟨@⟨C,Vi⟩,B,j⟩:=bN.mp D;refine⟨UR,U3,C,Vi,y,d.aj,B,λU6 G l f=>?_⟩;cases C with
  |false=>
   rw[aL cU]at j ⊢;cases j;exact p Wb U6 G i l (d.seq f)
  |true=>
   rw[aK rfl]at j ⊢;let⟨@⟨N,S⟩,E,k⟩:=bN.mp j;refine⟨λa Q=>∃g Vm,bx Q g a Vm/\dt Vg z a/\a9 h P Q Vm/\fB V1 VH t g=Z (aT,U4),λa Q e=>⟨t,oL t,e⟩,Vi,G,N,S,l,f.aj,E,?_⟩;cases N with
   |bz=>exact λa Q Vm VK c UI=>⟨S,Vm,c,i.trans VK,(d.seq f).seq UI,k⟩
   |ct=>exact λa Q Vm VK c UI=>⟨S,Vm,c,i.trans VK,(d.seq f).seq UI,k⟩
   |fg=>
    cases k;exact λa Q Vm VK c UI=>p a Q Vm (i.trans VK) c ((d.seq f).seq UI)
   |a5 r=>
    cases k;exact λv a Q Vm UG VK c Vc UI=>p v a Q Vm UG (i.trans VK) c Vc ((d.seq f).seq UI)
structure kZ(VP:ig)(h:ax)(UG:List ah)(H:List V):Prop where
 go:∀Q,e2 h Q->(∀g∈UG,∀n,h g=Z n->Q g=Z n)->∀(a:Nat) (r:V),H[a]?=Z r->VP.go a Q/\∀f zp,VP.rP a Q f zp->bV Q zp/\cf zp r f
 stop:∀Q,e2 h Q->(∀g∈UG,∀n,h g=Z n->Q g=Z n)->VP.stop H.length Q
def sA(h:ax)(z:a7)(UG:List ah):Option (Nat×ag)->Prop
 |none=>True
 |some (a,r)=>∃v,z[a]?=Z (Z v)/\b2 h r v UG
def w_(F:ay (List V×Option (Nat×ag))):c1:=(λz h a=>∃w P j U4,bx h w z P/\P.Nodup/\F w=Z (j,U4)/\∀VP Q Vm UG,bx Q U4 z Vm->kZ VP Q UG j.1->sA Q z UG j.2->(∀g∈UG,fZ Q g)->a9 h P Q (Vm++UG)->a VP Q)
def kz(b:aO)(Ve VQ:bh)(F:ay (List V×Option (Nat×ag))):Prop:=(∀ ⦃u⦄,Gp b Ve VQ (w_ F) u)
def sN{C Vd:c1}(e:jb b Ve VQ C)(a:∀z h UG,Vd z h UG->C z h UG):jb b Ve VQ Vd:=λR m z h UG l c=>e R m z h UG l (a z h UG c)
def en(Ve:fh)(d:bO):List V->bO
 |[]=>λw=>Z (.bz,w)
 |f::j=>λw=>(Ve (.im f) w).bind λUR=>(d UR).bind λp=>match p.1 with
  |.bz=>en Ve d j p.2
  |.ct=>en Ve d j p.2
  |.fg=>Z (.bz,p.2)
  |.a5 r=>Z (.a5 r,p.2)
@[simp] def lI:Option (Nat×ag)->a4->a4
 |none,w=>w
 |some (a,r),w=>match w[a]? with
  |some (Z .cQ)=>w.set a (Z r)
  |_=>w
@[simp] def g8(F:ay (List V×Option (Nat×ag)))(Ve:fh)(d:bO):bO:=λw=>(F w).bind λu=>(en Ve d u.1.1 u.2).map λp=>(p.1,lI u.1.2 p.2)
def yo{n:Option (Nat×ag)}(L:bx h w z P)(e:sA h z UG n):∃U3 UU,bx h (lI n w) z U3/\(U3++UU).Perm (P++UG):=by
 cases n with
 |none=>exact⟨P,UG,L,List.Perm.refl _⟩
 |some u=>
  let⟨a,r⟩:=u;let⟨@v,y,B⟩:=e;unfold lI;dsimp only;split
  ·exact L.back B y
  ·exact⟨P,UG,L,List.Perm.refl _⟩
def n6(VK:List Nat):Option (Nat×ag)->Prop
 |none=>True
 |some (a,_)=>a∈VK
def K_{F:ay (List V×Option (Nat×ag))}{x:fh}(hd:sy (aR b.prog b.w) b.A b.env b.cF)(he:b.calm=X)(UN:kz b Ve VQ F)(hf:hY b VK Ve x)(hm:h7 b VK VY VH)(cr:∀a∈Vg,a∈VK)(ar:∀w j U4,F w=Z (j,U4)->n6 VK j.2)(cs:hT b (.For Ve VQ VY [] UZ) (G4 (w_ F) (xx VK x)<|pV VK VH)):iw b Vg (.For Ve VQ VY [] UZ) (g8 F x VH):=by
 refine kq cs λUH z h db=>?_;let⟨w,P,aT,@U4,L,aj,ds,p⟩:=db;let⟨@⟨⟨H,n⟩,UR⟩,y,B⟩:=bN.mp ds;let⟨@⟨N,Vi⟩,dL,eq⟩:=cm.mp B;cases eq;refine⟨w,P,(H,n),UR,L,aj,y,λVP UP U3 UG ev af gg be am=>?_⟩;have ex:n6 VK n:=ar w _ _ y;have bi:=dR.mp am.aj;have an:∀{U6:ax}{G:List ah},a9 UP U3 U6 G->∀g∈UG,∀J,UP g=Z J->U6 g=Z J:=λm g fd J c=>m.keep g J c λe=>bi.2.2 g e g fd rfl;have bm:∀{U6:ax}{G:List ah}{d:a7},a9 UP U3 U6 G->dt VK z d->sA U6 d UG n:=λ{U6 G d} m N=>by
  cases n with
  |none=>trivial
  |some u=>
   let⟨a,r⟩:=u;let⟨@v,fn,fr⟩:=gg;exact⟨v,(N.2 a ex).trans fn,fr.mono m.tup<|an m⟩
 have bn:∀{d:a7},dt VK z d->dt Vg z d:=λN=>⟨N.1,λa UN=>N.2 a<|cr a UN⟩;have bs:∀{d:a7}{U6:ax}{G:List ah}{Vi:a4},sJ Vg UH z h P (lI n Vi) .bz->dt VK z d->bx U6 Vi d G->a9 UP U3 U6 G->UH.bz d U6:=λ{d U6 G Vi} p N ap q=>by
  let⟨I,@UU,as,Vr⟩:=yo ap (bm q N);exact p d U6 I (bn N) as ((am.trans q be).less Vr)
 refine⟨λa t a1 Q=>t+a=H.length/\∃i Vm,dt VK z a1/\bx Q i a1 Vm/\a9 UP U3 Q Vm/\en x VH (H.drop a) i=Z (N,Vi),⟨H.length,rfl,UR,U3,dt.refl,ev,a9.perm bi.1<|List.Perm.refl _,dL⟩,?_⟩;rintro a t a1 Q ⟨hw,i,Vm,s,bv,UI,M⟩;by_cases ca:a<H.length
 ·let@⟨f0,f1⟩:=af.go Q UI.tup (an UI) a H[a] (by simp[ca]);rw[jW ca,en]at M;let⟨@S,f2,f4⟩:=bN.mp M;let⟨@⟨cd,a2⟩,f8,R⟩:=bN.mp f4;refine .inr ⟨f0,λd U6=>(t-1)+(a+1)=H.length/\∃i Vm,dt VK z d/\bx U6 i d Vm/\a9 UP U3 U6 Vm/\en x VH (H.drop<|a+1) i=Z (N,Vi),λd U6 e=>⟨t-1,⋯,e⟩,λf U6 ga=>?_⟩;let@⟨bd,ge⟩:=f1 f U6 ga;have ap:=bv.mono bd.tupS λg W n c=>bd g n c;have q:=UI.same bd;refine⟨i,Vm,.im H[a],[],S,ap,⟨ge,rfl⟩,by rw[b8];exact q.aj,f2,λh0 gl I T as ce=>?_⟩;have C:a9 UP U3 gl I:=q.seq (by rw[b8]at ce;exact ce);refine⟨S,I,cd,a2,as,C.aj,f8,?_⟩;cases cd with
  |bz=>exact λU al E k l o=>⟨⋯,a2,E,(s.trans T).trans k,l,C.seq o,R⟩
  |ct=>exact λU al E k l o=>⟨⋯,a2,E,(s.trans T).trans k,l,C.seq o,R⟩
  |fg=>
   cases R;exact λU al E k l o=>bs p ((s.trans T).trans k) l (C.seq o)
  |a5 r=>
   cases R;intro v U al E ch k l gt o;have ci:=C.seq o;have cl:=(s.trans T).trans k;let⟨co,@g1,g2,g3⟩:=yo (UG:=UG) l (bm ci cl);refine p v U al co ch (bn cl) g2 gt ((am.trans ci be).less (aN:=g1) ?_);rw[bq];refine (dO co c8).trans ?_;rw[<-bq];refine (eQ ch g3).trans ?_;rw[bq,bq];exact dO _ c8
 ·have UN:a=H.length:=⋯
  subst UN;refine .inl ⟨af.stop Q UI.tup<|an UI,?_⟩;rw[p1 (bb _)]at M;cases M;exact bs p s bv UI
end
section
variable{b:aO}
variable{x:fh}
def kT{F:ay (List V×Option (Nat×ag))}{VH:bO}(c:sy (aR b.prog b.w) b.A b.env b.cF)(d:b.calm=X)(UN:kz b Ve VQ F)(e:hY b VK Ve x)(g:h7 b VK VY VH)(h:∀a∈Vg,a∈VK)(ar:∀w j U4,F w=Z (j,U4)->n6 VK j.2)(i:∀f,mW VQ b.env f=pure f:=by intro W;rfl):iw b Vg (.For Ve VQ VY [] UZ) (g8 F x VH):=
 K_ c d UN e g h ar (MK c d UN e g i)
def Nf(UK:Φ)(Wf:cb):c1:=(λz h UG=>Wf z h λf UP=>∃g,f=.ref g/\(((∃E,c9 UK UP g E)/\UG (rS UK g) UP)\/((∃E,cC UK UP g E)/\UG (tS UK g) UP)))
variable{I:bh}
def Sk{Wf:cb}(o:bD b I Wf):jb b Ve I (Nf b.K Wf):=by
 intro R m z h UG l e;refine bZ (o R m z h _ l e) λv a q=>?_;let⟨f,@UP,i,r,s⟩:=q;let⟨@g,c,p⟩:=s;subst c;cases r;rcases p with ⟨⟨E,j⟩,p⟩|⟨⟨E,j⟩,p⟩
 ·let⟨@UW,t,u,w⟩:=i.list j;refine Di u.isList ?_;refine⟨a.heap.objs.size,[a.heap.objs.size],_,_,UP,rfl,i.kept (Vd:=a.toks) λd n c=>bT _ c,N5 g _,⟨_,cR _ rfl,rfl,rfl⟩,λd k=>?_,p⟩;have c:d=a.heap.objs.size:=by simpa using k
  subst c;exact i.qc (bb _) (i.aY.fresh<|bb _)
 ·let⟨@UW,t,u,w⟩:=i.tuple j;refine wpAny_pyIter_tuple (show a.heap.IsTuple g UW.toArray from u) ?_;refine⟨a.heap.objs.size,[a.heap.objs.size],_,_,UP,rfl,i.kept (Vd:=a.toks) λd n c=>bT _ c,NI g _,⟨_,cR _ rfl,rfl,rfl⟩,λd k=>?_,p⟩;have c:d=a.heap.objs.size:=by simpa using k
  subst c;exact i.qc (bb _) (i.aY.fresh<|bb _)
theorem bI.get{h:ax}:∀{H:List V}{U:List ak}{a:Nat}{r:V},bI h H U->H[a]?=Z r->∃v,U[a]?=Z v/\cf h r v
 |[],_,_,_,_,c=>by simp at c
 |r::H,_,0,_,e,c=>by
  let⟨v,@j,rfl,y,B⟩:=e;simp at c;subst c;exact⟨v,rfl,y⟩
 |r::H,_,a+1,_,e,c=>by
  let⟨v,@j,rfl,y,B⟩:=e;let⟨@J,b,d⟩:=bI.get (a:=a) B ⇑c;exact⟨J,by simpa using b,d⟩
variable{g:ah}
theorem R7(e:h g=Z (.lst E))(hd:bI h H E):kZ (rS UK g) h [g] H where
 go:=λQ C q a r c=>by
  let⟨@v,b,d⟩:=hd.get c;have S:=c9.of (UK:=UK) (q g (.head _) _ e);refine⟨⟨E,v,S,b⟩,λf k ⟨i,j⟩=>?_⟩;subst i;rw[j E S]at b;cases b;exact⟨bV.refl _,d.mono C.tup⟩
 stop:=λQ C q=>⟨E,c9.of<|q g (.head _) _ e,by rw[<-hd.length];exact bb _⟩
theorem J4{n:aX}(e:h g=Z (.b6 n<|.lst E))(hd:bI h H E):kZ (rS UK g) h [] H where
 go:=λQ C q a r c=>by
  let⟨@v,b,d⟩:=hd.get c;have S:c9 UK Q g E:=.inl (.inr ⟨n,C.b6 _ _ _ e⟩);refine⟨⟨E,v,S,b⟩,λf k ⟨i,j⟩=>?_⟩;subst i;rw[j E S]at b;cases b;exact⟨bV.refl _,d.mono C.tup⟩
 stop:=λQ C q=>⟨E,.inl<|.inr ⟨n,C.b6 _ _ _ e⟩,by rw[<-hd.length];exact bb _⟩
theorem Pg(e:h g=Z (.tup E))(hd:bI h H E):kZ (tS UK g) h [] H where
 go:=λQ C q a r c=>by
  let⟨@v,b,d⟩:=hd.get c;have S:=cC.of (UK:=UK) (C.tup g _ e);refine⟨⟨E,v,S,b⟩,λf k ⟨i,j⟩=>?_⟩;subst i;rw[j E S]at b;cases b;exact⟨bV.refl _,d.mono C.tup⟩
 stop:=λQ C q=>⟨E,cC.of<|C.tup g _ e,by rw[<-hd.length];exact bb _⟩
abbrev iP:=ay (List V×Option (Nat×ag))
@[simp] def m1(r:ag):Option (List V):=match r with
 |.im (.tup H)=>Z H
 |.lst H=>Z H
 |.c2 H=>Z H
 |_=>Y
@[simp] def dC(F:ay bJ):iP:=λw=>(F w).bind λu=>match u.1 with
 |.dv r=>(m1 r).map λH=>((H,Y),u.2)
 |.bF a=>(dS a u.2).bind λp=>(m1 p.1).map λH=>((H,if p.1.c4=X then Y else Z (a,p.1)),p.2)
def H0(D:b2 h r v UG)(c:m1 r=Z H):
  ∃g,v=.ref g/\(((∃E,c9 UK h g E)/\kZ (rS UK g) h UG H)\/((∃E,cC UK h g E)/\kZ (tS UK g) h UG H)):=by
 unfold m1 at c;split at c
 ·cases c;let@⟨⟨g,@E,rfl,y,B⟩,rfl⟩:=D;exact⟨g,rfl,.inr ⟨⟨E,cC.of y⟩,Pg y B⟩⟩
 ·cases c;let⟨g,@E,rfl,y,B,rfl⟩:=D;exact⟨g,rfl,.inl ⟨⟨E,c9.of y⟩,R7 y B⟩⟩
 ·cases c;let⟨g,E,@n,rfl,y,B,rfl⟩:=D;exact⟨g,rfl,.inl ⟨⟨E,.inl<|.inr ⟨n,y⟩⟩,J4 y B⟩⟩
 ·cases c
def hq{F:ay bJ}(e:dN b I F):kz b Ve I (dC F):=by
 refine sN (Sk e) λz h E u=>?_;let⟨w,P,j,@U4,L,aj,x,p⟩:=u;let⟨@⟨f,UR⟩,y,B⟩:=bN.mp x;refine⟨w,P,f,UR,L,aj,y,λv UP U3 UG l c i=>?_⟩;cases f with
 |dv r=>
  let⟨@H,m,n⟩:=cm.mp B;cases n;let⟨@g,rfl,o⟩:=H0 (UK:=b.K) c m;refine⟨g,rfl,?_⟩;rcases o with ⟨d,af⟩|⟨d,af⟩
  ·exact .inl ⟨d,p _ UP U3 UG l af trivial (b2.chg c) i⟩
  ·exact .inr ⟨d,p _ UP U3 UG l af trivial (b2.chg c) i⟩
 |bF a=>
  let⟨@⟨r,Vi⟩,m,n⟩:=bN.mp B;let⟨@H,A,C⟩:=cm.mp n;cases C;let⟨J,G,@bU,q,k,s,D⟩:=FQ l m;let@⟨c,rfl⟩:=c;rw[c]at q;cases q;rw[b8]at i;have t:=i.k4 D.symm;let⟨@g,rfl,o⟩:=H0 (UK:=b.K) k A;have gg:sA UP z bU (if r.c4=X then Y else Z (a,r)):=by
   split
   ·trivial
   ·exact⟨_,c,k⟩
  refine⟨g,rfl,?_⟩;rcases o with ⟨d,af⟩|⟨d,af⟩
  ·exact .inl ⟨d,p _ UP G bU s af gg k.chg t⟩
  ·exact .inr ⟨d,p _ UP G bU s af gg k.chg t⟩
def rY{F:ay ag}:∀w j U4,dC (ae F) w=Z (j,U4)->n6 VK j.2:=by
 intro w j U4 e;let⟨@⟨f,UR⟩,y,B⟩:=bN.mp e;unfold ae at y;let⟨@u,c,a⟩:=cm.mp y;cases a;let⟨@H,d,b⟩:=cm.mp B;cases b
 trivial
variable{a:Nat}
def IX(UN:a∈VK):∀w j U4,dC (au a) w=Z (j,U4)->n6 VK j.2:=by
 intro w j U4 e;let⟨@⟨f,UR⟩,y,B⟩:=bN.mp e;unfold au at y;split at y
 ·cases y;let⟨@⟨r,Vi⟩,d,b⟩:=bN.mp B;let⟨@H,g,c⟩:=cm.mp b;cases c;show n6 VK (if r.c4=X then Y else Z (a,r));split
  ·trivial
  ·exact UN
 ·cases y
def hA(UJ:Int)(s:Nat):List V:=((range s).map λ(q:Nat)=>V.int (UJ+(q:Int)))
theorem QJ{UJ:Int}:kZ (t6 UJ s) h [] (hA UJ s) where
 go:=λQ C q a r c=>by
  have UN:a<s:=by
   have:=(eV.mp c).1
   rwa [hA,bl,fM]at this
  refine⟨UN,λf e ⟨b,d⟩=>?_⟩;subst b;rw[hA,dU,Hx UN]at c;cases c;exact⟨bV.refl _,d⟩
 stop:=λQ C q=>by
  show s<=_;rw[hA,bl,fM];exact bb _
def pU(a:Int):Prop :=( -1000000<=a/\a<=1000000)
noncomputable instance (a:Int):Decidable (pU a):=inferInstanceAs (Decidable<|_/\_)
@[simp] def ha(F:ay (List bJ)):iP:=λw=>(F w).bind λu=>(gw u.2 u.1).bind λH=>match H with
 |[.im (.int i)]=>if pU i then Z ((hA 0 i.toNat,Y),u.2) else Y
 |_=>Y
def y0{r:V}(e:m_ h [.im r] U):∃v,U=[v]/\cf h r v:=by
 let⟨v,@j,rfl,⟨@UG,y,W⟩,B⟩:=e;cases (show j=[] from B);exact⟨v,rfl,y⟩
def xe{r c:V}(e:m_ h [.im r,.im c] U):∃v J,U=[v,J]/\cf h r v/\cf h c J:=by
 let⟨v,@j,rfl,⟨@UG,y,W⟩,B⟩:=e;let⟨@J,rfl,a⟩:=y0 B;exact⟨v,J,rfl,y,a⟩
def pM{g:bh}(k:eM b "range")(l:b.aM "range" = Y)(d:fA b [g] F)(ar:bS [g] b.env=[(av,b7 g b.env)]:=by rfl):kz b Ve (.Call (.Name "range" u) [g] [] UZ) (ha F):=by
 refine sN (Rr k l d ar) λz h t m=>?_;let⟨w,P,j,@U4,L,aj,n,p⟩:=m;let⟨@⟨U5,UR⟩,y,B⟩:=bN.mp n;let⟨@H,o,a⟩:=bN.mp B;refine⟨w,P,U5,UR,L,aj,y,λU UP U3 x e q r=>?_⟩;have s:=q.read e o;split at a
 ·rename_i i;split at a
  ·rename_i f;cases a;let⟨@v,rfl,c⟩:=y0 s;cases (show v=.int i from c);exact⟨i,rfl,by have:=f.1;lia,by have:=f.2;lia,p _ UP U3 [] e QJ trivial (λg d=>nomatch d) (by rw[b8];exact r.less (List.Perm.refl _))⟩
  ·cases a
 ·cases a
def yD:∀w j U4,ha F w=Z (j,U4)->n6 VK j.2:=by
 intro w j U4 e;let⟨@⟨U5,UR⟩,y,B⟩:=bN.mp e;let⟨@H,b,a⟩:=bN.mp B;split at a
 ·split at a
  ·cases a;trivial
  ·cases a
 ·cases a
def wK(b:aO)(V4:List bh)(F:ay Bool):Prop:=(∀ ⦃u⦄,Ir b V4 (jz F) u)
def et:ay Bool:=(λw=>Z (X,w))
def tO:wK b [] et:=by
 intro R m z h A l a;let⟨w,P,d,@U4,L,aj,c,p⟩:=a;cases c;exact K6 R m z h A l (p h P L<|a9.perm aj<|List.Perm.refl _)
def vS{F:ay Bool}(e:hW b o F):wK b [o] F:=M7 e
@[simp] def kj(Vh:List Nat)(w:a4):a4:=Vh.map λa=>w.getD a Y
def k0:List Nat->a4->a4
 |[],w=>w
 |a::j,w=>k0 j (match w[a]? with|some (Z _)=>w.set a (Z .cQ)|_=>w)
@[simp] def iX:List Nat->a4->a4->a4
 |a::j,n::aN,w=>iX j aN (w.set a n)
 |_,_,w=>w
def fk(own:Nat)(Ve:fh)(o:ay Bool)(c:ay ag): List V -> List V -> a4 -> Option (List V × a4)
  |[],Vv,aN => Z (Vv,aN)
  |f :: j,Vv,aN => (Ve (.im f)<|List.replicate own Y ++ aN).bind λUR => (o UR).bind λu => if u.1=X then (c u.2).bind λp => match p.1 with
      |.im r => if Vv.length<100000 then fk own Ve o c j (Vv ++ [r]) (p.2.drop own) else Y
      |_ => Y
    else fk own Ve o c j Vv (u.2.drop own)
@[simp] def dh(own:Nat)(Vh:List Nat)(C:iP)(Ve:fh)(o:ay Bool)(c:ay ag):ay ag:=λw=>(C w).bind λu=>(fk own Ve o c u.1.1 []<|kj Vh u.2).map λp=>(.lst p.1,lI u.1.2<|iX Vh p.2 u.2)
def qt(own s:Nat):List Nat:=((range s).map (·+own))
def PJ(e:w[a]?=Z n):w.getD a Y=n:=by rw[cA,e];rfl
def bx.void(L:bx h w z P)(a:Nat):∃U3 G,bx h (match w[a]? with|some (Z _)=>w.set a (Z .cQ)|_=>w) z U3/\nk h (w.getD a Y) (z.getD a Y) G/\(U3++G).Perm P:=by
 split
 ·rename_i r hd;let⟨v,U3,@G,y,B,b,d⟩:=L.out hd;refine⟨G,U3,b,?_,d⟩;rw[PJ hd,cA,y];exact⟨v,rfl,B⟩
 ·rename_i e;refine⟨P,[],L,?_,by rw[b8]⟩;have:w.getD a Y=Y:=by
   rw[cA];cases c:w[a]? with
   |none=>rfl
   |some n=>
    cases n with
    |none=>rfl
    |some r=>exact absurd c (e r)
  rw[this];exact rfl
theorem Hy{h:ax}{z:a7}:∀{Vh:List Nat}{w:a4}{P:List ah},Vh.Nodup->bx h w z P->∃U3 G,bx h (k0 Vh w) z U3/\bx h (kj Vh w) (Vh.map λa=>z.getD a Y) G/\(U3++G).Perm P
 |[],w,P,_,L=>⟨P,[],L,⟨rfl,rfl⟩,by rw[b8]⟩
 |a::j,w,P,aj,L=>by
  let⟨U3,@G,y,B,f⟩:=L.void a;have b:=gC.mp aj;let⟨g,@d,k,e,l⟩:=Hy (Vh:=j) b.2 y;refine⟨g,G++d,k,⟨_,_,G,d,rfl,B,?_,rfl⟩,kI.trans<|(dO _ l).trans<|c8.trans f⟩;have c:kj j (match w[a]? with|some (Z _)=>w.set a (Z .cQ)|_=>w)=kj j w:=by
   unfold kj;refine oI λi m=>?_;split
   ·rw[cA,cA,ow];rintro rfl;exact b.1 m
   ·rfl
  rw[c]at e;exact e
def bx.N9(L:bx h w z P)(e:nk h n (z.getD a Y) UU):∃U3 G,bx h (w.set a n) z U3/\(U3++G).Perm (P++UU):=by
 cases n with
 |some r=>
  let⟨@v,c,D⟩:=e;refine L.back D ?_;rw[cA]at c;cases p:z[a]? with
  |none=>rw[p]at c;cases c
  |some f=>rw[p]at c;rw[show f=Z v from c]
 |none=>
  cases (show UU=[] from e);rw[b8];by_cases UN:a<w.length
  ·cases p:w[a]? with
   |none=>exact absurd (List.getElem?_eq_none_iff.mp p) ⋯
   |some f=>
    cases f with
    |none=>
     refine⟨P,[],?_,by rw[b8]⟩;have:w.set a Y=w:=by
      refine qE λi=>?_;by_cases c:a=i
      ·subst c;rw[p,tU UN]
      ·rw[ow c]
     rw[this];exact L
    |some r=>
     let⟨v,U3,@G,y,B,m,o⟩:=L.out p;have gen:∀{w:a4}{z:a7}{P:List ah}{a:Nat},bx h w z P->∃U3 G,bx h (w.set a Y) z U3/\(U3++G).Perm P:=by
      intro w;induction w with
      |nil=>intro z P a L;exact⟨P,[],by simpa using L,by rw[b8]⟩
      |cons n w d=>
       intro z P a L;let⟨f,j,O,@Vx,rfl,g,b,rfl⟩:=L;cases a with
       |zero=>exact⟨Vx,O,⟨f,j,[],Vx,rfl,rfl,b,rfl⟩,c8⟩
       |succ a=>
        let⟨aN,@UH,k,l⟩:=d (a:=a) b;refine⟨O++aN,UH,⟨f,j,O,aN,rfl,g,k,rfl⟩,?_⟩;rw[bq];exact dO _ l
     exact gen L
  ·refine⟨P,[],?_,by rw[b8]⟩;rw[List.set_eq_of_length_le ⋯];exact L
theorem GS{h:ax}{z:a7}:∀{Vh:List Nat}{aN w:a4}{P UU:List ah},bx h w z P->bx h aN (Vh.map λa=>z.getD a Y) UU->∃U3 G,bx h (iX Vh aN w) z U3/\(U3++G).Perm (P++UU)
 |[],aN,w,P,UU,L,_=>⟨P,UU,by cases aN<;>exact L,List.Perm.refl _⟩
 |a::j,[],w,P,UU,L,e=>⟨P,UU,L,List.Perm.refl _⟩
 |a::j,n::aN,w,P,UU,L,e=>by
  let⟨f,C,g,@i,c,y,B,rfl⟩:=e;cases c;let⟨U3,@O,b,d⟩:=L.N9 y;let⟨G,@Vx,Vf,Vt⟩:=GS (Vh:=j) (aN:=aN) b B;refine⟨G,Vx++O,Vf,?_⟩;rw[<-bq,<-bq];refine (eQ O Vt).trans ?_;rw[bq];refine (dO U3 c8).trans ?_;rw[<-bq];exact eQ _ d
def Lz:∀{Vh:List Nat}{aN w:a4},Vh.length=aN.length->Vh.Nodup->iX Vh aN (k0 Vh w)=iX Vh aN w:=by
 have m:∀{j:List Nat}{aN w:a4}{a:Nat}{n:Option ag},a∉j->iX j aN (w.set a n)=(iX j aN w).set a n:=by
  intro j;induction j with
  |nil=>intro aN w a n W;cases aN<;>rfl
  |cons i j b=>
   intro aN w a n e;cases aN with
   |nil=>rfl
   |cons o aN=>
    have f:a≠i:=λc=>e (by rw[c];exact .head _);show iX j aN ((w.set a n).set i o)=(iX j aN<|w.set i o).set a n;rw[ES _ _ f,b λk=>e<|.tail _ k]
 have g:∀{j:List Nat}{w:a4}{a:Nat}{n:Option ag},a∉j->k0 j (w.set a n)=(k0 j w).set a n:=by
  intro j;induction j with
  |nil=>intro w a n W;rfl
  |cons i j b=>
   intro w a n e;have f:a≠i:=λc=>e (by rw[c];exact .head _);show k0 j (match (w.set a n)[i]? with|some (Z _)=>(w.set a n).set i (Z .cQ)|_=>w.set a n)=(k0 j (match w[i]? with|some (Z _)=>w.set i (Z .cQ)|_=>w)).set a n;rw[ow f];cases w[i]? with
   |none=>exact b λk=>e (.tail _ k)
   |some p=>
    cases p with
    |none=>exact b λk=>e (.tail _ k)
    |some r=>
     show k0 j ((w.set a n).set i<|Z .cQ)=_;rw[ES _ _ f];exact b λk=>e (.tail _ k)
 intro Vh;induction Vh with
 |nil=>intro aN w W W;cases aN<;>rfl
 |cons a j b=>
  intro aN w h aj;have d:=gC.mp aj;cases aN with
  |nil=>cases h
  |cons o aN=>
   have l:j.length=aN.length:=by simpa using h
   show iX j aN ((k0 j (match w[a]? with|some (Z _)=>w.set a (Z .cQ)|_=>w)).set a o)=iX j aN (w.set a o);split
   ·rw[g d.1,pH,<-g d.1,b l d.2]
   ·rw[<-g d.1,b l d.2]
theorem FZ{h:ax}{w:a4}{j:a7}{P:List ah}(e:bx h w j P):∀{own:List aC},bx h (List.replicate own.length Y++w) (own.map (λ_=>Y)++j) P
 |[]=>e
 |f::own=>⟨Y,_,[],P,rfl,rfl,FZ e (own:=own),rfl⟩
theorem zE{h:ax}:∀{s:Nat}{w:a4}{z:a7}{P:List ah},bx h w z P->∃U3 G,bx h (w.drop s) (z.drop s) U3/\(U3++G).Perm P
 |0,w,z,P,e=>⟨P,[],e,by rw[b8]⟩
 |s+1,[],z,P,e=>by
  cases e.1;exact⟨[],P,⟨rfl,rfl⟩,List.Perm.refl _⟩
 |s+1,n::w,z,P,e=>by
  let⟨f,j,O,@Vx,rfl,y,B,rfl⟩:=e;let⟨U3,@G,a,b⟩:=zE (s:=s) B;exact⟨U3,G++O,a,by rw[<-bq];exact (eQ O b).trans c8⟩
def a9.both(g:a9 h P UP (U3++UG)):a9 h P UP U3:=g.less (List.Perm.refl _)
theorem bI.snoc:∀{H:List V}{U:List ak}{r:V}{v:ak},bI h H U->cf h r v->bI h (H++[r]) (U++[v])
 |[],U,r,v,e,D=>by cases (show U=[] from e);exact⟨v,[],rfl,D,rfl⟩
 |c::H,U,r,v,e,D=>by
  let⟨J,@j,rfl,y,B⟩:=e;exact⟨J,j++[v],rfl,y,B.snoc D⟩
variable{C:iP}
def Ew(aj:Vh.Nodup)(e:jF (dh own.length Vh C x V1 Wd) z h A):
  wh own Vh (w_ C) (λ_=>xx (qt own.length Vh.length) x) (λ_=>jz V1) (λ_=>jF Wd) z h A:=by
 let⟨w,P,j,@U4,L,f1,f2,p⟩:=e;let⟨@⟨⟨E,n⟩,UR⟩,y,B⟩:=bN.mp f2;let⟨@⟨H,bv⟩,f4,f8⟩:=cm.mp B;cases f8;refine⟨w,P,(E,n),UR,L,f1,y,λVP UP U3 UG ga af gg ge gl ln=>?_⟩;let⟨mA,@M,ca,l,Vr⟩:=Hy aj ga;have cd:a9 h P UP (M++(mA++UG)):=gl.k4 (by
  refine (eQ UG Vr.symm).trans ?_;rw[bq];exact kI)
 have ce:=dR.mp cd.aj;have gt:∀f∈mA++UG,fZ UP f:=λf F=>by
  rcases ed.mp F with F|F
  ·exact ca.chg f F
  ·exact ge f F
 have al:∀{U6:ax}{G:List ah},a9 UP M U6 G->∀g∈mA++UG,∀J,UP g=Z J->U6 g=Z J:=λm g b J c=>m.keep g J c λe=>ce.2.2 g e g b rfl;refine⟨λa t U0 Q=>t+a=E.length/\∃Vv aN I,bx Q aN (Vh.map λa=>z.getD a Y) I/\aN.length=Vh.length/\a9 UP M Q I/\bI Q Vv U0/\fk own.length x V1 Wd (E.drop a) Vv aN=Z (H,bv),
  ⟨E.length,rfl,[],kj Vh UR,M,l,by rw[kj,bl],a9.perm ce.1<|List.Perm.refl _,rfl,f4⟩,?_⟩;rintro a t U0 Q ⟨am,Vv,aN,I,ch,g1,UI,ci,an⟩;by_cases cl:a<E.length
 ·let@⟨g2,g3⟩:=af.go Q UI.tup (λg b=>al UI g<|dT _ b) a E[a] (by simp[cl]);rw[jW cl,fk]at an;let⟨@S,hd,he⟩:=bN.mp an;let⟨@⟨d,a1⟩,hf,R⟩:=bN.mp he;refine .inr ⟨g2,λco U6=>(t-1)+(a+1)=E.length/\∃Vv aN I,bx U6 aN (Vh.map λa=>z.getD a Y) I/\aN.length=Vh.length/\a9 UP M U6 I/\bI U6 Vv co/\fk own.length x V1 Wd (E.drop<|a+1) Vv aN=Z (H,bv),λco U6 e=>⟨t-1,⋯,e⟩,λf U6 F=>?_⟩;let@⟨q,hm⟩:=g3 f U6 F;have hw:=ch.mono q.tupS λg W n c=>q g n c;have cr:=UI.same q;have ap:=ci.mono q.tupS.tup;refine⟨List.replicate own.length Y++aN,I,.im E[a],[],S,FZ hw,⟨hm,rfl⟩,by rw[b8];exact cr.aj,hd,λa2 h0 cs as db bd=>⟨λi v o=>?_,?_⟩⟩
  ·
   have ls:own.length<=i:=by
    by_cases ii:i<own.length
    ·rw[j7,mc ⇑ii,dU]at o;cases c:own[i]? with
     |none=>rw[c]at o;cases o
     |some k=>rw[c]at o;cases o
    ·lia
   have lv:i<own.length+Vh.length:=by
    have:=(eV.mp o).1
    rwa [j7,dW,bl,bl]at this
   have am:i∈qt own.length Vh.length:=da.mpr ⟨i-own.length,eT.mpr ⋯,⋯⟩;exact (as.2 i am).trans o
  ·have ds:a9 UP M h0 cs:=cr.seq (by rw[b8]at bd;exact bd);have ap:=ap.mono bd.tup.tup;have dL:a2.drop own.length=Vh.map λa=>z.getD a Y:=by
    have lw:=db.len;refine qE λi=>?_;by_cases o:i<Vh.length
    ·have am:i+own.length∈qt own.length Vh.length:=da.mpr ⟨i,eT.mpr o,rfl⟩;have:=as.2 _ am;rw[mv,EN,this,j7,kH ↥0,bl,ys]
    ·have mb:a2.length<=own.length+Vh.length:=by
      rw[as.1,j7,dW,bl,bl];exact bb _
     rw[sM (by rw[hH];lia),sM (by rw[bl];lia)]
   have eq:a2.length=own.length+Vh.length:=by rw[as.1,j7,dW,bl,bl]
   refine⟨S,cs,d,a1,db,ds.aj,hf,λmo be N bi=>?_⟩;have T:=ds.seq bi;dsimp only at R ⊢;cases d with
   |false=>
    rw[aL cU]at R ⊢;let⟨U,@ev,D,bm⟩:=zE (s:=own.length) N;rw[dL]at D;exact⟨⋯,Vv,a1.drop own.length,U,D,by rw[hH,N.len,eq];lia,T.less bm,ap.mono bi.tup.tup,R⟩
   |true=>
    rw[aK rfl]at R ⊢;let⟨@⟨v,ex⟩,io,O⟩:=bN.mp R;dsimp only at O;split at O
    ·rename_i r;split at O
     ·rename_i ms;refine⟨a1,be,.im r,ex,N,T.aj,io,λJ m0 U na D Vc bn=>?_⟩;let@⟨it,rfl⟩:=Vc;rw[b8]at bn;have fd:=(ap.mono bi.tup.tup).mono bn.tup.tup;refine⟨uq (show U0.length<=100000 by rw[<-fd.length];lia) ∅,?_⟩;let⟨jp,@nb,fn,kt⟩:=zE (s:=own.length) D;rw[dL]at fn;exact⟨⋯,Vv++[r],ex.drop own.length,jp,fn,by rw[hH,D.len,eq];lia,(T.seq bn).less kt,fd.snoc it,O⟩
     ·cases O
    ·cases O
 ·have UN:a=E.length:=⋯
  subst UN;refine .inl ⟨af.stop Q UI.tup<|λg b=>al UI g<|dT _ b,λbs fr=>?_⟩;rw[p1 (bb _),fk]at an;cases an;have kw:bx Q (k0 Vh UR) z mA:=ca.mono UI.tup λg b=>al UI g (fl _ b);let⟨be,@f0,N,lc⟩:=GS kw ch;rw[Lz (by rw[g1]) aj]at N;have lf:sA Q z UG n:=by
   cases n with
   |none=>trivial
   |some u=>
    let⟨a,r⟩:=u;let⟨@v,li,lm⟩:=gg;exact⟨v,li,lm.mono UI.tup λg b=>al UI g<|dT _ b⟩
  let⟨U,@ev,D,bm⟩:=yo (UG:=UG) N lf;have q:bV Q (upd Q bs<|.lst U0):=(bV.refl Q).upd fr;have T:a9 h P Q U:=(cd.trans UI gt).less (aN:=ev++f0) (by
   rw[<-bq];refine (eQ f0 bm).trans ?_;rw[bq];refine (dO be c8).trans ?_;rw[<-bq];refine (eQ UG lc).trans ?_;rw[bq];exact kI)
  exact p _ _ U [bs] (D.mono q.tupS λg W n c=>q g n c) ⟨bs,U0,rfl,dp,ci.mono q.tupS.tup,rfl⟩ (T.add fr D.chg)
def s_{V8:bh}{V4:List bh}{U2:eO}(c:b.calm=X)(UM:hK b U2 own Vh)(aj:Vh.Nodup)(UN:kz b Ve VQ C)(d:∀a,hY (b.fK (fP b own Vh) U2 a) (qt own.length Vh.length) Ve x)(bP:∀a,wK (b.fK (fP b own Vh) U2 a) V4 V1)(g:∀a,b5 (b.fK (fP b own Vh) U2 a) V8 Wd)(ar:∀f,mW VQ b.env f=pure f:=by intro W;rfl):b5 b (.ListComp V8 [⟨Ve,VQ,V4,0⟩] U2 UZ) (dh own.length Vh C x V1 Wd):=
 eh (KY c UM UN d bP g ar) λz h A e=>Ew aj e
end
@[simp] def ia(Vg:List Nat):List ag->a4->Nat->List ag
 |r::H,n::w,i=>(if r.c4=X then r else if i∈Vg then n.getD .cQ else .cQ)::ia Vg H w (i+1)
 |r::H,[],i=>(if r.c4=X then r else .cQ)::ia Vg H [] (i+1)
 |[],_,_=>[]
@[simp] def dF(s t:Nat)(Vg:List Nat)(F:bO):dA:=λH=>if H.length=s then match F (H.map Z++List.replicate (t-s) Y) with
 |some (.a5 j,w)=>Z (j,ia Vg H w 0)
 |some (.bz,w)=>Z (.im .aS,ia Vg H w 0)
 |_=>Y else Y
theorem w0{h:ax}:∀{H:List ag}{U:List ak}{P:List ah}{t:Nat},c0 h H U P->bx h (H.map Z++List.replicate t Y) (U.map Z++List.replicate t Y) P
 |[],U,P,t,e=>by
  let@⟨rfl,rfl⟩:=e;show bx h (List.replicate t Y) (List.replicate t Y) [];induction t with
  |zero=>exact⟨rfl,rfl⟩
  |succ t a=>exact⟨Y,_,[],[],rfl,rfl,a,rfl⟩
 |r::H,U,P,t,e=>by
  let⟨v,j,U3,@G,rfl,y,B,rfl⟩:=e;exact⟨Z v,_,U3,G,rfl,⟨v,rfl,y⟩,w0 B,rfl⟩
theorem uD{h Q:ax}{Vg:List Nat}(C:e2 h Q):∀{H:List ag}{U:List ak}{o:List ah}{w:a4}{z:a7}{P:List ah}{a:Nat},c0 h H U o->bx Q w z P->(∀(i:Nat) (v:ak),(a+i)∈Vg->U[i]?=Z v->z[i]?=Z (Z v))->
  ∃UG UU,c0 Q (ia Vg H w a) U UG/\(UG++UU).Perm P
 |[],U,o,w,z,P,a,e,L,_=>⟨[],P,by unfold ia;exact⟨e.1,rfl⟩,List.Perm.refl _⟩
 |r::H,U,o,[],z,P,a,e,L,q=>by
  let⟨v,j,O,@Vx,rfl,y,B,rfl⟩:=e;let@⟨rfl,rfl⟩:=L;let⟨UG,@UU,b,d⟩:=uD (w:=[]) (z:=[]) (P:=[]) (a:=a+1) C B ⟨rfl,rfl⟩ λi v p s=>by
   have:=q (i+1) v (by rw[show a+(i+1)=a+1+i by lia];exact p) ⇑s;simp at this
  rw[ia];refine⟨UG,UU,⟨v,j,[],UG,rfl,?_,b,rfl⟩,d⟩;split
  ·rename_i k;have:=y.mono C λg l=>by rw[y.c4 k]at l;cases l
   rw[y.c4 k]at this;exact this
  ·exact rfl
 |r::H,U,o,n::w,z,P,a,e,L,q=>by
  let⟨v,j,O,@Vx,rfl,y,B,rfl⟩:=e;let⟨f,m,aN,@UH,rfl,u,x,rfl⟩:=L;let⟨UG,@UU,b,d⟩:=uD (w:=w) (z:=m) (a:=a+1) C B x λi v p s=>by
   have:=q (i+1) v (by rw[show a+(i+1)=a+1+i by lia];exact p) ⇑s;simpa using this
  rw[ia];split
  ·rename_i k;have t:=y.mono C λg l=>by rw[y.c4 k]at l;cases l
   rw[y.c4 k]at t;refine⟨UG,UU++aN,⟨v,j,[],UG,rfl,t,b,rfl⟩,?_⟩;rw[<-bq];exact (eQ aN d).trans c8
  ·split
   ·rename_i A;have E:f=Z v:=by
     have:=q 0 v A rfl;simpa using this
    subst E;cases n with
    |none=>
     refine⟨UG,UU++aN,⟨v,j,[],UG,rfl,rfl,b,rfl⟩,?_⟩;rw[<-bq];exact (eQ aN d).trans c8
    |some c=>
     let⟨@G,F,D⟩:=u;cases F;refine⟨aN++UG,UU,⟨v,j,aN,UG,rfl,D,b,rfl⟩,?_⟩;rw[bq];exact dO _ d
   ·refine⟨UG,UU++aN,⟨v,j,[],UG,rfl,rfl,b,rfl⟩,?_⟩;rw[<-bq];exact (eQ aN d).trans c8
section
variable{UT:bC}{D:bc}{UK:Φ}{aM:aC->Option ab}{UY:aZ}
def P_{VN:aC}{N:ah}{Vb:List aC}{q:Nat}{F:bO}(P:fT UK f VN L N fd)(UM:ks Vb U1 (dm L))(z:U1.length=s)(I:∀a∈Vg,a<s)(B:∀(k:ab) (O:bw) (VF:List eu) (m:ai) (h:ax) (UH:fO),dB q (O.deeper<|h3 VN (dm L) m.heap.objs.size N k)->h7 (ja gB UT D UK aM UY Vb VN (dm L) N k O VF m h UH).jN Vg (fL L) F):
  h5 UT D UK aM UY gB (q+1) N fd U1 (jY s<|dF s Vb.length Vg F):=by
 refine P.ok UM (λU h A UH e=>e.1.trans z.symm) (λk O VF m h U A UH UQ e=>⟨_,B k O VF m h UH UQ,?_⟩);let@⟨o,⟨H,n,j,@l,Vc,aj,b,p⟩⟩:=e;have C:H.length=s:=Vc.length.trans o;unfold dF at b;rw[aK C]at b;have L:=w0 (t:=Vb.length-s) Vc;have T:start Vb U=U.map Z++List.replicate (Vb.length-s) Y:=by unfold start;rw[o]
 rw[T];have r:∀{d:a7}{Q:ax}{Vm:List ah}{U4:a4}{v:ak}{UG:List ah},ia Vg H U4 0=l->dt Vg (U.map Z++List.replicate (Vb.length-s) Y) d->bx Q U4 d Vm->b2 Q j v UG->a9 h n Q (Vm++UG)->A v Q:=λ{d Q Vm U4 v UG} E VK g x UI=>by
  let⟨bU,@UU,u,G⟩:=uD (Vg:=Vg) (a:=0) UI.tup Vc g λi v w y=>by
   rw[xM]at w;rw[VK.2 i w,mc (by rw[bl];exact (eV.mp y).1),dU,y];rfl
  rw[E]at u;refine p v Q UG bU x u (UI.less (aN:=UU) ?_);rw[bq];exact (dO UG G).trans c8
 split at b
 ·rename_i VA U4 c;cases b;exact⟨_,n,.a5 j,U4,L,aj,c,λv d Q Vm UG VK g x UI=>r rfl VK g x UI⟩
 ·rename_i U4 c;cases b;exact⟨_,n,.bz,U4,L,aj,c,λd Q Vm VK g UI=>r rfl VK g ⟨rfl,rfl⟩ (by rw[b8];exact UI)⟩
 ·cases b
end
def cu(h:ax)(r:ag)(A:cL):Prop:=(∀v Q UG,bV h Q->b2 Q r v UG->UG.Nodup->(∀g∈UG,h g=Y)->A v Q)
def cu.Jg{r:V}(p:cu h (.im r) A)(m:bV h Q)(e:cf Q r v):A v Q:=p v Q [] m ⟨e,rfl⟩ g4 (λg a=>nomatch a)
def cu.i{h:ax}{r:V}{A:cL}{v:ak}(p:cu h (.im r) A)(e:cf h r v):A v h:=p.Jg (bV.refl h) e
def cu.l{u:ah}(p:cu h (.lst H) A)(a:h u=Y)(e:bI h H E):A (.ref u) (upd h u<|.lst E):=by
 have m:bV h (upd h u<|.lst E):=(bV.refl h).upd a;exact p _ _ [u] m ⟨u,E,rfl,dp,e.mono m.tupS.tup,rfl⟩ (gh _ _) λg b=>by rw[cN.mp b];exact a
def cu.t{h:ax}{H:List V}{E:List ak}{A:cL}{u:ah}(p:cu h (.im<|.tup H) A)(a:h u=Y)(e:bI h H E):A (.ref u) (upd h u<|.tup E):=by
 have m:bV h (upd h u<|.tup E):=(bV.refl h).upd a;exact p.Jg m ⟨u,E,rfl,dp,e.mono m.tupS.tup⟩
section
variable{b:aO}
def dH.imp{N:ab->ab->dw ab}{j:bU}(e:dH b N j)(a:∀f x h A,VA f x h A->j f x h A):dH b N VA:=λR m z h f x v J A l c d g=>e R m z h f x v J A l c d (a f x h A g)
def eR.imp{N:ab}{j VA:List ak->ax->cL->Prop}(e:eR b N j)(a:∀E h A,VA E h A->j E h A):eR b N VA:=λR m z h E Va A l c d=>e R m z h E Va A l c (a E h A d)
def iv.imp{j:bU}(e:iv b j)(a:∀f x h A,VA f x h A->j f x h A):iv b VA:=λc d R m z h f x v J A l g i k=>e c d R m z h f x v J A l g i (a f x h A k)
def eE.i{h:ax}{r:V}{v:ak}(e:eE h (.im r) v):cf h r v:=e.elim λ_ D=>D.1
end
abbrev f6:=ag->ag->Option ag
@[simp] def i0(aN:Int->Int->Bool)(F:Int->Int->V):f6:=λg d=>match g,d with
 |.im (.int a),.im (.int i)=>if aN a i=X then Z (.im<|F a i) else Y
 |_,_=>Y
def Hl{aN:Int->Int->Bool}{F:Int->Int->V}{g d:ag}(e:i0 aN F g d=Z r):∃a i,g=.im (.int a)/\d=.im (.int i)/\aN a i=X/\r=.im (F a i):=by
 unfold i0 at e;split at e
 ·rename_i a i;split at e
  ·rename_i b;cases e;exact⟨a,i,rfl,rfl,b,rfl⟩
  ·cases e
 ·cases e
section
variable{b:aO}
variable{N:ab->ab->dw ab}{F:Int->Int->ak}{e:Int->Int->V}
def t8{aN:Int->Int->Prop}{Vx:Int->Int->Bool}(n:dH b N (pX aN F))(d:∀a i,Vx a i=X->aN a i)(g:∀h a i,cf h (e a i)<|F a i):fe b N (i0 Vx e):=
 n.imp λf x h A ⟨Vz,Vy,r,j,k,c,p⟩=>by
  let⟨a,@i,rfl,rfl,l,rfl⟩:=Hl c;exact⟨a,i,j.i,k.i,d a i l,cu.i p<|g h a i⟩
def qV(n:dH b N (l7 F))(d:∀h a i,cf h (e a i)<|F a i):fe b N (i0 (λ_ W=>X) e):=
 n.imp λf x h A ⟨Vz,Vy,r,g,j,c,p⟩=>by
  let⟨a,@i,rfl,rfl,k,rfl⟩:=Hl c;exact⟨a,i,g.i,j.i,cu.i p<|d h a i⟩
@[simp] def jT:f6:=i0 (λ_ W=>X) λa i=>.int (a-i)
def hn(a i:Int):Bool:=(!(decide (br.Int.intBits a>tP)&&decide (br.Int.intBits i>tP)&&br.Int.intTooBig (br.Int.intBits a+br.Int.intBits i)))
@[simp] def es:f6:=i0 hn λa i=>.int (a*i)
@[simp] def nd:f6:=i0 (λ_ i=>decide (0<i/\i<1073741824)) λa i=>.int (a/i)
@[simp] def fU:f6:=i0 (λ_ i=>decide (0<i)) λa i=>.int (a%i)
@[simp] def mr:f6:=i0 (λa i=>decide (0<=i/\i<=1000000/\a.natAbs<2^64)) λa i=>.int (a^i.toNat)
@[simp] def h8:f6:=i0 (λ_ W=>X) λa i=>.aE (decide (a<i))
@[simp] def gv:f6:=i0 (λ_ W=>X) λa i=>.aE (decide (a<=i))
@[simp] def ot:f6:=i0 (λ_ W=>X) λa i=>.aE (decide (i<a))
@[simp] def Fp:f6:=i0 (λ_ W=>X) λa i=>.aE (decide (i<=a))
def wc:fe b (gi .Sub) jT:=qV Qr λ_ W W=>rfl
def iT:fe b (gi .Mult) es:=t8 SG (λa i e=>by unfold hn at e;unfold IntMulOk;rw[nL]at e;rw[e];exact cU) λ_ W W=>rfl
def AI:fe b (gi .FloorDiv) nd:=t8 Od (λa i e=>show 0<i/\i<1073741824 from fY e) λ_ W W=>rfl
def mL:fe b (gi .Mod) fU:=t8 M1 (λa i e=>fY e) λ_ W W=>rfl
def v5:fe b (gi .Pow) mr:=t8 PC (λa i e=>show 0<=i/\i<=1000000/\a.natAbs<2^64 from fY e) λ_ W W=>rfl
def rT:fe b (d1 .Lt) h8:=qV Sb λ_ W W=>rfl
def wm:fe b (d1 .LtE) gv:=qV O5 λ_ W W=>rfl
def Bl:fe b (d1 .Gt) ot:=qV JE λ_ W W=>rfl
def R5:fe b (d1 .GtE) Fp:=qV Ta λ_ W W=>rfl
def Tw:dH b (gi .Add) (λf x h A=>∃g d U0,f=.ref g/\x=.ref d/\cC b.K h g []/\cC b.K h d U0/\A (.ref d) h):=by
 intro R m z h f x v J A l o q e;let⟨g,d,@U0,rfl,rfl,r,t,p⟩:=e;cases o;cases q;let⟨@UW,u,w,W⟩:=l.tuple r;let⟨@D,E,VI,W⟩:=l.tuple t;have c:UW=[]:=u.wQ.mpr rfl;subst c;let⟨@⟨cls,y,data,bF⟩,a,i,⟨@s,hd⟩⟩:=id w;let⟨@⟨F,B,data2,C⟩,j,k,⟨@VT,n⟩⟩:=id VI;simp only at i hd k n;subst i hd k n;exact Af ⟨_,a,rfl⟩ ⟨_,j,rfl⟩ yi AW zm yq (Am _ _) (tuple_addW0 g d _ _ s VT y B bF C rfl) ⟨a,j,.ref d,h,l,rfl,p⟩
@[simp] def dJ:f6:=λg d=>match g,d with
 |.im (.int a),.im (.int i)=>Z (.im<|.int<|a+i)
 |.im (.tup f),.im (.tup x)=>if f.length+x.length<=100000 then Z (.im<|.tup<|f++x) else Y
 |.lst f,.lst x=>if f.length+x.length<=100000 then Z (.lst<|f++x) else Y
 |.im (.str f),.im (.str x)=>if f.length+x.length<=100000 then Z (.im<|.str<|f++x) else Y
 |_,_=>Y
theorem bI.app:∀{g d:List V}{f x:List ak},bI h g f->bI h d x->bI h (g++d) (f++x)
 |[],d,f,x,e,q=>by cases (show f=[] from e);exact q
 |r::g,d,f,x,e,q=>by
  let⟨v,@j,rfl,y,B⟩:=e;exact⟨v,j++x,rfl,y,B.app q⟩
def bI.nil{h:ax}{g:List V}(e:bI h g []):g=[]:=by
 cases g with
 |nil=>rfl
 |cons r g=>let⟨W,@W,c,W⟩:=e;cases c
def hb:fe b (gi .Add) dJ:=by
 refine (M5.or<|Tw.or<|JM.or<|TS.or Ku).imp λf x h A z=>?_;let⟨Vz,Vy,@r,n,o,c,p⟩:=z;unfold dJ at c;split at c
 ·cases c;exact .inl ⟨_,_,n.i,o.i,cu.i p rfl⟩
 ·rename_i g d;split at c
  ·rename_i j;cases c;let⟨u,@E,rfl,y,B⟩:=n.i;let⟨k,@U0,rfl,m,e⟩:=o.i;refine .inr ?_;by_cases v:E=[]
   ·subst v;cases B.nil;exact .inl ⟨u,k,U0,rfl,rfl,cC.of y,cC.of m,cu.i p ⟨k,U0,rfl,m,e⟩⟩
   ·refine .inr (.inl ⟨u,k,E,U0,rfl,rfl,cC.of y,cC.of m,v,k3 (by rw[<-B.length,<-e.length];exact j),λw=>?_,λw s q=>cu.t p q<|B.app e⟩);subst w;cases e.nil;rw[b8]at p;exact cu.i p ⟨u,E,rfl,y,B⟩
  ·cases c
 ·rename_i g d;split at c
  ·rename_i j;cases c;let⟨W,u,@E,rfl,y,B,W⟩:=n;let⟨W,k,@U0,rfl,m,e,W⟩:=o;exact .inr (.inr (.inr (.inl ⟨u,k,E,U0,rfl,rfl,y,m,k3 (by rw[<-B.length,<-e.length];exact j),λs q=>cu.l p q<|B.app e⟩)))
  ·cases c
 ·rename_i g d;split at c
  ·rename_i j;cases c;exact .inr (.inr<|.inr<|.inr ⟨g,d,n.i,o.i,k3 j,cu.i p rfl⟩)
  ·cases c
 ·cases c
def Pk(s:Nat){O:bw}{f x:V}{J v:ab}(dq:V.bQ s f=X)(a8:V.bQ s x=X)(R:O.units+s+2<bR)(j:de m.heap f J)(b:de m.heap x v):SeqAt.RcAt O m J v (ck f x):=by
 cases f with
 |aS=>
  cases (show J=.none from j);cases x with
  |aS=>cases (show v=.none from b);exact SR
  |aE d=>cases (show v=.bool d from b);exact SD d
  |int i=>let⟨@C,rfl⟩:=b;exact Ol i C
  |str k=>let⟨@C,rfl⟩:=b;exact Sv k C
  |tup H=>let⟨g,n,Vj,@t,rfl,y,B,h,W⟩:=b;exact M6 ⟨n,y,B,t,h⟩ ⋯
  |fn g=>cases s<;>cases a8
  |aT g=>cases s<;>cases a8
  |fd=>cases s<;>cases a8
 |aE d=>
  cases (show J=.bool d from j);cases x with
  |aS=>cases (show v=.none from b);exact Ls d
  |aE o=>cases (show v=.bool o from b);exact Lr d o
  |int i=>let⟨@C,rfl⟩:=b;exact QD d i C
  |str k=>let⟨@C,rfl⟩:=b;exact Tz d k C
  |tup H=>let⟨g,n,Vj,@t,rfl,y,B,h,W⟩:=b;exact Kg d ⟨n,y,B,t,h⟩ ⋯
  |fn g=>cases s<;>cases a8
  |aT g=>cases s<;>cases a8
  |fd=>cases s<;>cases a8
 |int a=>
  let⟨@e,rfl⟩:=j;cases x with
  |aS=>cases (show v=.none from b);exact RI a e
  |aE o=>cases (show v=.bool o from b);exact Qm a e o
  |int i=>let⟨@C,rfl⟩:=b;exact Om a e i C
  |str k=>let⟨@C,rfl⟩:=b;exact Td a e k C
  |tup H=>let⟨g,n,Vj,@t,rfl,y,B,h,W⟩:=b;exact K9 a e ⟨n,y,B,t,h⟩ ⋯
  |fn g=>cases s<;>cases a8
  |aT g=>cases s<;>cases a8
  |fd=>cases s<;>cases a8
 |str a=>
  let⟨@e,rfl⟩:=j;cases x with
  |aS=>cases (show v=.none from b);exact Oq a e
  |aE o=>cases (show v=.bool o from b);exact Q4 a e o
  |int i=>let⟨@C,rfl⟩:=b;exact Ll a e i C
  |str k=>let⟨@C,rfl⟩:=b;exact Ny a e k C
  |tup H=>let⟨g,n,Vj,@t,rfl,y,B,h,W⟩:=b;exact Ng a e ⟨n,y,B,t,h⟩ ⋯
  |fn g=>cases s<;>cases a8
  |aT g=>cases s<;>cases a8
  |fd=>cases s<;>cases a8
 |fn g=>cases s<;>cases dq
 |aT g=>cases s<;>cases dq
 |fd=>cases s<;>cases dq
 |tup H=>
  cases s with
  |zero=>cases dq
  |succ s=>
  let⟨g,n,Vj,@t,rfl,y,B,h,q⟩:=j;have VC:m.heap.IsTuple g Vj:=⟨n,y,B,t,h⟩;cases x with
  |aS=>cases (show v=.none from b);exact LP VC ⋯
  |aE o=>cases (show v=.bool o from b);exact R_ o VC ⋯
  |int i=>let⟨@C,rfl⟩:=b;exact Rx i C VC ⋯
  |str k=>let⟨@C,rfl⟩:=b;exact Rj k C VC ⋯
  |fn g=>cases a8
  |aT g=>cases a8
  |fd=>cases a8
  |tup T=>
   let⟨d,Vk,l,@D,rfl,E,F,G,r⟩:=b;have cX:m.heap.IsTuple d l:=⟨Vk,E,F,D,G⟩;have u:=q.length;have w:=r.length;have I:Vj.toList.length=Vj.size:=by simp
   have L:l.toList.length=l.size:=by simp
   rw[I]at u;rw[L]at w;have p:=FP (A:=O) (e:=λi=>ck (H.getD i .aS)<|T.getD i .aS) VC cX ⋯ λi M N=>by
    let⟨@Vz,z,P⟩:=q.get (i:=i) (v:=Vj[i]) (by rw[eA];simp[M]);let⟨@Vy,A,Q⟩:=r.get (i:=i) (v:=l[i]) (by rw[eA];simp[N]);rw[cA,z,cA,A];exact iN s (jK dq z) (jK a8 A) (by show O.units+1+s+1<bR;lia) P Q
   rw[<-u,<-w,rI (H:=H) (T:=T) (λi f x g d=>by rw[cA,g,cA,d];rfl)]at p;rw[ck];exact p
@[simp] def e3:f6:=λg d=>match g,d with
 |.im f,.im x=>if (V.bQ 8 f&&V.bQ 8 x)=X then Z (.im<|.aE<|ck f x) else Y
 |.lst f,.lst x=>if (V.dj 8 f&&V.dj 8 x)=X then Z (.im<|.aE<|eY f x) else Y
 |_,_=>Y
theorem x9:∀{f x:List V},f.length≠x.length->eY f x=av
 |[],[],e=>absurd rfl e
 |[],_::_,_=>rfl
 |_::_,[],_=>rfl
 |g::f,d::x,e=>by
  rw[eY,x9 (λc=>e (by rw[dz,dz,c])),H7]
def qq{R:List (ah×aX)}(l:aF b R z h m){g:ah}{E:List ak}{H:List V}(y:h g=Z (.lst E))(B:bI h H E):∃UW:List ab,m.heap.IsList g UW.toArray/\dG m.heap H UW/\UW.length=H.length:=by
 let@⟨k,⟨UW,@s,a,c⟩⟩:=l.aY g _ y;have:=B.e8 l.aY a;exact⟨UW,⟨_,c,rfl,s,rfl⟩,this,this.length.symm⟩
def jD(an:b.A.units+20<bR):fe b (d1 .Eq) e3:=by
 intro R m z h f x v J A l q s N;let⟨Vz,Vy,@r,j,k,c,p⟩:=N;unfold e3 at c;split at c
 ·rename_i g d;split at c
  ·rename_i e;cases c;rw[cS]at e;exact Pk 8 e.1 e.2 ⋯ (j.i.e8 l.aY q) (k.i.e8 l.aY s) b.prog b.w _ _ ⟨.aE _,h,l,rfl,cu.i p rfl⟩
  ·cases c
 ·rename_i g d;split at c
  ·rename_i e;cases c;rw[cS]at e;let⟨W,u,@E,rfl,y,B,W⟩:=j;let⟨W,ap,@U0,rfl,P,Q,W⟩:=k;cases q;cases s;let⟨@S,t,U,o⟩:=qq l y B;let⟨@al,C,am,VT⟩:=qq l P Q;by_cases n:g.length=d.length
   ·have:=OS (A:=b.A) (e:=λi=>ck (g.getD i .aS)<|d.getD i .aS) t C (by rw[cJ,cJ,o,VT];exact n) ⋯ λi F G=>by
     let⟨@Vz,I,j⟩:=U.get (i:=i) (v:=S.toArray[i]) (by simp at F;simp[F]);let⟨@Vy,L,k⟩:=am.get (i:=i) (v:=al.toArray[i]) (by simp at G;simp[G]);rw[cA,I,cA,L];exact iN 8 (jK e.1 I) (jK e.2 L) (by show b.A.units+1+8+1<bR;lia) j k
    refine this b.prog b.w _ _ ⟨.aE _,h,l,rfl,?_⟩;have M:=rI (H:=g) (T:=d) (c:=λi=>ck (g.getD i .aS)<|d.getD i .aS) (λi f x g d=>by rw[cA,g,cA,d];rfl);rw[<-n,HB,gT,G5]at M;rw[cJ,o,M];exact cu.i p rfl
   ·refine Jv (A:=b.A) t C (by rw[cJ,cJ,o,VT];simpa using n) ⋯ b.prog b.w _ _ ⟨.aE _,h,l,rfl,?_⟩;rw[x9 n]at p;exact cu.i p rfl
  ·cases c
 ·cases c
end
section
variable{b:aO}
def TR(s:Nat){O:bw}{f x:V}{J v:ab}(dq:V.bQ s f=X)(a8:V.bQ s x=X)(R:O.units+s+2<bR)(j:de m.heap f J)(b:de m.heap x v):SeqAt.RcNeAt O m J v (!ck f x):=by
 cases f with
 |aS=>
  cases (show J=.none from j);cases x with
  |aS=>cases (show v=.none from b);exact Mp
  |aE d=>cases (show v=.bool d from b);exact Kt d
  |int i=>let⟨@C,rfl⟩:=b;exact Lk i C
  |str k=>let⟨@C,rfl⟩:=b;exact NW k C
  |tup H=>let⟨g,n,Vj,@t,rfl,y,B,h,W⟩:=b;exact NC ⟨n,y,B,t,h⟩ ⋯
  |fn g=>cases s<;>cases a8
  |aT g=>cases s<;>cases a8
  |fd=>cases s<;>cases a8
 |aE d=>
  cases (show J=.bool d from j);cases x with
  |aS=>cases (show v=.none from b);exact O2 d
  |aE o=>cases (show v=.bool o from b);exact Oe d o
  |int i=>let⟨@C,rfl⟩:=b;exact Pw d i C
  |str k=>let⟨@C,rfl⟩:=b;exact PX d k C
  |tup H=>let⟨g,n,Vj,@t,rfl,y,B,h,W⟩:=b;exact Ss d ⟨n,y,B,t,h⟩ ⋯
  |fn g=>cases s<;>cases a8
  |aT g=>cases s<;>cases a8
  |fd=>cases s<;>cases a8
 |int a=>
  let⟨@e,rfl⟩:=j;cases x with
  |aS=>cases (show v=.none from b);exact MT a e
  |aE o=>cases (show v=.bool o from b);exact Ob a e o
  |int i=>let⟨@C,rfl⟩:=b;exact LL a e i C
  |str k=>let⟨@C,rfl⟩:=b;exact RX a e k C
  |tup H=>let⟨g,n,Vj,@t,rfl,y,B,h,W⟩:=b;exact Q1 a e ⟨n,y,B,t,h⟩ ⋯
  |fn g=>cases s<;>cases a8
  |aT g=>cases s<;>cases a8
  |fd=>cases s<;>cases a8
 |str a=>
  let⟨@e,rfl⟩:=j;cases x with
  |aS=>cases (show v=.none from b);exact RB a e
  |aE o=>cases (show v=.bool o from b);exact TA a e o
  |int i=>let⟨@C,rfl⟩:=b;exact L4 a e i C
  |str k=>let⟨@C,rfl⟩:=b;exact Kw a e k C
  |tup H=>let⟨g,n,Vj,@t,rfl,y,B,h,W⟩:=b;exact PR a e ⟨n,y,B,t,h⟩ ⋯
  |fn g=>cases s<;>cases a8
  |aT g=>cases s<;>cases a8
  |fd=>cases s<;>cases a8
 |fn g=>cases s<;>cases dq
 |aT g=>cases s<;>cases dq
 |fd=>cases s<;>cases dq
 |tup H=>
  cases s with
  |zero=>cases dq
  |succ s=>
  let⟨g,n,Vj,@t,rfl,y,B,h,q⟩:=j;have VC:m.heap.IsTuple g Vj:=⟨n,y,B,t,h⟩;cases x with
  |aS=>cases (show v=.none from b);exact NQ VC ⋯
  |aE o=>cases (show v=.bool o from b);exact LC o VC ⋯
  |int i=>let⟨@C,rfl⟩:=b;exact SF i C VC ⋯
  |str k=>let⟨@C,rfl⟩:=b;exact TM k C VC ⋯
  |fn g=>cases a8
  |aT g=>cases a8
  |fd=>cases a8
  |tup T=>
   let⟨d,Vk,l,@D,rfl,E,F,G,r⟩:=b;have cX:m.heap.IsTuple d l:=⟨Vk,E,F,D,G⟩;have u:=q.length;have w:=r.length;have I:Vj.toList.length=Vj.size:=by simp
   have L:l.toList.length=l.size:=by simp
   rw[I]at u;rw[L]at w;have p:=JC (A:=O) (e:=λi=>ck (H.getD i .aS)<|T.getD i .aS) VC cX ⋯ λi M N=>by
    let⟨@Vz,z,P⟩:=q.get (i:=i) (v:=Vj[i]) (by rw[eA];simp[M]);let⟨@Vy,A,Q⟩:=r.get (i:=i) (v:=l[i]) (by rw[eA];simp[N]);rw[cA,z,cA,A];exact iN s (jK dq z) (jK a8 A) (by show O.units+1+s+1<bR;lia) P Q
   rw[<-u,<-w,rI (H:=H) (T:=T) (λi f x g d=>by rw[cA,g,cA,d];rfl)]at p;rw[ck];exact p
@[simp] def jd:f6:=λg d=>match g,d with
 |.im f,.im x=>if (V.bQ 8 f&&V.bQ 8 x)=X then Z (.im<|.aE<|!ck f x) else Y
 |.lst f,.lst x=>if (V.dj 8 f&&V.dj 8 x)=X then Z (.im<|.aE<|!eY f x) else Y
 |_,_=>Y
def pq(an:b.A.units+20<bR):fe b (d1 .NotEq) jd:=by
 intro R m z h f x v J A l q s N;let⟨Vz,Vy,@r,j,k,c,p⟩:=N;unfold jd at c;split at c
 ·rename_i g d;split at c
  ·rename_i e;cases c;rw[cS]at e;exact TR 8 e.1 e.2 ⋯ (j.i.e8 l.aY q) (k.i.e8 l.aY s) b.prog b.w _ _ ⟨.aE _,h,l,rfl,cu.i p rfl⟩
  ·cases c
 ·rename_i g d;split at c
  ·rename_i e;cases c;rw[cS]at e;let⟨W,u,@E,rfl,y,B,W⟩:=j;let⟨W,ap,@U0,rfl,P,Q,W⟩:=k;cases q;cases s;let⟨@S,t,U,o⟩:=qq l y B;let⟨@al,C,am,VT⟩:=qq l P Q;by_cases n:g.length=d.length
   ·have:=Kk (A:=b.A) (e:=λi=>ck (g.getD i .aS)<|d.getD i .aS) t C (by rw[cJ,cJ,o,VT];exact n) ⋯ λi F G=>by
     let⟨@Vz,I,j⟩:=U.get (i:=i) (v:=S.toArray[i]) (by simp at F;simp[F]);let⟨@Vy,L,k⟩:=am.get (i:=i) (v:=al.toArray[i]) (by simp at G;simp[G]);rw[cA,I,cA,L];exact iN 8 (jK e.1 I) (jK e.2 L) (by show b.A.units+1+8+1<bR;lia) j k
    refine this b.prog b.w _ _ ⟨.aE _,h,l,rfl,?_⟩;have M:=rI (H:=g) (T:=d) (c:=λi=>ck (g.getD i .aS)<|d.getD i .aS) (λi f x g d=>by rw[cA,g,cA,d];rfl);rw[<-n,HB,gT,G5]at M;rw[cJ,o,M];exact cu.i p rfl
   ·refine Cn (A:=b.A) t C (by rw[cJ,cJ,o,VT];simpa using n) ⋯ b.prog b.w _ _ ⟨.aE _,h,l,rfl,?_⟩;rw[x9 n]at p;exact cu.i p rfl
  ·cases c
 ·cases c
@[simp] def qw(s:Bool):f6:=λg d=>match g,d with
 |.im f,.im .aS=>Z (.im<|.aE<|s != decide (f=.aS))
 |.im (.aE f),.im (.aE x)=>Z (.im<|.aE<|s != (f==x))
 |_,_=>Y
def DZ{r:V}(e:cf h r v):decide (v=.aS)=decide (r=.aS):=by
 cases r with
 |aS=>cases (show v=.aS from e);rfl
 |aE d=>cases (show v=.aE d from e);rfl
 |int d=>cases (show v=.int d from e);rfl
 |str d=>cases (show v=.str d from e);rfl
 |fn d=>cases (show v=.ref d from e);rfl
 |tup H=>let⟨g,@E,rfl,W⟩:=e;rfl
 |aT H=>let⟨g,E,@n,rfl,W⟩:=e;rfl
 |fd=>let⟨g,@n,rfl,W⟩:=e;rfl
def Kj:dH b (d1 .Is) (λf x h A=>∃g d,f=.aE g/\x=.aE d/\A (.aE<|g==d) h):=by
 intro R m z h f x v J A l a c e;let⟨g,@d,i,j,p⟩:=e;subst i j;cases a;cases c;refine wpAny_is_plain (by cases g<;>cases d<;>rfl) ⟨.aE<|g==d,h,l,?_,p⟩;cases g<;>cases d<;>rfl
def Jt:dH b (d1 .IsNot) (λf x h A=>∃g d,f=.aE g/\x=.aE d/\A (.aE<|!(g==d)) h):=by
 intro R m z h f x v J A l a c e;let⟨g,@d,i,j,p⟩:=e;subst i j;cases a;cases c;refine wpAny_isNot_plain (by cases g<;>cases d<;>rfl) ⟨.aE<|!(g==d),h,l,?_,p⟩;cases g<;>cases d<;>rfl
def SQ:fe b (d1 .Is) (qw av):=by
 refine (R3.or Kj).imp λf x h A j=>?_;let⟨Vz,Vy,@r,d,e,c,p⟩:=j;unfold qw at c;split at c
 ·rename_i g;cases c;refine .inl ⟨e.i,?_⟩;rw[DZ d.i];refine cu.i p ?_;show _=_;rw[En]
 ·cases c;refine .inr ⟨_,_,d.i,e.i,cu.i p ?_⟩;show _=_;rw[En]
 ·cases c
def P2:fe b (d1 .IsNot) (qw X):=by
 refine (S6.or Jt).imp λf x h A j=>?_;let⟨Vz,Vy,@r,d,e,c,p⟩:=j;unfold qw at c;split at c
 ·rename_i g;cases c;refine .inl ⟨e.i,?_⟩;rw[DZ d.i];refine cu.i p ?_;show _=_;rw[Ca]
 ·cases c;refine .inr ⟨_,_,d.i,e.i,cu.i p ?_⟩;show _=_;rw[Ca]
 ·cases c
def d9{U7:Type}[DecidableEq U7](UX:List (U7×V))(q:U7):Option V:=((UX.find? λu=>decide (u.1=q)).map (·.2))
theorem mi{U7:Type}[DecidableEq U7]{h:ax}{q:U7}:∀{UX:List (U7×V)}{i:List (U7×ak)},eL h UX i->(∀r,d9 UX q=Z r->∃v,ho i q=Z v/\cf h r v)/\(d9 UX q=Y->ho i q=Y)
 |_,_,.nil=>⟨(λr c=>by cases c),(λ_=>rfl)⟩
 |_,_,@eg.cons _ _ _ u p _ _ e C=>by
  let@⟨y,B⟩:=mi (q:=q) C;by_cases c:u.1=q
  ·have a:p.1=q:=e.1.symm.trans c;refine⟨λr hd=>?_,λb=>?_⟩
   ·have:∀j,d9 (u::j) q=Z u.2:=λj=>by simp[d9,kN,c]
    rw[this]at hd;cases hd;exact⟨p.2,uW a,e.2⟩
   ·have:∀j,d9 (u::j) q=Z u.2:=λj=>by simp[d9,kN,c]
    rw[this]at b;cases b
  ·have a:¬ p.1=q:=λk=>c (e.1.trans k);have:∀j,d9 (u::j) q=d9 j q:=λj=>by simp[d9,kN,c]
   rw[this,tx a];exact⟨y,B⟩
@[simp] def bH:f6:=λg d=>match g,d with
 |.im (.tup H),.im (.int a)=>(eH H a).map .im
 |.lst H,.im (.int a)=>(eH H a).map .im
 |.c2 H,.im (.int a)=>(eH H a).map .im
 |.aJ UX,.im (.tup q)=>if V.keys 7 q=X then (d9 UX q).map .im else Y
 |.dn UX,.im (.int a)=>(d9 UX<|.inl a).map .im
 |.dn UX,.im (.str a)=>(d9 UX<|.inr a).map .im
 |.e_ UX,.im (.tup q)=>if V.keys 7 q=X then (d9 UX q).map .im else Y
 |_,_=>Y
def Te(a:b.A.units+20<bR):iv b (λf x h A=>∃g v,f=.ref g/\f9 h g x (Z v)/\A v h):=by
 intro t n R m z h f x v J A l d e ⟨g,k,c,F,p⟩ ar;subst c;cases d;exact tail_any (R6 l F) PySem.F.slot_dict_getitem.lookup (Lg a l F e λo q i j=>⟨k,h,i,j,p⟩) ar
def vq{a:Int}{r:V}(e:bI h H E)(c:eH H a=Z r):∃v,eH E a=Z v/\cf h r v:=by
 unfold eH at c ⊢;rw[<-e.length];let⟨@i,b,d⟩:=bN.mp c;let⟨@v,f,g⟩:=e.get d;exact⟨v,by rw[b];exact f,g⟩
def PM(z:b.A.units+20<bR):iv b (λf x h A=>∃Vz Vy r,eE h Vz f/\eE h Vy x/\bH Vz Vy=Z r/\∀v Q UG,bV h Q->b2 Q r v UG->UG.Nodup->(∀g∈UG,h g=Y)->A v Q):=by
 refine (q2.or<|EK.or<|Te z).imp λf x h A D=>?_;let⟨Vz,Vy,@r,o,s,c,p⟩:=D;unfold bH at c;split at c
 ·let⟨@VD,e,j⟩:=cm.mp c;cases j;let⟨u,@E,rfl,y,B⟩:=o.i;let⟨@v,l,m⟩:=vq B e;exact .inr (.inl ⟨u,E,_,v,rfl,s.i,cC.of y,l,cu.i p m⟩)
 ·let⟨@VD,e,j⟩:=cm.mp c;cases j;let⟨W,u,@E,rfl,y,B,W⟩:=o;let⟨@v,l,m⟩:=vq B e;exact .inl ⟨u,E,_,v,rfl,s.i,c9.of y,l,cu.i p m⟩
 ·let⟨@VD,e,j⟩:=cm.mp c;cases j;let⟨W,u,E,@n,rfl,y,B,W⟩:=o;let⟨@v,l,m⟩:=vq B e;exact .inl ⟨u,E,_,v,rfl,s.i,.inl<|.inr ⟨n,y⟩,l,cu.i p m⟩
 ·rename_i UX q;split at c
  ·rename_i w;let⟨@VD,e,j⟩:=cm.mp c;cases j;let⟨W,u,@i,rfl,y,B,W⟩:=o;let⟨@v,l,m⟩:=(mi B).1 VD e;let⟨d,@E,rfl,Vf,Vt⟩:=s.i;exact .inr (.inr ⟨u,v,rfl,by rw[<-l];exact f9.t y ⟨w,d,E,rfl,Vf,Vt⟩,cu.i p m⟩)
  ·cases c
 ·rename_i UX a;let⟨@VD,e,j⟩:=cm.mp c;cases j;let⟨W,u,@i,rfl,y,B,W⟩:=o;let⟨@v,l,m⟩:=(mi B).1 VD e;refine .inr (.inr ⟨u,v,rfl,?_,cu.i p m⟩);rw[show x=cv (.inl a) from s.i,<-l];exact f9.k y
 ·rename_i UX a;let⟨@VD,e,j⟩:=cm.mp c;cases j;let⟨W,u,@i,rfl,y,B,W⟩:=o;let⟨@v,l,m⟩:=(mi B).1 VD e;refine .inr (.inr ⟨u,v,rfl,?_,cu.i p m⟩);rw[show x=cv (.inr a) from s.i,<-l];exact f9.k y
 ·rename_i UX q;split at c
  ·rename_i w;let⟨@VD,e,j⟩:=cm.mp c;cases j;let⟨W,u,i,@Vl,rfl,y,B,W⟩:=o;let⟨@v,l,m⟩:=(mi B).1 VD e;let⟨d,@E,rfl,Vf,Vt⟩:=s.i;exact .inr (.inr ⟨u,v,rfl,.inr ⟨i,q,d,.inr ⟨Vl,y⟩,rfl,⟨w,d,E,rfl,Vf,Vt⟩,l.symm⟩,cu.i p m⟩)
  ·cases c
 ·cases c
end
end L2
namespace l2
open Spec PyProof.Rows
end l2
namespace L2
open Spec PyProof.Rows
section
variable{b:aO}
@[simp] def k9(F:ay ag):ay ag:=λw=>(F w).bind λu=>match u.1 with
 |.im (.int a)=>Z (.im<|.int<|-a,u.2)
 |_=>Y
def uP{g:bh}{F:ay ag}{UZ:Pos}(e:b5 b g F):b5 b (.UnaryOp .USub g UZ) (k9 F):=by
 refine eh (Cr Il e) λz h A c=>?_;let⟨w,P,j,@U4,L,aj,d,p⟩:=c;let⟨@⟨f,UR⟩,y,B⟩:=bN.mp d;refine⟨w,P,f,UR,L,aj,y,λv UP U3 UG i Vc k=>?_⟩;dsimp only at B;split at B
 ·rename_i a;cases B;exact⟨a,Vc.1,p _ UP U3 [] i ⟨rfl,rfl⟩ (by rw[b8];exact k.both)⟩
 ·cases B
def du(F:ay (Option Int)):dc:=(λz h A=>∃w P I U4,bx h w z P/\P.Nodup/\F w=Z (I,U4)/\∀Q Vm,bx Q U4 z Vm->a9 h P Q Vm->A I Q)
def SH:ay (Option Int):=(λw=>Z (Y,w))
variable{h:ax}
theorem bI.take:∀{H:List V}{E:List ak} (s:Nat),bI h H E->bI h (H.take s) (E.take s)
 |H,E,0,e=>rfl
 |[],E,s+1,e=>by cases (show E=[] from e);exact rfl
 |r::H,E,s+1,e=>by
  let⟨v,@j,rfl,y,B⟩:=e;exact⟨v,_,rfl,y,B.take s⟩
abbrev i5:=List ag->Option ag
@[simp] def fo:i5:=λH=>match H with
 |[.im (.tup f)]=>Z (.im<|.int f.length)
 |[.lst f]=>Z (.im<|.int f.length)
 |[.c2 f]=>Z (.im<|.int f.length)
 |[.dY f]=>Z (.im<|.int f.length)
 |[.dn f]=>Z (.im<|.int f.length)
 |[.im (.str f)]=>if f.length<=100000 then Z (.im<|.int f.length) else Y
 |_=>Y
variable{U:List ak}
def gM{r:ag}(e:m_ h [r] U):∃v,U=[v]/\eE h r v:=by
 let⟨v,@j,rfl,y,B⟩:=e;cases (show j=[] from B);exact⟨v,rfl,y⟩
def G_{r c:ag}(e:m_ h [r,c] U):∃v J,U=[v,J]/\eE h r v/\eE h c J:=by
 let⟨v,@j,rfl,y,B⟩:=e;let⟨@J,rfl,a⟩:=gM B;exact⟨v,J,rfl,y,a⟩
def eL.length{U7:Type}{I:List (U7×V)}{t:List (U7×ak)}(e:eL h I t):I.length=t.length:=eg.length e
def kK:hI b (.builtin "len") fo:=by
 refine (EL.or<|OW.or TX).imp λE h A f=>?_;let⟨H,@r,d,c,p⟩:=f;unfold fo at c;split at c
 ·cases c;let⟨@v,rfl,e⟩:=gM d;let⟨u,@E,rfl,y,B⟩:=e.i;exact .inl ⟨u,E,rfl,.inr<|cC.of y,by rw[<-B.length];exact cu.i p rfl⟩
 ·cases c;let⟨@v,rfl,⟨W,u,@E,rfl,y,B,W⟩⟩:=gM d;exact .inl ⟨u,E,rfl,.inl<|c9.of y,by rw[<-B.length];exact cu.i p rfl⟩
 ·cases c;let⟨@v,rfl,⟨W,u,E,@n,rfl,y,B,W⟩⟩:=gM d;exact .inl ⟨u,E,rfl,.inl<|.inl<|.inr ⟨n,y⟩,by rw[<-B.length];exact cu.i p rfl⟩
 ·cases c;let⟨@v,rfl,⟨W,u,E,@UU,rfl,y,B,W⟩⟩:=gM d;exact .inl ⟨u,E,rfl,.inl<|c9.of y,by rw[<-B.length];exact cu.i p rfl⟩
 ·cases c;let⟨@v,rfl,⟨W,u,@i,rfl,y,B,W⟩⟩:=gM d;exact .inr (.inr ⟨u,i,rfl,y,by rw[<-B.length];exact cu.i p rfl⟩)
 ·split at c
  ·rename_i g;cases c;let⟨@v,rfl,e⟩:=gM d;cases (show v=_ from e.i);exact .inr (.inl ⟨_,rfl,k3 g,cu.i p rfl⟩)
  ·cases c
 ·cases c
@[simp] def mh:i5:=λH=>match H with
 |[r]=>(m1 r).map λf=>.im (.tup f)
 |_=>Y
@[simp] def tf:i5:=λH=>match H with
 |[r]=>(m1 r).map .lst
 |_=>Y
def rL:hI b (.type "tuple") mh:=by
 refine JK.imp λE h A j=>?_;let⟨H,@r,k,c,p⟩:=j;unfold mh at c;split at c
 ·let⟨@f,d,l⟩:=cm.mp c;cases l;let⟨@v,rfl,e⟩:=gM k;unfold m1 at d;split at d
  ·cases d;let⟨u,@E,rfl,y,B⟩:=e.i;exact⟨u,E,rfl,.inr ⟨cC.of y,cu.i p ⟨u,E,rfl,y,B⟩⟩⟩
  ·cases d;let⟨W,u,@E,rfl,y,B,W⟩:=e;exact⟨u,E,rfl,.inl ⟨c9.of y,λI g=>cu.t p g B⟩⟩
  ·cases d;let⟨W,u,E,@n,rfl,y,B,W⟩:=e;exact⟨u,E,rfl,.inl ⟨.inl<|.inr ⟨n,y⟩,λI g=>cu.t p g B⟩⟩
  ·cases d
 ·cases c
def y6:hI b (.type "list") tf:=by
 refine Sx.imp λE h A j=>?_;let⟨H,@r,k,c,p⟩:=j;unfold tf at c;split at c
 ·let⟨@f,d,m⟩:=cm.mp c;cases m;let⟨@v,rfl,e⟩:=gM k;unfold m1 at d;split at d
  ·cases d;let⟨u,@E,rfl,y,B⟩:=e.i;exact⟨u,E,rfl,.inr<|cC.of y,λI g=>cu.l p g B⟩
  ·cases d;let⟨W,u,@E,rfl,y,B,W⟩:=e;exact⟨u,E,rfl,.inl<|c9.of y,λI g=>cu.l p g B⟩
  ·cases d;let⟨W,u,E,@n,rfl,y,B,W⟩:=e;exact⟨u,E,rfl,.inl<|.inl<|.inr ⟨n,y⟩,λI g=>cu.l p g B⟩
  ·cases d
 ·cases c
@[simp] def vInt:i5:=λH=>match H with
 |[.im (.int a)]=>Z (.im<|.int a)
 |[.im (.aE d)]=>Z (.im<|.int<|if d then 1 else 0)
 |_=>Y
def pa:hI b (.type "int") vInt:=by
 refine Mu.imp λE h A f=>?_;let⟨H,@r,d,c,p⟩:=f;unfold vInt at c;split at c
 ·cases c;let⟨@v,rfl,e⟩:=gM d;cases (show v=_ from e.i);exact .inl ⟨_,rfl,cu.i p rfl⟩
 ·cases c;let⟨@v,rfl,e⟩:=gM d;cases (show v=_ from e.i);exact .inr ⟨_,rfl,cu.i p rfl⟩
 ·cases c
@[simp] def AB:i5:=λH=>match H with
 |[.im (.int a),.im<|.int i]=>Z (.im<|.int<|if i>a then i else a)
 |_=>Y
@[simp] def yC:i5:=λH=>match H with
 |[.im (.int a),.im<|.int i]=>Z (.im<|.int<|if i<a then i else a)
 |_=>Y
def PN(d:b.calm=X):hI b (.builtin "max") AB:=by
 refine (Pf d).imp λE h A f=>?_;let⟨H,@r,g,c,p⟩:=f;unfold AB at c;split at c
 ·cases c;let⟨v,@J,rfl,e,q⟩:=G_ g;cases (show v=_ from e.i);cases (show J=_ from q.i);exact⟨_,_,rfl,cu.i p rfl⟩
 ·cases c
def Q5(d:b.calm=X):hI b (.builtin "min") yC:=by
 refine (K7 d).imp λE h A f=>?_;let⟨H,@r,g,c,p⟩:=f;unfold yC at c;split at c
 ·cases c;let⟨v,@J,rfl,e,q⟩:=G_ g;cases (show v=_ from e.i);cases (show J=_ from q.i);exact⟨_,_,rfl,cu.i p rfl⟩
 ·cases c
@[simp] def kG:List V->Option (List Bool)
 |[]=>Z []
 |.aE d::H=>(kG H).map λj=>d::j
 |_::_=>Y
theorem DG{h:ax}:∀{H:List V}{E:List ak}{VB:List Bool},bI h H E->kG H=Z VB->E=VB.map ak.aE
 |[],E,VB,e,c=>by cases c;exact e
 |.aE d::H,E,VB,e,c=>by
  let⟨v,@j,rfl,y,B⟩:=e;rw[kG]at c;let⟨@u,a,b⟩:=cm.mp c;cases b;cases (show v=.aE d from y);rw[DG B a];rfl
 |.aS::_,_,_,_,c=>by cases c
 |.int _::_,_,_,_,c=>by cases c
 |.str _::_,_,_,_,c=>by cases c
 |.tup _::_,_,_,_,c=>by cases c
 |.fn _::_,_,_,_,c=>by cases c
 |.aT _::_,_,_,_,c=>by cases c
 |.fd::_,_,_,_,c=>by cases c
@[simp] def k_:i5:=λH=>match H with
 |[.lst f]=>(kG f).map λVB=>.im (.aE<|VB.all id)
 |_=>Y
def qM(d:b.calm=X):hI b (.builtin "all") k_:=by
 refine (Sd d).imp λE h A e=>?_;let⟨H,@r,g,c,p⟩:=e;unfold k_ at c;split at c
 ·let⟨@f,j,k⟩:=cm.mp c;cases k;let⟨@v,rfl,⟨W,u,@E,rfl,y,B,W⟩⟩:=gM g;rw[DG B j]at y;exact⟨u,f,rfl,y,cu.i p rfl⟩
 ·cases c
end
section
variable{b:aO}
def yK:ag->Option Nat
 |.im (.int _)=>Z 0
 |.im (.aE _)=>Z 1
 |.im (.str _)=>Z 2
 |.im (.tup _)=>Z 3
 |.im .aS=>Z 4
 |.lst _=>Z 4
 |.im (.aT _)=>Z 4
 |.im .fd=>Z 4
 |.aJ _=>Z 4
 |.dn _=>Z 4
 |_=>Y
@[simp] def xd(UO:String)(r:ag):Option Bool:=
 (yK r).bind λq=>if UO = "int" then Z (q==0 || q==1) else if UO = "bool" then Z (q==1) else if UO = "str" then Z (q==2) else if UO = "tuple" then Z (q==3) else Y
variable{UO:String}{d:Bool}
def S9{r:ag}(e:xd UO r=Z d):∃q,yK r=Z q/\((UO = "int" /\ d=(q==0 || q==1))\/(UO = "bool" /\ d=(q==1))\/(UO = "str" /\ d=(q==2))\/(UO = "tuple" /\ d=(q==3))):=by
 let⟨@q,c,e⟩:=bN.mp e;refine⟨q,c,?_⟩;by_cases y:UO = "int"
 ·rw[aK y]at e;cases e;exact .inl ⟨y,rfl⟩
 rw[aL y]at e;by_cases B:UO = "bool"
 ·rw[aK B]at e;cases e;exact .inr (.inl ⟨B,rfl⟩)
 rw[aL B]at e;by_cases a:UO = "str"
 ·rw[aK a]at e;cases e;exact .inr (.inr<|.inl ⟨a,rfl⟩)
 rw[aL a]at e;by_cases b:UO = "tuple"
 ·rw[aK b]at e;cases e;exact .inr (.inr<|.inr ⟨b,rfl⟩)
 rw[aL b]at e;cases e
def nX{O Vx aN w UT:Prop}(e:O\/Vx\/aN\/w)(g:O->UT)(d:Vx->UT)(o:aN->UT)(r:w->UT):UT:=e.elim g λe=>e.elim d λe=>e.elim o r
variable{R:List (ah×aX)}{h:ax}{m:ai}
def IC{z:a7}(l:aF b R z h m){g:ah}(e:(∃q,h g=Z (.aJ q))\/∃q,h g=Z (.dn q)):∃n,m.heap.get? g=Z n/\n.cls=.type "dict" := by
 rcases e with ⟨q,e⟩|⟨q,e⟩
 ·let@⟨_,_,⟨@E,_,⟨n,T,@U9,y,B,_⟩⟩⟩:=(show d0 b.prog b.w h m.heap g (.aJ q) from l.aY g _ e);exact⟨n,y,B.1⟩
 ·let@⟨_,_,⟨@U,_,⟨n,T,@U9,y,B,_⟩⟩⟩:=(show d0 b.prog b.w h m.heap g (.dn q) from l.aY g _ e);exact⟨n,y,B.1⟩
def Qc{z:a7}(l:aF b R z h m){g:ah}{u:aX}(e:h g=Z (.b6 u<|.aJ [])):∃n,m.heap.get? g=Z n/\n.cls=.type "dict" := by
 let@⟨_,_,_,⟨@E,_,⟨n,T,@U9,y,B,_⟩⟩⟩:=(show d0 b.prog b.w h m.heap g (.b6 u<|.aJ []) from l.aY g _ e);exact⟨n,y,B.1⟩
def N4:eR b (.builtin "isinstance") (λE h A=>∃f UO r d,E=[f,.ty UO]/\eE h r f/\xd UO r=Z d/\A (.aE d) h):=by
 intro R m z h E Va A l j e;let⟨f,UO,r,@d,rfl,s,UN,p⟩:=e;have I:=j;cases j with
 |cons j F=>
  cases F with
  |cons VA F=>
   cases F;cases VA;have t:∀{d:Bool},A (.aE d) h->ec b R z A (.bool d) {m with toks:=m.toks+1}:=λ{d} p=>⟨.aE d,h,l.tok _,rfl,p⟩;let⟨@q,o,v⟩:=S9 UN;have u:d=av->A (.aE av) h:=λc=>c ▸ p;have G:∀{g:ah},q=4->(∃n,m.heap.get? g=Z n/\n.cls=.type "dict")->wpAny (aR b.prog b.w) b.A (call (.builtin "isinstance") [.ref g,.type UO]) (ec b R z A) b.cF m:=by
    rintro g rfl ⟨n,x,C⟩;refine nX v (λ⟨c,N⟩=>c ▸ IsiPair.dict_int x C (t<|u N)) (λ⟨c,N⟩=>c ▸ IsiPair.dict_bool x C (t<|u N)) (λ⟨c,N⟩=>c ▸ IsiPair.dict_str x C (t<|u N)) λH=>?_;let@⟨c,N⟩:=H;exact c ▸ IsiPair.dict_tuple x C (t<|u N)
   have nA:Fd b.K h f UO d->wpAny (aR b.prog b.w) b.A (call (.builtin "isinstance") [_,.type UO]) (ec b R z A) b.cF m:=λJ=>NM R m z h _ _ A l I ⟨f,UO,d,rfl,J,p⟩;have AO:∀{g:ah}{E:List ak},q=4->f=.ref g->c9 b.K h g E->wpAny (aR b.prog b.w) b.A (call (.builtin "isinstance") [_,.type UO]) (ec b R z A) b.cF m:=λ{g E} o c k=>by
    subst o;exact nA (.inr<|.inr<|.inr<|.inr ⟨g,E,c,k,nX v (λe=>.inr<|.inl e) (λe=>.inr<|.inr<|.inr<|.inl e) (λe=>.inr<|.inr<|.inl e) λe=>.inr<|.inr<|.inr<|.inr e⟩)
   unfold yK at o;split at o
   ·cases o;exact nA (.inl ⟨_,s.i,nX v .inl (λe=>.inr<|.inr<|.inr<|.inl e) (λe=>.inr<|.inr<|.inl e) λe=>.inr<|.inl e⟩)
   ·cases o;exact nA (.inr<|.inl ⟨_,s.i,nX v (λe=>.inr<|.inl e) .inl (λe=>.inr<|.inr<|.inr<|.inl e) λe=>.inr<|.inr<|.inl e⟩)
   ·cases o;exact nA (.inr<|.inr<|.inl ⟨_,s.i,nX v (λe=>.inr<|.inl e) (λe=>.inr<|.inr<|.inr<|.inl e) .inl λe=>.inr<|.inr<|.inl e⟩)
   ·cases o;let⟨g,@E,c,y,B⟩:=s.i;exact nA (.inr<|.inr<|.inr<|.inl ⟨g,E,c,cC.of y,nX v (λe=>.inr<|.inl e) (λe=>.inr<|.inr<|.inr<|.inl e) (λe=>.inr<|.inr<|.inl e) .inl⟩)
   ·cases o;cases (show f=.aS from s.i);cases j;refine nX v (λ⟨c,N⟩=>c ▸ IsiPair.NoneType_int (t<|u N)) (λ⟨c,N⟩=>c ▸ IsiPair.NoneType_bool (t<|u N)) (λ⟨c,N⟩=>c ▸ IsiPair.NoneType_str (t<|u N)) λH=>?_;let@⟨c,N⟩:=H;exact c ▸ IsiPair.NoneType_tuple (t<|u N)
   ·cases o;let⟨W,g,@E,c,y,B,W⟩:=s;exact AO rfl c (c9.of y)
   ·cases o;let⟨g,E,@n,c,y,B⟩:=s.i;exact AO rfl c (.inl<|.inr ⟨n,y⟩)
   ·cases o;let⟨g,@n,rfl,y⟩:=s.i;cases j;exact G rfl (Qc l y)
   ·cases o;let⟨W,g,@E,rfl,y,B,W⟩:=s;cases j;exact G rfl (IC l<|.inl ⟨_,y⟩)
   ·cases o;let⟨W,g,@E,rfl,y,B,W⟩:=s;cases j;exact G rfl (IC l<|.inr ⟨_,y⟩)
   ·cases o
@[simp] def kB(UO:String)(F:ay bJ):ay ag:=λw=>(F w).bind λu=>(d7 u.2 u.1).bind λr=>(xd UO r).map λd=>(.im<|.aE d,u.2)
variable{f:aC}{c:bh}{F:ay bJ}{UZ:Pos}
def lR{u VI:Pos}(i:eM b "isinstance")(k:b.aM "isinstance" = Y)(l:e9 "isinstance" = Z (.builtin "isinstance"))(m:eM b f)(o:b.aM f=Y)(q:e9 f=Z (.type UO))(e:dN b c F)(s:f ≠ "__name__" := by decide)(hd:(f==("__debug__" : aC))=av:=by decide)(a:bS [c,.Name f VI] b.env=(av,b7 c b.env)::bS [.Name f VI] b.env:=by rfl)(t:bS [.Name f VI] b.env=(av,b7 (.Name f VI) b.env)::bS [] b.env:=by rfl)(x:(e5 UZ<|bS [.Name f VI] b.env).any (·.1)=av:=by rfl):b5 b (.Call (.Name "isinstance" u) [c,.Name f VI] [] UZ) (kB UO F):=by
 refine eh (Iv N4 i k l (vh e (vh (Oi (v:=.ty UO) m o q rfl s hd) uk t) a) ∅ ∅ a x) λz h A C=>?_;let⟨w,P,j,@U4,L,aj,D,p⟩:=C;let⟨@⟨n,UR⟩,y,B⟩:=bN.mp D;let⟨@r,E,G⟩:=bN.mp B;let⟨@d,H,I⟩:=cm.mp G;cases I;exact⟨w,P,n,UR,L,aj,y,λv UP U3 UG g J M=>⟨v,UO,r,d,rfl,J.read g E,H,p _ UP U3 [] g ⟨rfl,rfl⟩ (by rw[b8];exact M.both)⟩⟩
@[simp] def qn:ag->Option Bool
 |.im .aS=>Z av
 |.im (.aE d)=>Z d
 |.im (.int a)=>Z (a != 0)
 |.im (.str f)=>if f.length<=100000 then Z ((f.length:Int) != 0) else Y
 |.im (.tup H)=>Z (!H.isEmpty)
 |.lst H=>Z (!H.isEmpty)
 |.c2 H=>Z (!H.isEmpty)
 |.dn UX=>Z (!UX.isEmpty)
 |_=>Y
def bI.emp{H:List V}{E:List ak}(e:bI h H E):(!E.isEmpty)=!H.isEmpty:=by
 cases H with
 |nil=>cases (show E=[] from e);rfl
 |cons r H=>let⟨v,@j,rfl,W⟩:=e;rfl
def LI{r:ag}{v:ak}(e:eE h r v)(c:qn r=Z d):xl b.K v h d:=by
 unfold qn at c;split at c
 ·cases c;cases (show v=_ from e.i);rfl
 ·cases c;cases (show v=_ from e.i);rfl
 ·cases c;cases (show v=_ from e.i);rfl
 ·split at c
  ·rename_i f;cases c;cases (show v=_ from e.i);exact⟨k3 f,rfl⟩
  ·cases c
 ·cases c;let⟨u,@E,rfl,y,B⟩:=e.i;exact .inr (.inl ⟨E,cC.of y,B.emp.symm⟩)
 ·cases c;let⟨W,u,@E,rfl,y,B,W⟩:=e;exact .inl ⟨E,c9.of y,B.emp.symm⟩
 ·cases c;let⟨W,u,E,@n,rfl,y,B,W⟩:=e;exact .inl ⟨E,.inl<|.inr ⟨n,y⟩,B.emp.symm⟩
 ·cases c;let⟨W,u,@i,rfl,y,B,W⟩:=e;refine .inr (.inr ⟨i,y,?_⟩);cases B<;>rfl
 ·cases c
@[simp] def gX(F:ay bJ):ay Bool:=λw=>(F w).bind λu=>(d7 u.2 u.1).bind λr=>(qn r).map λd=>(d,u.2)
def ik(e:dN b c F)(g:∀a,qe c b.env a=(do let v <-a;standAt c.pos;holding [v] (truthy v)):=by intro W;rfl):hW b c (gX F):=by
 refine se (MZ e g) λz h A i=>?_;let⟨w,P,d,@U4,L,aj,j,p⟩:=i;let⟨@⟨n,UR⟩,y,B⟩:=bN.mp j;let⟨@r,k,l⟩:=bN.mp B;let⟨@t,m,o⟩:=cm.mp l;cases o;exact⟨w,P,n,UR,L,aj,y,λv UP U3 UG f q s=>⟨_,LI (q.read f k) m,p UP U3 f s.both⟩⟩
def wZ{a:aC}{C:iz}(c:eM b f)(d:b.aM f=Z (.str a C))(hd:(f==("__debug__" : aC))=av:=by decide):b5 b (.Name f UZ) (az<|.str a):=q1 (MG (v:=.str a) c d ⟨C,rfl⟩ hd) λ_=>rfl
end
variable{Vg:List Nat}{M V6 UZ:Pos}{n c:bh}{id UO:String}{name:aC}{F:ay (List bJ)}{a:Nat}{ty:ag->Bool}{UK:Φ}{Vk:e1}{g:ah}{h:ax}
def a9.chg{P U3:List ah}(b:g∈P)(o:fZ h g)(aj:U3.Nodup)(cz:∀f∈U3,f∈P):a9 h P (upd h g Vk) U3:=by
 let⟨@n,c,bP,d⟩:=o;refine⟨λf J Vs a=>?_,λf a=>.inl<|cz f a,aj,e2.of (λf E Vs=>?_)<|λf u J Vs=>?_,λf J Vs=>?_⟩
 ·rw[b0 (λk=>a (by rw[k];exact b))];exact Vs
 ·rw[b0]
  ·exact Vs
  ·rintro rfl;rw[c]at Vs;exact bP E (Option.some.inj Vs)
 ·rw[b0]
  ·exact Vs
  ·rintro rfl;rw[c]at Vs;exact d u J (Option.some.inj Vs)
 ·by_cases a:f=g
  ·subst a;exact⟨Vk,dp⟩
  ·exact⟨J,(b0 a).trans Vs⟩
theorem cf.nH(o:fZ h g):mq h (upd h g Vk):=(a9.chg (P:=[g]) (U3:=[]) (.head _) o g4<|λf a=>nomatch a).tup.tup
def oB(b:aO)(id:String)(cj:ag->List ag->Option (ag×ag)):Prop:=(
 Ag b id λf U h A=>∃o H j a UG UM,b2 h o f UG/\c0 h H U UM/\(UG++UM).Nodup/\cj o H=Z (j,a)/\∀v Q c bU,b2 Q j v c->b2 Q a f bU->a9 h (UG++UM) Q (c++bU)->A v Q)
@[simp] def lE:ag->Bool
 |.lst _=>X
 |.dY _=>X
 |_=>av
@[simp] def CP:ag->Bool
 |.dn _=>X
 |.aJ _=>X
 |_=>av
@[simp] def iy(ty:ag->Bool)(a:Nat)(cj:ag->List ag->Option (ag×ag))(F:ay (List bJ)):ay ag:=λw=>match w[a]? with
 |some (Z b)=>if ty b=X then (F w).bind λu=>(eB u.1 u.2).bind λp=>match p.2[a]? with
   |some (Z o)=>(cj o p.1).map λj=>(j.1,p.2.set a<|Z j.2)
   |_=>Y
  else Y
 |_=>Y
def C8{cj:ag->List ag->Option (ag×ag)}{z:a7}{A:cL}(D:∀h o f UG,b2 h o f UG->ty o=X->lp UK UO f h)(e:jF (iy ty a cj F) z h A):∃f,z[a]?=Z (Z f)/\lp UK UO f h/\gZ F z h λU U6=>∃o H j d UG UM,b2 U6 o f UG/\c0 U6 H U UM/\(UG++UM).Nodup/\cj o H=Z (j,d)/\∀v Q k bU,b2 Q j v k->b2 Q d f bU->a9 U6 (UG++UM) Q (k++bU)->A v Q:=by
 let⟨w,P,j,@U4,L,aj,b,p⟩:=e;unfold iy at b;split at b
 ·rename_i E I;split at b
  ·rename_i bP;let⟨f,bi,@bm,l,J,W,W⟩:=L.out I;refine⟨f,l,D h E f _ J bP,?_⟩;let⟨@⟨U5,UR⟩,y,B⟩:=bN.mp b;let⟨@⟨H,Vi⟩,M,i⟩:=bN.mp B;refine⟨w,P,U5,UR,L,aj,y,λU UP U3 k N R S=>?_⟩;let⟨G,@UM,T,Vc,Vr⟩:=nE N R M;dsimp only at i;split at i
   ·rename_i o al;let⟨@⟨VA,d⟩,am,an⟩:=cm.mp i;cases an;let⟨bn,UG,@q,r,ap,s,as⟩:=T.out al;rw[l]at r;cases r;have t:a9 h P UP ((UG++UM)++q):=S.k4 (Vr.symm.trans ((eQ UM as.symm).trans (by
     rw[bq];exact c8)))
    have u:=dR.mp t.aj;refine⟨o,H,_,d,UG,UM,ap,Vc,u.1,am,λv Q O Vx a1 i2 m=>?_⟩;have a2:bx Q (Vi.set a<|Z .cQ) z q:=s.mono m.tup λg bd n c=>m.keep g n c λe=>u.2.2 g e g bd rfl;let⟨x,@UU,C,be⟩:=a2.back i2 l;rw[pH]at C;refine p v Q x O C a1 ((t.trans m s.chg).less (aN:=UU) ?_);rw[bq];refine (dO x c8).trans ?_;rw[<-bq];refine (eQ O be).trans ?_;rw[bq];refine c8.trans ?_;rw[bq];refine c8.trans ?_;rw[bq,bq];refine (dO O ?_);exact c8
   ·cases i
  ·cases b
 ·cases b
section
variable{b:aO}
def r2:∀(h:ax) (o:ag) (f:ak) (UG:List ah),b2 h o f UG->lE o=X->lp UK "list" f h:=by
 intro h o f UG e c;cases o with
 |lst H=>let⟨g,@E,rfl,y,W⟩:=e;exact .inl ⟨rfl,E,c9.of y⟩
 |dY H=>let⟨g,E,@UU,rfl,y,W⟩:=e;exact .inl ⟨rfl,E,c9.of y⟩
 |_=>cases c
def tQ{cj:ag->List ag->Option (ag×ag)}{T:List bh}(d:∀h o f UG,b2 h o f UG->ty o=X->lp b.K UO f h)(bX:wI UO)(VU:nS UO name id)(bP:pC (.builtin id)=pure (.type "method_descriptor"))(g:oB b id cj)(i:bD b n (iH a))(j:fA b (c::T) F)(k:mY n name b.env (b7 n b.env)=b7 n b.env:=by rfl)(l:((e5 M<|bS (c::T) b.env).all (λf=>!f.1)&&(uc M<|uB [] b.env).all (λf=>f.1.isSome)
   && decide ((c::T).length+([]:List md).length+(if ([]:List md).isEmpty then 0 else 1)<30))=X:=by rfl)(m:(V6.endLine==M.line)=X:=by rfl)(ar:bS (c::T) b.env=(av,b7 c b.env)::bS T b.env:=by rfl)(p:(e5 M<|bS T b.env).any (·.1)=av:=by rfl):
  b5 b (.Call (.Attribute n name V6) (c::T) [] M) (iy ty a cj F):=
 eh (Et bX VU bP g i j k l m ar p) λz h A e=>by
  let⟨@f,q,y,B⟩:=C8 d e;exact⟨f,q,y,B⟩
def J0{cj:ag->List ag->Option (ag×ag)}(c:∀h o f UG,b2 h o f UG->ty o=X->lp b.K UO f h)(bX:wI UO)(VU:nS UO name id)(bP:pC (.builtin id)=pure (.type "method_descriptor"))(d:oB b id cj)(g:bD b n (iH a))(i:mY n name b.env (b7 n b.env)=b7 n b.env:=by rfl)(k:(V6.endLine==M.line)=X:=by rfl):
  b5 b (.Call (.Attribute n name V6) [] [] M) (iy ty a cj aG):=
 eh (MM bX VU bP d g i k) λz h A e=>by
  let⟨@f,l,y,B⟩:=C8 c e;refine⟨f,l,y,?_⟩;let⟨w,P,j,@U4,L,aj,m,p⟩:=B;cases m;exact p [] h P [] L ⟨rfl,rfl⟩ (by rw[b8];exact a9.perm aj (List.Perm.refl _))
@[simp] def kb:ag->List ag->Option (ag×ag):=λo H=>match o,H with
 |.lst E,[.im r]=>if E.length<100000 then Z (.im .aS,.lst<|E++[r]) else Y
 |_,_=>Y
def vD{s:Nat}(e:s<100000):s<sizeLine:=d6 e ∅
def wY:oB b "list.append" kb:=by
 intro R m z h f U v Va A l a d e;let⟨o,H,j,r,UG,@UM,i,bK,aj,c,p⟩:=e;unfold kb at c;split at c
 ·split at c
  ·rename_i k;cases c;let⟨g,@U0,rfl,y,B,rfl⟩:=i;let⟨x,C,s,@t,rfl,@⟨n,rfl⟩,@⟨rfl,rfl⟩,rfl⟩:=bK;have o:fZ h g:=⟨_,y,(λ_ c=>by cases c),(λ_ W c=>by cases c)⟩;refine G7 R m z h _ _ v Va A l a d ⟨g,U0,x,rfl,rfl,y,vD (by rw[<-B.length];exact k),p .aS _ [] [g] ⟨rfl,rfl⟩ ?_ (a9.chg (.head _) o (gh _ _) λf q=>by simpa using q)⟩;exact⟨g,_,rfl,dp,(B.snoc n).mono<|cf.nH o,rfl⟩
  ·cases c
 ·cases c
@[simp] def ua:ag->List ag->Option (ag×ag):=λo H=>match o,H with
 |.lst E,[]=>(E.getLast?).map λr=>(.im r,.lst E.dropLast)
 |_,_=>Y
def bI.last{H:List V}{E:List ak}{r:V}(e:bI h H E)(c:H.getLast?=Z r):∃v,E[E.length-1]?=Z v/\cf h r v/\bI h H.dropLast E.dropLast:=by
 rw[G6]at c;let⟨@v,a,b⟩:=e.get c;refine⟨v,by rw[<-e.length];exact a,b,?_⟩;rw[BJ,BJ,<-e.length];exact e.take _
def SA:oB b "list.pop" ua:=by
 intro R m z h f U v Va A l a d e;let⟨o,H,j,w,UG,@UM,i,bK,aj,c,p⟩:=e;unfold ua at c;split at c
 ·let⟨@r,k,n⟩:=cm.mp c;cases n;let⟨g,@U0,rfl,y,B,rfl⟩:=i;let@⟨rfl,rfl⟩:=bK;let⟨@x,q,s,t⟩:=B.last k;have o:fZ h g:=⟨_,y,(λ_ c=>by cases c),(λ_ W c=>by cases c)⟩;refine QW R m z h _ _ v Va A l a d ⟨g,U0,x,rfl,rfl,y,q,p x _ [] [g] ⟨s.mono<|cf.nH o,rfl⟩ ?_ (a9.chg (.head _) o (gh _ _) λf u=>by simpa using u)⟩;exact⟨g,_,rfl,dp,t.mono<|cf.nH o,rfl⟩
 ·cases c
@[simp] def OY:ag->List ag->Option (ag×ag):=λo H=>match o,H with
 |.lst E,[.im (.int a)]=>if 0<=a/\a<E.length then (E[a.toNat]?).map λr=>(.im r,.lst<|E.eraseIdx a.toNat) else Y
 |_,_=>Y
@[simp] def wi:ag->List ag->Option (ag×ag):=λo H=>match o,H with
 |.lst E,[.lst U0]=>if E.length+U0.length<=100000 then Z (.im .aS,.lst<|E++U0) else Y
 |_,_=>Y
def Nb:oB b "list.extend" wi:=by
 intro R m z h f U v Va A l i k n;let⟨o,H,j,t,UG,@UM,q,bK,aj,c,p⟩:=n;unfold wi at c;split at c
 ·split at c
  ·rename_i r;cases c;let⟨g,@U0,rfl,y,B,rfl⟩:=q;let⟨x,C,u,@w,rfl,⟨d,@VG,rfl,s,a,rfl⟩,@⟨rfl,rfl⟩,rfl⟩:=bK;have o:fZ h g:=⟨_,y,(λ_ c=>by cases c),(λ_ W c=>by cases c)⟩;refine NF R m z h _ _ v Va A l i k ⟨g,d,U0,VG,rfl,rfl,y,s,k3 (by rw[<-B.length,<-a.length];exact r),p .aS _ [] [g] ⟨rfl,rfl⟩ ?_ (a9.chg (.head _) o (gh _ _) λf e=>by
    rw[lQ]at e;exact fl _ e)⟩
   exact⟨g,_,rfl,dp,(B.app a).mono<|cf.nH o,rfl⟩
  ·cases c
 ·cases c
def tD(b:aO)(k:ag->ag->ag->Option ag):Prop:=(
 yt b λn a v h A=>∃o q r c UG UM,b2 h o n UG/\b2 h q a []/\b2 h r v UM/\(UG++UM).Nodup/\k o q r=Z c/\∀Q d,b2 Q c n d->a9 h (UG++UM) Q d->A Q)
@[simp] def lF(o q r:ag):Option ag:=match o,q,r with
 |.lst E,.im<|.int a,.im r=>(jC E.length a).map λi=>.lst (E.set i r)
 |_,_,_=>Y
theorem bI.set{h:ax}{r:V}{v:ak}(D:cf h r v):∀{H:List V}{E:List ak} (s:Nat),bI h H E->bI h (H.set s r) (E.set s v)
 |[],E,s,e=>by cases (show E=[] from e);exact rfl
 |c::H,E,0,e=>by let⟨J,@j,rfl,y,B⟩:=e;exact⟨v,j,rfl,D,B⟩
 |c::H,E,s+1,e=>by let⟨J,@j,rfl,y,B⟩:=e;exact⟨J,_,rfl,y,bI.set D s B⟩
def Bm:tD b lF:=by
 intro R m z h n a v d e J A l k j s t;let⟨o,q,r,E,UG,@UM,u,w,bK,aj,c,p⟩:=t;unfold lF at c;split at c
 ·let⟨@i,x,C⟩:=cm.mp c;cases C;let⟨g,@U0,rfl,y,B,rfl⟩:=u;let@⟨hd,rfl⟩:=bK;have o:fZ h g:=⟨_,y,(λ_ c=>by cases c),(λ_ W c=>by cases c)⟩;refine Js R m z h _ _ _ d e J A l k j s ⟨g,U0,_,i,rfl,w.1,y,by rw[<-B.length];exact x,p _ [g] ?_ (a9.chg (.head _) o (gh _ _) λf D=>by simpa using D)⟩;exact⟨g,_,rfl,dp,(bI.set hd i B).mono<|cf.nH o,rfl⟩
 ·cases c
@[simp] def g9(a:Nat)(b:ay ag)(k:ag->ag->ag->Option ag):fh:=λr w=>match w[a]? with
 |some (Z _)=>(b w).bind λu=>if u.1.c4=X then match u.2[a]? with
   |some (Z o)=>(k o u.1 r).map λc=>u.2.set a (Z c)
   |_=>Y
  else Y
 |_=>Y
def lD{q:bh}{x:ay ag}{k:ag->ag->ag->Option ag}(M:bD b n (iH a))(N:b5 b q x)(O:tD b k)(d:∀v,hr (.Subscript n q UZ) b.env v=(do
   let j <-holding [v] (b7 n b.env)
   let s <-holding [v,j] (b7 q b.env)
   standAt UZ
   holding [v,j,s] (tI j s v)
   release [v,j,s] []):=by intro W;rfl):hY b Vg (.Subscript n q UZ) (g9 a x k):=by
 refine AD (Tv M N O d) λv z h A R=>?_;let⟨w,P,r,UG,@U4,L,Vc,aj,l,p⟩:=R;unfold g9 at l;split at l
 ·rename_i bv S;let⟨f,ca,@cd,t,ce,W,W⟩:=L.out S;let⟨@⟨i,UR⟩,y,B⟩:=bN.mp l;split at B
  ·rename_i T;refine⟨f,t,w,P,i,UR,L,(dR.mp aj).1,y,λch UP U3 ci U C m=>?_⟩;obtain rfl:=C.c4 T;rw[b8]at m;have al:=dR.mp aj;dsimp only at B;split at B
   ·rename_i o am;let⟨@an,ap,as⟩:=cm.mp B;cases as;let⟨cl,D,@E,F,a1,G,a2⟩:=U.out am;rw[t]at F;cases F;have bd:b2 UP r v UG:=Vc.mono m.tup λg d n c=>m.keep g n c λe=>al.2.2 g e g d rfl;have H:a9 h (P++UG) UP ((D++UG)++E):=by
     have be:a9 h (P++UG) h (P++UG):=a9.perm aj (List.Perm.refl _);have:=a9.trans (U3:=P) (UG:=UG) be m Vc.chg;refine this.k4 ((eQ UG a2.symm).trans ?_);rw[bq];exact c8
    have I:=dR.mp H.aj;refine⟨o,i,r,an,D,UG,a1,C,bd,I.1,ap,λQ co bi u=>?_⟩;have bm:bx Q (UR.set a<|Z .cQ) z E:=G.mono u.tup λg d n c=>u.keep g n c λe=>I.2.2 g e g d rfl;let⟨bn,@UU,J,bs⟩:=bm.back bi t;rw[pH]at J;exact p z Q bn dt.refl J ((H.trans u G.chg).less<|bs.trans c8)
   ·cases B
  ·cases B
 ·cases l
@[simp] def x8(a:Nat)(N:Int->Int->Int)(F:ay ag):bO:=λw=>match w[a]? with
 |some (Z<|.im<|.int f)=>(F w).bind λu=>match u.1 with
   |.im (.int x)=>if a<u.2.length then Z (.bz,u.2.set a<|Z<|.im<|.int<|N f x) else Y
   |_=>Y
 |_=>Y
def PQ{f:aC}{F:ay ag}{Vw:qg}{N:Int->Int->Int}{V5:Pos}(g:b.N.Nodup)(UN:b.N[a]?=Z f)(i:hc b.env.scope f)(l:b5 b c F)(m:yv b Vw (Ia N))(n:a∉Vg)(o:b.fn f=X\/b.env.scope.names.lookup f=Z .local:=by first|exact .inl rfl|exact .inr rfl|assumption):iw b Vg (.AugAssign (.Name f V5) Vw c UZ) (x8 a N F):=by
 refine kq (QY g UN i l m o) λUH z h q=>?_;let⟨w,P,aT,@U4,L,aj,e,p⟩:=q;unfold x8 at e;split at e
 ·rename_i x s;let⟨@v,y,B⟩:=L.c4 s rfl;cases (show v=.int x from B.1);let⟨@⟨j,UR⟩,t,d⟩:=bN.mp e;dsimp only at d;split at d
  ·rename_i k;split at d
   ·rename_i u;cases d;refine⟨_,y,w,P,.im<|.int k,UR,L,aj,t,λJ UP U3 UG A Vc C=>⟨x,k,rfl,Vc.1,?_⟩⟩;let⟨G,@bU,D,Vr⟩:=A.put (a:=a) (r:=.im (.int<|N x k)) (v:=.int (N x k)) ⟨rfl,rfl⟩ u;rw[b8]at Vr;exact p _ UP G (dt.set n) D (C.both.less Vr)
   ·cases d
  ·cases d
 ·cases e
end
end L2
namespace L2
open Spec PyProof.Rows PySem.W
variable{U8:List Int}{u:Array Nat}{U_:Type}
def Ni(I:List U_)(r:U_):(range I.length).map (λa=>I.getD a r)=I:=by
 apply z2
 ·simp
 ·intro a y B;simp[List.getD,B]
def sj{I:List U_}{r:U_}(e:cW I.length u):(u.toList.map λa=>I.getD a r).Perm I:=by
 have:=AM (λa=>I.getD a r) e;rw[Ni]at this;exact this
theorem tb{U_ VR:Type}{P:U_->VR->Prop}:∀{b:List U_}{c:List VR},b.length=c.length->(∀(a:Nat) g d,b[a]?=Z g->c[a]?=Z d->P g d)->eg P b c
 |[],[],_,_=>.nil
 |g::I,d::t,e,N=>.cons (N 0 g d rfl rfl) (tb ⇑e λa f x y B=>N (a+1) f x ⇑y ⇑B)
 |[],_::_,e,_=>by simp at e
 |_::_,[],e,_=>by simp at e
section
variable{US:bC}{D:bc}{O:bw}{UH:ab->ai->Prop}{m:ai}{U:List ab}
def xr{Vx:ah}{Wc:Nat}{UT:PySem.Fin->ai->Prop}(G:Nat->Int)(U7:gR)(f:m.heap.get? Vx=Z (dg "list" U.toArray Wc))(E:2<=U.length->∀b:aZ,(∀d n,d≠Vx->m.heap.get? d=Z n->b.get? d=Z n)->∀A:gR->ai->Prop,A U7 {m with heap:=b}->wpAny (aR US D) O (xK U.toArray) A UH {m with heap:=b})(F:∀b:aZ,(∀d n,d≠Vx->m.heap.get? d=Z n->b.get? d=Z n)->fC U.length G (eU US D O U7<|U.toArray.zip U.toArray) {m with heap:=b})(H:U.length<1001\/∀i,1<=i->i<U.length->G (i-1)<=G i)(I:U.length<=1000)(e:∀(u:Array Nat) (S:aZ),cW U.length u->i8 G u U.length->(∀d n,d≠Vx->m.heap.get? d=Z n->S.get? d=Z n)->(∃c,S.get? Vx=Z (dg "list" (u.toList.map λa=>U.getD a ab.none).toArray c))->
   UT (.done<|.ret .none) {m with heap:=S}):wpAny (aR US D) O (br.«list.sort» ⟨[.ref Vx],[]⟩) UT UH m:=by
 have x:U.length<=sizeLine:=df I ∅;rw[list_sort_plain];have T:Vx<m.heap.objs.size:=bW f;refine ao (x4 f rfl (ao (oY f rfl ?_ (hsz:=by rw[cJ];exact x) (hsz2:=by show 0<=_;exact gk _))));have q:=n1 f (λ_=>#[]);generalize al:(if (#[]:Array ab).size==U.toArray.size then Wc else Wc+1)=y at q;refine ao (wx q rfl (ao (wo (ao<|o4<|gP ?_) ⇑x)));have h:∀d n,d≠Vx->m.heap.get? d=Z n->(((m.heap.update Vx<|aX.mapSeq λ_=>#[]).push<|dg "tuple" U.toArray.toList.toArray 0).push<|dg "list" ([]:List ab).toArray 0).get? d=Z n:=λd n k c=>
  bT _ (bT _<|(gJ _ _<|Ne.symm k).trans c);have l:(((m.heap.update Vx<|aX.mapSeq λ_=>#[]).push<|dg "tuple" U.toArray.toList.toArray 0).push<|dg "list" ([]:List ab).toArray 0).get? Vx=Z (dg "list" #[] y):=
  bT _ (bT _ q);show wpAny (aR US D) O _ UT UH {m with heap:=((m.heap.update Vx<|aX.mapSeq λ_=>#[]).push<|dg "tuple" U.toArray.toList.toArray 0).push (dg "list" ([]:List ab).toArray 0)};generalize ((m.heap.update Vx<|aX.mapSeq λ_=>#[]).push<|dg "tuple" U.toArray.toList.toArray 0).push (dg "list" ([]:List ab).toArray 0)=b at h l ⊢;have z:∀(L:bA) (u:Array Nat),cW U.length u->i8 G u U.length->arrOf L=u.map (ba<|U.toArray.zip U.toArray)->hg L=Y->
   wpAny (aR US D) O (do
    let Q:=(<-seqEpoch Vx) != y
    br.List.listUpdate (.ref Vx) λ_=>(arrOf L).map (·.2)
    if let Z c:=hg L then rule "list.sort.comparison-raised";throw c
    if Q then rule "list.sort.modified";raiseError "ValueError" "list modified during sort"
    ret .none) UT UH {m with heap:=b}:=λL u p s t v=>by
  have out:=kat_snds (ks:=U) (vs:=U) rfl t;rw[out,v];refine ao (wx (s:={m with heap:=b}) l rfl (ao (oY (s:={m with heap:=b}) l rfl ?_ (hsz:=gk _) (hsz2:=by
   show (List.toArray<|u.toList.map λa=>U.getD a ab.none).size<=_;rw[cJ,bl,dk,p.size];lia))))
  simp only[bne_self_eq_false,gs,ft];refine aQ (e u _ p s (λd n k c=>(gJ _ _<|Ne.symm k).trans<|h d n k c) ⟨_,n1 l λ_=>_⟩)
 dsimp only;by_cases B:U.toArray.size<2
 ·rw[aK B,aK B];refine ao (aQ ?_);rw[Ig];apply ao;apply aQ;have w:U.length<2:=by simpa using B
  refine z (bA.mk' general' (U.toArray.zip U.toArray) #[] 7 Y) (range U.length).toArray (List.Perm.refl _) (λa i am an=>?_) ?_ rfl
  ·have:a=i:=⋯
   subst this;exact lL _
  ·have:=zG (U.toArray.zip U.toArray);rw[show (U.toArray.zip U.toArray).size=U.length by simp]at this;exact this.symm
 ·rw[aL B,aL B];have w:2<=U.length:=by simpa using B
  refine ao (E w b h _ ?_)
  ·have mx:=F b h;have C:=zG (U.toArray.zip U.toArray);rw[show (U.toArray.zip U.toArray).size=U.length by simp]at C;have run:=DQ (UH:=UH) (A:=λ_ L UI=>UI={m with heap:=b}/\∃u,cW U.length u/\i8 G u U.length/\arrOf L=u.map (ba<|U.toArray.zip U.toArray)/\hg L=Y) mx
    w H λR ap g d o r=>⟨rfl,R,g,d,o,r⟩;unfold ro at run;rw[C]at run;refine ao (f7 run (λj UI UQ=>?_) λ_ W c=>c);let⟨J,L⟩:=j;let@⟨rfl,⟨@u,p,s,t,v⟩⟩:=UQ;exact z L u p s t v
end
section
variable{b:aO}{R:List (ah×aX)}{z:L2.a7}{h:ax}{m:ai}
def DY(bm:b.calm=X){g:ah}{U0:List ak}{UW:List ab}{s:Nat}{UO:String}{n:aX}{A:cL}(G:Nat->Int)(U7:gR)(l:aF b R z h m)(H:cp U0 UW)(T:UO = "list" \/ UO = "tuple")(c:m.heap.get? g=Z n)(az:n.cls=.type UO)(U:n.data=.seq UW.toArray s)(bn:U0.length<=1000)(al:2<=UW.length->∀(e:aZ) (Vq:Nat),(∀d n,m.heap.get? d=Z n->e.get? d=Z n)->∀(O:bw) (UH:ab->ai->Prop) (A:gR->ai->Prop),A U7 {m with heap:=e,toks:=Vq}->wpAny (aR b.prog b.w) O (xK UW.toArray) A UH {m with heap:=e,toks:=Vq})(am:∀(e:aZ) (Vq:Nat),(∀d n,m.heap.get? d=Z n->e.get? d=Z n)->fC UW.length G (eU b.prog b.w b.A.in1.in1 U7<|UW.toArray.zip UW.toArray) {m with heap:=e,toks:=Vq})(an:UW.length<1001\/∀i,1<=i->i<UW.length->G (i-1)<=G i)(p:∀(u:Array Nat) I,cW UW.length u->i8 G u UW.length->h I=Y->A (.ref I) (upd h I<|.lst<|u.toList.map λa=>U0.getD a .aS)):
  wpAny (aR b.prog b.w) b.A (call (.builtin "sorted") [.ref g]) (ec b R z A) b.cF m:=by
 have bs:U0.length=UW.length:=H.length;have L:UW.length<=sizeLine:=df ⋯ (show 1000<=sizeLine by decide);refine yd we vF uO (A3 _) ?k
 case k=>
  unfold br.«sorted»;refine ao (m:=t_ "sorted" 1 1 _) (aQ (ao (Jm g T c az U (λS r=>?_) (by rw[cJ];exact L))));show wpAny _ _ (oo UW >>= _) _ _ _;refine ao (o4 ?_ L);have M:(S.push<|dg "list" UW.toArray 0).get? S.objs.size=Z (dg "list" UW.toArray 0):=cR _ rfl;have b1:∀d n,m.heap.get? d=Z n->(S.push<|dg "list" UW.toArray 0).get? d=Z n:=λd n c=>bT _ (r d n c);have N:aF b R z h {m with heap:=S}:=l.kept (Vd:=m.toks) r;have P:∀d n,m.heap.get? d=Z n->d≠S.objs.size:=λd n c=>cT (bW<|r d n c);refine ao (gP<|g7 tJ ⟨_,M,rfl⟩ wJ ?x<|Ac _)
  case x=>
   refine xr (m:={m with heap:=S.push (dg "list" UW.toArray 0)}) G U7 M (λB e C A ap=>al B e m.toks (λd n j=>C d n (P d n j)<|b1 d n j) _ _ A ap) (λe C=>am e m.toks λd n j=>C d n (P d n j)<|b1 d n j) an ⋯ λu B E as Vt ⟨a1,a2⟩=>⟨_,rfl,aQ ⟨_,rfl,?_⟩⟩;have bd:h S.objs.size=Y:=N.aY.fresh (bb _);have be:∀d n,S.get? d=Z n->d≠S.objs.size:=λd n c=>cT (bW c);refine⟨.ref S.objs.size,upd h S.objs.size<|.lst<|u.toList.map λa=>U0.getD a .aS,?_,rfl,p u _ E as bd⟩;refine N.laid (Vd:=m.toks) (λd J c=>Vt d J (be d J c)<|bT _ c) (bb _) ⟨?_,_,a1,?_,a2⟩
   ·rw[bl,dk,E.size];lia
   ·refine tb ↥0 λa v J y B=>?_;rw[dU]at y B;cases F:u.toList[a]? with
    |none=>rw[F]at y;cases y
    |some q=>
     rw[F]at y B;cases y;cases B;have Q:q<UW.length:=eT.mp (E.mem_iff.mp<|gF F);let⟨@J,o,bi⟩:=H.get (a:=q) (f:=U0[q]'⋯) (by simp[show q<U0.length by lia]);rw[dy Q]at o;have o:=Option.some.inj o;simp only[List.getD,dy Q,dy (show q<U0.length by lia),uL];rw[o];exact bi
end
def qs(U8:List Int)(a:Nat):Int:=(U8.getD a 0)
def P6(aj:U8.Nodup):∀a i,a<U8.length->i<U8.length->qs U8 a=qs U8 i->a=i:=λa i UN b c=>by
 unfold qs at c;rw[cA,cA,dy UN,dy b]at c;have d:U8[a]=U8[i]:=c;rcases q_ a i with e|e|e
 ·exact absurd d ((oc.mp aj) a i UN b e)
 ·exact e
 ·exact absurd d.symm ((oc.mp aj) i a b UN e)
def OL(b:cW U8.length u)(f:i8 (qs U8) u U8.length)(aj:U8.Nodup):(u.toList.map λa=>U8.getD a 0).Pairwise (· < ·):=by
 rw[oc];intro a i UN c g;have ar:=b.size;have j:a<U8.length:=by simpa [ar] using UN
 have d:i<U8.length:=by simpa [ar] using c
 have ne:=b.ne (P6 aj) g d;have le:=f a i ⋯ d;have F:∀q (e:q<(u.toList.map λa=>U8.getD a 0).length),(u.toList.map λa=>U8.getD a 0)[q]=bf (qs U8) u q:=λq e=>by
  have h:q<u.size:=by simpa using e
  rw[B7,Ic];show _=U8.getD (u.getD q 0) 0;simp[Array.getD,h]
 rw[F a UN,F i c];lia
section
variable{b:aO}
theorem u7{h:ax}:∀{U8:List Int}{UW:List ab},cp (U8.map ak.int) UW->∀(a:Nat),a<U8.length->∃C,UW[a]?=Z (.int (U8.getD a 0) C)
 |s::j,_,.cons g d,0,e=>by let⟨@C,rfl⟩:=g;exact⟨C,rfl⟩
 |s::j,_,.cons g d,a+1,e=>by
  let⟨@C,c⟩:=u7 (h:=h) d a ⇑e;exact⟨C,by simpa using c⟩
def Pb(t:b.calm=X):eR b (.builtin "sorted") (λE h A=>∃(g:ah) (U8:List Int),E=[.ref g]/\h g=Z (.lst<|U8.map ak.int)/\U8.Nodup/\U8.length<=1000/\
  ∀I (n:List Int),h I=Y->n.Perm U8->n.Pairwise (· < ·)->A (.ref I) (upd h I<|.lst<|n.map ak.int)):=by
 intro R m z h E Va A l j e;let⟨g,@U8,rfl,w,aj,x,p⟩:=e;let⟨@J,rfl,D⟩:=iM j;cases D;let@⟨k,⟨UW,@s,d,c⟩⟩:=l.aY g _ w;have o:UW.length=U8.length:=by rw[<-d.length,bl]
 refine DY t (qs U8) oneType' l d (.inl rfl) c rfl rfl (by rw[bl];exact x) (λB F Vq q O UH A G=>?_) (λF Vq q=>?_) (.inl ⋯) λu I f r aT=>?_
 ·refine kas_kind (T:=ab.type "int") B (λv H=>?_) ∅ ∅ G;let⟨@a,UN⟩:=vp H;let⟨@C,bP⟩:=u7 (h:=h) d a (by rw[<-o];exact (eV.mp UN).1);rw[UN]at bP;cases bP;exact AV rfl
 ·intro a i aN UN P p;let⟨@C,y⟩:=u7 (h:=h) d a ⋯;let⟨@J,B⟩:=u7 (h:=h) d i ⋯;unfold eU;rw[u4 rfl,u4 rfl,cA,cA,y,B];show wpAny _ _ (keyLt' oneType' (.int _ C)<|.int _ J) _ _ _;rw[keyLt'_oneType];exact oneLt_int p
 ·rw[o]at f r;have L:(u.toList.map λa=>(U8.map ak.int).getD a .aS)=(u.toList.map λa=>U8.getD a 0).map ak.int:=by
   rw[e7];refine oI λq M=>?_;have N:q<U8.length:=eT.mp (f.mem_iff.mp M);show (U8.map ak.int).getD q .aS=ak.int (U8.getD q 0);simp[List.getD,N]
  rw[L];exact p I _ aT (sj f) (OL f r aj)
end
end L2
namespace L2
open Spec PyProof.Rows
section
variable{b:aO}
def hV:List V->List V->List V
 |f::E,x::U0=>.tup [f,x]::hV E U0
 |_,_=>[]
theorem GL:∀(E U0:List V),(hV E U0).length=min E.length U0.length
 |[],U0=>by simp[hV]
 |f::E,[]=>by simp[hV]
 |f::E,x::U0=>by simp[hV,GL E U0]
theorem FF:∀(E U0:List V) (a:Nat) (r:V),(hV E U0)[a]?=Z r->∃f x,E[a]?=Z f/\U0[a]?=Z x/\r=.tup [f,x]
 |[],U0,a,r,e=>by simp[hV]at e
 |f::E,[],a,r,e=>by simp[hV]at e
 |f::E,x::U0,0,r,e=>by simp[hV]at e;exact⟨f,x,rfl,rfl,e.symm⟩
 |f::E,x::U0,a+1,r,e=>by
  let⟨g,d,y,B,b⟩:=FF E U0 a r (by simpa [hV] using e);exact⟨g,d,by simpa using y,by simpa using B,b⟩
@[simp] def AG(F:ay (List bJ)):iP:=λw=>(F w).bind λu=>(gw u.2 u.1).bind λH=>match H with
 |[.im (.tup f),.im<|.tup x]=>Z ((hV f x,Y),u.2)
 |_=>Y
theorem KO{UK:Φ}{h:ax}{g d:ah}{E U0:List ak}{H T:List V}(e:h g=Z (.tup E))(hd:bI h H E)(S:h d=Z (.tup U0))(b:bI h T U0):kZ (uN UK g d) h [] (hV H T) where
 go:=λQ C q a r c=>by
  let⟨f,x,p,s,rfl⟩:=FF H T a r c;let⟨v,i,t⟩:=hd.get p;let⟨J,Vf,Vt⟩:=b.get s;have j:=cC.of (UK:=UK) (C.tup g _ e);have l:=cC.of (UK:=UK) (C.tup d _ S);refine⟨⟨E,U0,v,J,j,l,i,Vf⟩,λk A ⟨UO,B,D,N,u,w,y,z⟩=>?_⟩;subst u w;have n:=y E j;have o:=z U0 l;rw[i]at n;rw[Vf]at o;cases n;cases o;have m:bV Q (upd Q UO<|.tup [v,J]):=(bV.refl Q).upd N;exact⟨m,UO,[v,J],rfl,dp,⟨v,[J],rfl,(t.mono C.tup).mono m.tupS.tup,J,[],rfl,(Vt.mono C.tup).mono m.tupS.tup,rfl⟩⟩
 stop:=λQ C q=>⟨E,U0,cC.of<|C.tup g _ e,cC.of<|C.tup d _ S,by rw[GL,<-hd.length,<-b.length];lia⟩
def Tn{g d:bh}{F:ay (List bJ)}{u UZ:Pos}{T:List bh}{V9:Nat}{U1:Pos}(k:eM b "zip")(l:b.aM "zip" = Y)(a:fA b [g,d] F)(ar:bS [g,d] b.env=[(av,b7 g b.env),(av,b7 d b.env)]:=by rfl)(m:bS [d] b.env=[(av,b7 d b.env)]:=by rfl):
  kz b (.Tuple T V9 U1) (.Call (.Name "zip" u) [g,d] [] UZ) (AG F):=by
 refine sN (SK k l a ar m) λz h A ⟨w,P,j,U4,L,aj,n,p⟩=>?_;let⟨⟨U5,UR⟩,y,B⟩:=bN.mp n;let⟨H,o,e⟩:=bN.mp B;refine⟨w,P,U5,UR,L,aj,y,λU UP U3 C f q r=>?_⟩;have s:=q.read f o;split at e
 ·cases e;let⟨v,J,rfl,c,t⟩:=xe s;let⟨g,E,rfl,Vf,Vt⟩:=c;let⟨d,U0,rfl,i,x⟩:=t;exact⟨g,d,rfl,⟨E,cC.of Vf⟩,⟨U0,cC.of i⟩,p _ UP U3 [] f (KO Vf Vt i x) trivial (λg a=>nomatch a) (by rw[b8];exact r.both)⟩
 ·cases e
@[simp] def Uk:i5:=λH=>match H with
 |[.im (.int a),.im<|.int i,.im<|.int q]=>Z (.im<|.int<|min (min a i) q)
 |_=>Y
def kp(lt:V->V->Bool)(f:V):List V->List V
 |[]=>[f]
 |x::j=>if lt f x=X then f::x::j else x::kp lt f j
def fy(lt:V->V->Bool):List V->List V
 |[]=>[]
 |f::j=>kp lt f (fy lt j)
def vU:V->V->Bool
 |.int a,.int i=>decide (a<i)
 |_,_=>av
def qX:List V->Option (List Int)
 |[]=>Z []
 |.int a::j=>(qX j).map λm=>a::m
 |_::_=>Y
@[simp] def x2:i5:=λH=>match H with
 |[.lst f]=>(qX f).bind λU8=>if U8.Nodup/\U8.length<=1000 then Z (.lst<|fy vU f) else Y
 |_=>Y
def mV(f:Int):List Int->List Int
 |[]=>[f]
 |x::j=>if f<x then f::x::j else x::mV f j
def pA:List Int->List Int
 |[]=>[]
 |f::j=>mV f (pA j)
theorem HH(f:Int):∀I:List Int,kp vU (.int f) (I.map .int)=(mV f I).map .int
 |[]=>rfl
 |x::j=>by
  rw[cw,kp,mV,vU];by_cases e:f<x
  ·rw[aK ⇑e,aK e];rfl
  ·rw[aL ⇑e,aL e,HH f j];rfl
theorem Ie:∀I:List Int,fy vU (I.map .int)=(pA I).map .int
 |[]=>rfl
 |f::j=>by rw[cw,fy,Ie j,HH];rfl
theorem yR(f:Int):∀I:List Int,(mV f I).Perm (f::I)
 |[]=>List.Perm.refl _
 |x::j=>by
  rw[mV];split
  ·exact List.Perm.refl _
  ·exact ((yR f j).cons x).trans (List.Perm.swap f x j)
theorem yz:∀I:List Int,(pA I).Perm I
 |[]=>List.Perm.refl _
 |f::j=>(yR f _).trans ((yz j).cons f)
theorem HT(f:Int):∀I:List Int,I.Pairwise (·<=·)->(mV f I).Pairwise (·<=·)
 |[],_=>gh _ _
 |x::j,e=>by
  let⟨y,B⟩:=gj.mp e;rw[mV];split
  ·rename_i b;refine gj.mpr ⟨λk a=>?_,e⟩;rcases b9.mp a with rfl|a
   ·lia
   ·have:=y k a;lia
  ·rename_i b;refine gj.mpr ⟨λk a=>?_,HT f j B⟩;rcases b9.mp ((yR f j).mem_iff.mp a) with rfl|a
   ·lia
   ·exact y k a
theorem Cd:∀I:List Int,(pA I).Pairwise (·<=·)
 |[]=>List.Pairwise.nil
 |f::j=>HT f _ (Cd j)
def Po{I:List Int}(e:I.Nodup):(pA I).Pairwise (· < ·):=by
 have y:=Cd I;have B:(pA I).Nodup:=(yz I).nodup_iff.mpr e;exact M3 (λg d f x=>⋯) y B
theorem H8:∀{I t:List Int},I.Perm t->I.Pairwise (· < ·)->t.Pairwise (· < ·)->I=t
 |[],t,e,_,_=>e.nil_eq
 |g::I,[],e,_,_=>absurd e.length_eq ↥0
 |g::I,d::t,e,f,h=>by
  have a:=gj.mp f;have b:=gj.mp h;have c:g=d:=by
   rcases b9.mp (e.mem_iff.mp<|.head _) with k|k
   ·exact k
   ·rcases b9.mp (e.mem_iff.mpr<|.head _) with x|x
    ·exact x.symm
    ·have y:=a.1 d x;have B:=b.1 g k;omega
  subst c;rw[H8 e.cons_inv a.2 b.2]
theorem IJ:∀{f:List V}{U8:List Int},qX f=Z U8->f=U8.map .int
 |[],U8,e=>by cases e;rfl
 |.int a::j,U8,e=>by
  rw[qX]at e;let⟨m,y,rfl⟩:=cm.mp e;rw[IJ y];rfl
 |.aS::_,_,e=>by cases e
 |.aE _::_,_,e=>by cases e
 |.str _::_,_,e=>by cases e
 |.tup _::_,_,e=>by cases e
 |.fn _::_,_,e=>by cases e
 |.aT _::_,_,e=>by cases e
 |.fd::_,_,e=>by cases e
theorem E3{h:ax}:∀{U8:List Int}{U:List ak},bI h (U8.map .int) U->U=U8.map ak.int
 |[],U,e=>e
 |s::j,U,e=>by
  let⟨v,C,rfl,y,B⟩:=e;cases (show v=.int s from y);rw[E3 B];rfl
theorem Hp{h:ax}:∀U8:List Int,bI h (U8.map .int) (U8.map ak.int)
 |[]=>rfl
 |s::j=>⟨.int s,_,rfl,rfl,Hp j⟩
def N8(e:b.calm=X)(k:b.A.units+20<bR):hI b (.builtin "sorted") x2:=by
 refine (Pb e).imp λE h A ⟨H,r,g,c,p⟩=>?_;unfold x2 at c;split at c
 ·rename_i f;let⟨U8,i,a⟩:=bN.mp c;split at a
  ·rename_i d;cases a;let⟨v,rfl,W,u,E,rfl,y,B,W⟩:=gM g;cases IJ i;cases E3 B;refine⟨u,U8,rfl,y,d.1,d.2,λI m aT Vr j=>?_⟩;rw[Ie]at p;rw[H8 (Vr.trans (yz U8).symm) j (Po d.1)];exact cu.l p aT (Hp _)
  ·cases a
 ·cases c
def yl(a:b.A.units+20<bR):tD b lF:=Bm
end
end L2
namespace L2
variable{g e F d:bO}{c:ay ag}{own t s:Nat}{H:List ag}{Vg:List Nat}{n:Option (Nat×ag)}{E:List V}{r:ag}{UR w:a4}{o:ay Bool}{Ve:fh}{U_:Type}{i a:Int}
@[simp] theorem T7(r:V)(w:a4):az r w=Z (.im r,w):=rfl
@[simp] theorem Ug(w:a4):aG w=Z ([],w):=rfl
@[simp] theorem Ui(w:a4):eD w=Z (.bz,w):=rfl
@[simp] theorem UE(w:a4):SH w=Z (Y,w):=rfl
@[simp] theorem Uz(w:a4):et w=Z (X,w):=rfl
@[simp] theorem Uy(r:V):(ag.im r).c4=X:=rfl
@[simp] theorem Up(r:List V):(ag.c2 r).c4=X:=rfl
@[simp] theorem Uq(r:List V):(ag.lst r).c4=av:=rfl
@[simp] theorem Uj(r:List (List V×V)):(ag.aJ r).c4=av:=rfl
@[simp] theorem UD(r:List (ew×V)):(ag.dn r).c4=av:=rfl
@[simp] theorem UA(w:a4)(r:ag):d7 w (.dv r)=Z r:=rfl
@[simp] theorem Ut(w:a4)(a:Nat):d7 w (.bF a)=(w[a]?).getD Y:=rfl
@[simp] theorem UC(w:a4):gw w []=Z []:=rfl
@[simp] theorem Ue(w:a4)(n:bJ)(U5:List bJ):gw w (n::U5)=(d7 w n).bind λr=>(gw w U5).map λH=>r::H:=rfl
@[simp] theorem Ua(w:a4):eB [] w=Z ([],w):=rfl
@[simp] theorem T9(r:ag)(U5:List bJ)(w:a4):eB (.dv r::U5) w=(eB U5 w).map λu=>(r::u.1,u.2):=rfl
@[simp] theorem Us(a:Nat)(U5:List bJ)(w:a4):eB (.bF a::U5) w=(dS a w).bind λu=>(eB U5 u.2).map λp=>(u.1::p.1,p.2):=rfl
@[simp] theorem Uc:hk []=Z []:=rfl
@[simp] theorem Uv(r:V)(H:List ag):hk (.im r::H)=(hk H).map λj=>r::j:=rfl
@[simp] theorem Ur(d:Bool):oX (.im<|.aE d)=Z d:=rfl
def nM(y : -(2^64)<i)(B:i<2^64):hn a i=X:=by
 have:br.Int.intBits i<=64:=Ed y B;have S:¬ (br.Int.intBits i>tP):=pw.mpr this;unfold hn;rw[el S];simp
def zK(y : -(2^64)<a)(B:a<2^64):hn a i=X:=by
 have:br.Int.intBits a<=64:=Ed y B;have S:¬ (br.Int.intBits a>tP):=pw.mpr this;unfold hn;rw[el S];simp
def Ef{E:List U_}{r:U_}(b:0<=a)(e:E[a.toNat]?=Z r):eH E a=Z r:=by
 unfold eH jC;have UN:a.toNat<E.length:=(eV.mp e).1;rw[aK b,aK ⋯];exact e
def S3{E:List U_}{r:U_}(e:E.getLast?=Z r):eH E (-1)=Z r:=by
 rw[G6]at e;have UN:E.length-1<E.length:=(eV.mp e).1;unfold eH jC;rw[aL ∅,aK ⋯];show E[(-1+(E.length:Int)).toNat]?=Z r;rw[show (-1+(E.length:Int)).toNat=E.length-1 by lia];exact e
def Ph(l:Nat->a4->Prop)(UG:ag->a4->Prop):∀{E:List V}{w:a4},l 0 w->
  (∀(a:Nat) (f:V) (w:a4),E[a]?=Z f->l a w->∃UR aT Vi,Ve (.im f) w=Z UR/\d UR=Z (aT,Vi)/\(((aT=.bz\/aT=.ct)/\l (a+1) Vi)\/∃r,aT=.a5 r/\UG r Vi))->
  (∃U4,en Ve d E w=Z (.bz,U4)/\l E.length U4)\/∃r U4,en Ve d E w=Z (.a5 r,U4)/\UG r U4:=by
 intro E;induction E generalizing l with
 |nil=>intro w b W;exact .inl ⟨w,rfl,b⟩
 |cons f j g=>
  intro w b e;let⟨UR,aT,@Vi,y,B,h⟩:=e 0 f w rfl b;rcases h with ⟨i,ef⟩|⟨r,rfl,k⟩
  ·have:=g (λa=>l<|a+1) (w:=Vi) ef λa x U4 m n=>e (a+1) x U4 ⇑m n;have c:en Ve d (f::j) w=en Ve d j Vi:=by
    rw[en];dsimp only;rw[y];show (d UR).bind _=_;rw[B];rcases i with rfl|rfl<;>rfl
   rw[c];exact this
  ·refine .inr ⟨r,Vi,?_,k⟩;rw[en];dsimp only;rw[y];show (d UR).bind _=_;rw[B];rfl
def A5(l:Nat->a4->Prop){E:List V}{w:a4}(b:l 0 w)(e:∀(a:Nat) (f:V) (w:a4),E[a]?=Z f->l a w->∃UR aT Vi,Ve (.im f) w=Z UR/\d UR=Z (aT,Vi)/\(aT=.bz\/aT=.ct)/\l (a+1) Vi):
  ∃U4,en Ve d E w=Z (.bz,U4)/\l E.length U4:=by
 rcases Ph l (λ_ W=>False) b (λa f w c ef=>by
  let⟨UR,aT,@Vi,y,B,g,h⟩:=e a f w c ef;exact⟨UR,aT,Vi,y,B,.inl ⟨g,h⟩⟩) with e|⟨_,_,_,e⟩
 ·exact e
 ·exact e.elim
def Pc(l:Nat->a4->Prop)(b:a4->Prop)(step:∀t w,l t w->∃C UR,o w=Z (C,UR)/\(C=X->∃aT Vi,d UR=Z (aT,Vi)/\(aT=.bz\/aT=.ct)/\∃a,a<t/\l a Vi)/\(C=av->b UR)):
  ∀(s t:Nat) (w:a4),l t w->t<s->∃U4,fB o d s w=Z (.bz,U4)/\b U4:=by
 intro s;induction s with
 |zero=>intro t w W e;lia
 |succ s c=>
  intro t w ef k;let⟨C,@UR,y,B,f⟩:=step t w ef;rw[fB];dsimp only;rw[y];cases C with
  |false=>exact⟨UR,rfl,f rfl⟩
  |true=>
   let⟨aT,@Vi,g,hf,⟨@a,m,h⟩⟩:=B rfl;let⟨@U4,i,j⟩:=c a Vi h ⋯;refine⟨U4,?_,j⟩;simp only[Option.bind_some,iY,g];rcases hf with rfl|rfl<;>exact i
def ND(E:List U_):E.filter (λ_=>X)=E:=List.filter_eq_self.mpr λ_ W=>rfl
def ox(c:F w=Z (.bz,UR)):bE F e w=e UR:=by unfold bE;rw[c];rfl
def mN(c:F w=Z (.a5 r,UR)):bE F e w=Z (.a5 r,UR):=by unfold bE;rw[c];rfl
def Sa{F:iP}{Vi:a4}{aT:gA}(c:F w=Z ((E,n),UR))(e:en Ve d E UR=Z (aT,Vi)):g8 F Ve d w=Z (aT,lI n Vi):=by
 unfold g8;rw[c];show (en Ve d E UR).map _=_;rw[e];rfl
def Kf{j:ag}(a:H.length=s)(c:F (H.map Z++List.replicate (t-s) Y)=Z (.a5 j,w)):dF s t Vg F H=Z (j,ia Vg H w 0):=by
 unfold dF;rw[aK a,c]
def Ra{Vh:List Nat}{C:iP}{a:a4}{H:List V}(y:C w=Z ((E,n),UR))(B:fk own Ve o c E [] (kj Vh UR)=Z (H,a)):dh own Vh C Ve o c w=Z (.lst H,lI n<|iX Vh a UR):=by
 unfold dh;rw[y];show (fk own Ve o c E []<|kj Vh UR).map _=_;rw[B];rfl
def fQ{F:ay ag}(c:F w=Z (r,UR)):dd F w=Z (.a5 r,UR):=by unfold dd;rw[c];rfl
def BA{a:Nat}{F:ay ag}(c:F w=Z (r,UR))(e:a<UR.length):cD a F w=Z (.bz,UR.set a<|Z r):=by unfold cD;rw[c];show (if a<UR.length then _ else _)=_;rw[aK e]
def A6(c:o w=Z (X,UR)):dP o g d w=g UR:=by unfold dP;rw[c];rfl
def AU(c:o w=Z (av,UR)):dP o g d w=d UR:=by unfold dP;rw[c];rfl
def qk(w:a4){j:ag}{l:List ag}(a:H.length=s)(c:F (H.map Z++List.replicate (t-s) Y)=Z (.a5 j,w))(b:ia Vg H w 0=l):dF s t Vg F H=Z (j,l):=by
 rw[Kf a c,b]
theorem pG{U_:Type}{own:Nat}{Ve:fh}{o:ay Bool}{c:ay ag}{aN:a4}(a:U_->V)(u:U_->Bool)(N:U_->V):∀(E:List U_) (Vv:List V),(∀f∈E,∃UR Vi,Ve (.im<|a f) (List.replicate own Y++aN)=Z UR/\o UR=Z (u f,Vi)/\(u f=av->Vi.drop own=aN)/\(u f=X->∃S,c Vi=Z (.im<|N f,S)/\S.drop own=aN))->
  Vv.length+E.length<=100000->fk own Ve o c (E.map a) Vv aN=Z (Vv++(E.filter u).map N,aN)
 |[],Vv,_,_=>by simp[fk]
 |f::j,Vv,e,g=>by
  let⟨UR,@Vi,y,B,h,i⟩:=e f (.head _);rw[dz]at g;rw[cw,fk,y];show (o UR).bind _=_;rw[B];show (if u f=X then _ else _)=_;cases b:u f with
  |false=>
   rw[aL cU];show fk own Ve o c (j.map a) Vv (Vi.drop own)=_;rw[h b,pG a u N j Vv (λx d=>e x<|.tail _ d) ⋯,si,b];rfl
  |true=>
   let⟨@S,k,l⟩:=i b;rw[aK rfl];show (c Vi).bind _=_;rw[k];show (if Vv.length<100000 then fk own Ve o c (j.map a) (Vv++[N f]) (S.drop own) else Y)=_;rw[aK ⋯,l,pG a u N j (Vv++[N f]) (λx d=>e x<|.tail _ d) (by rw[dW,jj];lia),si,b];simp
def jo{aN:a4}(a:U_->V)(N:U_->V)(E:List U_)(e:∀f∈E,∃UR Vi S,Ve (.im<|a f) (List.replicate own Y++aN)=Z UR/\o UR=Z (X,Vi)/\c Vi=Z (.im<|N f,S)/\S.drop own=aN)(h:E.length<=100000):fk own Ve o c (E.map a) [] aN=Z (E.map N,aN):=by
 have:=pG (own:=own) (Ve:=Ve) (o:=o) (c:=c) (aN:=aN) a (λ_=>X) N E [] (λf b=>by
  let⟨UR,Vi,@S,y,B,d,g⟩:=e f b;exact⟨UR,Vi,y,B,(λk=>by cases k),(λ_=>⟨S,d,g⟩)⟩) (by rw[iW];lia)
 rw[ND]at this;exact this
end L2
namespace G
open L2
abbrev aA(a:Int):ag:=.im (.int a)
end G
namespace L2
open Spec PyProof.Rows
section
variable{b:aO}
def qB:V->Option ew
 |.int a=>Z (.inl a)
 |.str f=>Z (.inr f)
 |_=>Y
@[simp] theorem Uo(a:Int):qB (.int a)=Z (.inl a):=rfl
@[simp] theorem Ud(f:aC):qB (.str f)=Z (.inr f):=rfl
def Eo:ew->V
 |.inl a=>.int a
 |.inr f=>.str f
@[simp] theorem Uh(a:Int):Eo (.inl a)=.int a:=rfl
@[simp] theorem Ub(f:aC):Eo (.inr f)=.str f:=rfl
def Jn{h:ax}{r:V}{v:ak}{q:ew}(e:cf h r v)(c:qB r=Z q):v=cv q:=by
 cases r with
 |int a=>cases c;exact e
 |str f=>cases c;exact e
 |_=>cases c
def jQ{U7:Type}[DecidableEq U7](UX:List (U7×V))(q:U7)(r:V):List (U7×V):=(
 if (UX.any λa=>decide (a.1=q))=X then UX.map (λa=>if a.1=q then (a.1,r) else a) else UX++[(q,r)])
variable{U7:Type}
def eL.any[DecidableEq U7]{h:ax}{q:U7}{I:List (U7×V)}{t:List (U7×ak)}(e:eL h I t):(I.any λa=>decide (a.1=q))=(t.any λa=>decide (a.1=q)):=by
 unfold eL at e;induction e with
 |nil=>rfl
 |cons j _ b=>rw[oR,oR,b,j.1]
def eL.upd[DecidableEq U7]{h:ax}{q:U7}{r:V}{v:ak}(D:cf h r v){I:List (U7×V)}{t:List (U7×ak)}(e:eL h I t):eL h (I.map λa=>if a.1=q then (a.1,r) else a) (t.map λa=>if a.1=q then (a.1,v) else a):=by
 unfold eL at e;induction e with
 |nil=>exact .nil
 |@cons u p _ _ j _ d=>
  rw[cw,cw];refine .cons ?_ d;by_cases c:u.1=q
  ·have b:p.1=q:=j.1.symm.trans c;rw[aK c,aK b];exact⟨j.1,D⟩
  ·have b:¬ p.1=q:=λk=>c (j.1.trans k);rw[aL c,aL b];exact j
def K8{U_ VR:Type}{P:U_->VR->Prop}{I:List U_}{t:List VR}{g:U_}{d:VR}(e:eg P I t)(f:P g d):eg P (I++[g]) (t++[d]):=by
 induction e with
 |nil=>exact .cons f .nil
 |cons j _ a=>exact .cons j a
def eL.put[DecidableEq U7]{h:ax}{q:U7}{r:V}{v:ak}(D:cf h r v){I:List (U7×V)}{t:List (U7×ak)}(e:eL h I t):eL h (jQ I q r) (iq t q v):=by
 unfold jQ iq;rw[e.any];split
 ·exact e.upd D
 ·exact K8 e ⟨rfl,D⟩
@[simp] def oA:ay ag:=λw=>Z (.aJ [],w)
def p3{UZ:Pos}:b5 b (.Dict [] [] UZ) oA:=by
 refine eh MH λz h A ⟨w,P,j,U4,L,aj,d,p⟩ u a=>?_;cases d;have m:bV h (L2.upd h u<|.aJ []):=(bV.refl h).upd a;have e:a9 h P h (P++[]):=by rw[b8];exact a9.perm aj (List.Perm.refl _)
 exact p _ _ P [u] (L.mono m.tupS λg W n c=>m g n c) ⟨u,[],rfl,dp,.nil,rfl⟩ (e.new m (gh _ _) (λg f=>by rw[cN.mp f];exact a) L.chg)
@[simp] def T_(a b:ay ag):ay ag:=λw=>(a w).bind λu=>(b u.2).bind λp=>match u.1,p.1 with
 |.im q,.im r=>(qB q).map λc=>(.dn [(c,r)],p.2)
 |_,_=>Y
@[simp] def gH(o q r:ag):Option ag:=match o,q,r with
 |.lst E,.im<|.int a,.im r=>(jC E.length a).map λi=>.lst (E.set i r)
 |.dn UX,.im q,.im r=>(qB q).bind λb=>if UX.length<100000 then Z (.dn<|jQ UX b r) else Y
 |.aJ UX,.im<|.tup q,.im r=>if V.keys 7 q=X/\UX.length<100000 then Z (.aJ<|jQ UX q r) else Y
 |_,_,_=>Y
def pK(F:b.A.units+20<bR):tD b gH:=by
 intro R m z h n a v G H J A l k i j I;let⟨o,q,r,L,UG,@UM,s,u,bK,aj,c,p⟩:=I;unfold gH at c;split at c
 ·exact Bm R m z h n a v G H J A l k i j ⟨_,_,_,L,UG,UM,s,u,bK,aj,c,p⟩
 ·let⟨@P,M,w⟩:=bN.mp c;split at w
  ·rename_i e;cases w;let⟨g,@U0,rfl,y,B,rfl⟩:=s;let@⟨hd,rfl⟩:=bK;have o:fZ h g:=⟨_,y,(λ_ c=>by cases c),(λ_ W c=>by cases c)⟩;cases k;have N:=Jn u.1 M;subst N;refine EH F l (nJ.k y (by rw[<-B.length];exact vD e)) i j λUI x=>⟨_,x,p _ [g] ?_ (a9.chg (.head _) o (gh _ _) λf D=>by simpa using D)⟩;exact⟨g,_,rfl,dp,(eL.put hd B).mono<|cf.nH o,rfl⟩
  ·cases w
 ·split at c
  ·rename_i e;cases c;let⟨g,@U0,rfl,y,B,rfl⟩:=s;let@⟨hd,rfl⟩:=bK;have o:fZ h g:=⟨_,y,(λ_ c=>by cases c),(λ_ W c=>by cases c)⟩;cases k;let⟨d,@E,rfl,Vf,Vt⟩:=u.1;refine EH F l (nJ.t y ⟨e.1,d,E,rfl,Vf,Vt⟩ (by rw[<-B.length];exact vD e.2)) i j λUI x=>⟨_,x,p _ [g] ?_ (a9.chg (.head _) o (gh _ _) λf D=>by simpa using D)⟩;exact⟨g,_,rfl,dp,(eL.put hd B).mono<|cf.nH o,rfl⟩
  ·cases c
 ·cases c
def RK{h:ax}{o:ag}{f:ak}{UG:List ah}(e:b2 h o f UG)(c:CP o=X):∃g,f=.ref g/\Ay h g:=by
 cases o with
 |dn H=>let⟨g,@E,rfl,y,W⟩:=e;exact⟨g,rfl,.inl ⟨E,.inl y⟩⟩
 |aJ H=>let⟨g,@E,rfl,y,W⟩:=e;exact⟨g,rfl,.inr ⟨E,.inl y⟩⟩
 |_=>cases c
def HZ[DecidableEq U7]{h:ax}{q:U7}{UX:List (U7×V)}{i:List (U7×ak)}{r:V}{v:ak}(e:eL h UX i)(D:cf h r v):cf h ((d9 UX q).getD r) ((ho i q).getD v):=by
 let@⟨y,B⟩:=mi (q:=q) e;cases c:d9 UX q with
 |none=>rw[B c];exact D
 |some f=>let⟨@J,a,b⟩:=y f c;rw[a];exact b
theorem sQ{U_ VR:Type}{P:U_->VR->Prop}:∀{b:List U_}{c:List VR},eg P b c->∀(a:Nat),a<b.length->∃g d,b[a]?=Z g/\c[a]?=Z d/\P g d
 |_,_,.nil,a,e=>by simp at e
 |_,_,.cons j C,0,e=>⟨_,_,rfl,rfl,j⟩
 |_,_,.cons j C,a+1,e=>by
  let⟨g,@d,f,x,k⟩:=sQ C a ⇑e;exact⟨g,d,by simpa using f,by simpa using x,k⟩
end
section
variable{b:aO}
def G2:bJ->ag->Option (Nat×ag)
 |.bF a,r=>Z (a,r)
 |.dv _,_=>Y
@[simp] theorem Ux(a:Nat)(r:ag):G2 (.bF a) r=Z (a,r):=rfl
@[simp] theorem T8(o r:ag):G2 (.dv o) r=Y:=rfl
end
section
variable{US:bC}{D:bc}{O:bw}{UH:ab->ai->Prop}{m:ai}
def KD{ay:fH}{g:ah}{A:Option aX->ai->Prop}(e:A (m.heap.get? g) m):wpAny ay O (loadIfAlive g) A UH m:=λa u b=>by
 show dw.wp ay a (.loadIfAlive g .pure) _ _ u m;rw[dw.wp,dw.wp];exact e
end
section
variable{b:aO}
def QT{o:Nat}{a:aC}{V5 q:Pos}{Ve VQ V8:bh}{V4:List bh}{U2:eO}{UZ:Pos}{own:List aC}{Vh:List Nat}{Wa:c1}{F:jU->gY}{H:jU->ea}{VV:jU->cb}(x:b.N.Nodup)(y:b.N[o]?=Z a)(B:hc b.env.scope a)(C:b.calm=X)(UM:hK b U2 own Vh)(UN:jb b Ve VQ Wa)(D:∀i,jI (b.fK (fP b own Vh) U2 i) Ve<|F i)(bP:∀i,qP (b.fK (fP b own Vh) U2 i) V4<|H i)(E:∀i,bD (b.fK (fP b own Vh) U2 i) V8<|VV i)(ar:∀f,mW VQ b.env f=pure f:=by intro W;rfl)(G:oj (.ListComp V8 [⟨Ve,VQ,V4,0⟩] U2 UZ) (Z<|.Name a V5) q.line b.env=pure X:=by rfl)(I:b.fn a=X\/b.env.scope.names.lookup a=Z .local:=by first|exact .inl rfl|exact .inr rfl|assumption):
  hT b (.Assign [.Name a V5] (.ListComp V8 [⟨Ve,VQ,V4,0⟩] U2 UZ) q) (Az (wh own Vh Wa F H VV)<|y3 o):=by
 intro R m z h J l e;rw[exec_Assign_Name_used _ _ _ _ G];refine ao (wd<|ao ?_);show wpAny _ b.A (do let _ <-ya (.ListComp V8 [⟨Ve,VQ,V4,0⟩] U2 UZ) U2 b.env _ (oo []) av (b7 VQ b.env) (Z<|hr (.Name a V5) b.env)) _ _ m;refine ao (f7 (Ht (use:=Z (hr (.Name a V5) b.env)) (f8:=λ_ UI=>oQ b R J .next UI) C UM UN D bP E ar l e λw aN a1 L t M P N r s k u p=>?_) (λ_ UI Q=>aQ<|aQ Q) λ_ W c=>c);show wpAny _ b.A (hr (.Name a V5) b.env<|.ref w) _ _ L;refine Eb (Gb M x y B (v:=.ref w) rfl (λT U al=>?_) I);let⟨@g,am,j⟩:=al;have an:aN≠g:=by
  rcases j with rfl|j
  ·exact Ne.symm r
  ·exact Ne.symm (s _ _ j)
 exact⟨t,P.sameBut am an,λS cz=>⟨_,_,U.turned (af:=aN) (Vd:=T.toks) (λd n ap c=>(cz.2 d ap).trans c) N (Ne.symm r) (.inr k) s u,p⟩⟩
def yZ{Vg:List Nat}{a:Nat}{c:aC}{V5 e:Pos}{Ve VQ V8:bh}{V4:List bh}{U2:eO}{UZ:Pos}{own:List aC}{Vh:List Nat}{C:iP}{x:fh}{V1:ay Bool}{Wd:ay ag}(g:b.N.Nodup)(i:b.N[a]?=Z c)(k:hc b.env.scope c)(l:b.calm=X)(UM:hK b U2 own Vh)(aj:Vh.Nodup)(UN:kz b Ve VQ C)(m:∀d,hY (b.fK (fP b own Vh) U2 d) (qt own.length Vh.length) Ve x)(bP:∀d,wK (b.fK (fP b own Vh) U2 d) V4 V1)(n:∀d,b5 (b.fK (fP b own Vh) U2 d) V8 Wd)(o:a∉Vg)(ar:∀f,mW VQ b.env f=pure f:=by intro W;rfl)(q:oj (.ListComp V8 [⟨Ve,VQ,V4,0⟩] U2 UZ) (Z<|.Name c V5) e.line b.env=pure X:=by rfl)(r:b.fn c=X\/b.env.scope.names.lookup c=Z .local:=by first|exact .inl rfl|exact .inr rfl|assumption):
  iw b Vg (.Assign [.Name c V5] (.ListComp V8 [⟨Ve,VQ,V4,0⟩] U2 UZ) e) (cD a<|dh own.length Vh C x V1 Wd):=by
 refine kq (QT g i k l UM UN m bP n ar q r) λUH z h s=>?_;let⟨w,P,aT,@U4,L,t,u,p⟩:=s;let⟨@⟨j,UR⟩,y,B⟩:=bN.mp u;split at B
 ·rename_i A;cases B;refine Ew aj ⟨w,P,j,_,L,t,y,λv UP U3 UG D Vc E=>?_⟩;let⟨G,@bU,F,Vr⟩:=D.put (a:=a) Vc A;exact p _ UP G (dt.set o) F (E.less Vr)
 ·cases B
def tA:ag->ag
 |.lst f=>.im (.aT f)
 |.aJ []=>.im .fd
 |r=>r
@[simp] theorem Uw(f:List V):tA (.lst f)=.im (.aT f):=rfl
@[simp] theorem UB(r:V):tA (.im r)=.im r:=rfl
@[simp] def wD(F:ay ag):ay ag:=λw=>(F w).map λu=>(tA u.1,u.2)
variable{g:ah}{Vl:aX}
def tB{h:ax}{J:e1}(Vf:h g=Z J)(a:∀E,J≠.tup E)(VT:∀u v,J≠.b6 u v):e2 h (upd h g<|.b6 Vl J):=e2.of (λd E c=>by
  have:d≠g:=λk=>by subst k;rw[Vf]at c;cases c;exact a _ rfl
  rw[b0 this];exact c) λd n J c=>by
  have:d≠g:=λk=>by subst k;rw[Vf]at c;cases c;exact VT _ _ rfl
  rw[b0 this];exact c
def zA{R:List (ah×aX)}{z:a7}{h UP:ax}{i:ai}{A:cL}{P U3 UG:List ah}{UR:a4}{J:e1}{r:ag}(m:bx UP UR z U3)(a:a9 h P UP (U3++UG))(Vf:UP g=Z J)(o:∀E,J≠.tup E)(VT:∀u D,J≠.b6 u D)(q:UG=[g])(s:aF b R z (upd UP g<|.b6 Vl J) i)(hd:e2 UP (upd UP g<|.b6 Vl J)->b2 (upd UP g<|.b6 Vl J) r (.ref g) [])(p:∀v Q Vm j,bx Q UR z Vm->b2 Q r v j->a9 h P Q (Vm++j)->A v Q):ec b R z A (.ref g) i:=by
 subst q;have l:=dR.mp a.aj;have t:g∉U3:=λk=>l.2.2 g k g (.head _) rfl;have eF:=tB (Vl:=Vl) Vf o VT;refine⟨.ref g,_,s,rfl,p _ _ U3 [] (m.mono eF λd f n c=>by
   have ne:d≠g:=λk=>by subst k;exact t f
   rw[b0 ne];exact c) (hd eF) ?_⟩
 rw[b8];refine⟨λd n c f=>?_,λd f=>a.sub d<|fl _ f,l.1,a.tup.trans eF,λd n c=>?_⟩
 ·have:d≠g:=λk=>by
   subst k;rcases a.sub d (dT _<|.head _) with e|e
   ·exact f e
   ·rw[c]at e;cases e
  rw[b0 this];exact a.keep d n c f
 ·by_cases k:d=g
  ·exact⟨_,by rw[k];exact dp⟩
  ·let⟨@Vk,w⟩:=a.grow d n c;exact⟨Vk,by rw[b0 k];exact w⟩
def TB{c:bh}{F:ay ag}(e:b5 b c F):b5 b c (wD F):=by
 intro R m z h A l G;let⟨w,P,j,@U4,L,aj,N,p⟩:=G;let⟨@⟨H,UR⟩,y,B⟩:=cm.mp N;cases B;refine bZ (@e R m z h (λv UP=>∃U3 UG,bx UP UR z U3/\b2 UP H v UG/\a9 h P UP (U3++UG)) l ⟨w,P,H,UR,L,aj,y,λv UP U3 UG g d o=>⟨U3,UG,g,d,o⟩⟩) λJ u G=>?_;let⟨v,@UP,t,x,⟨U3,@UG,C,Vc,D⟩⟩:=G;cases H with
 |lst f=>
  let⟨g,@E,rfl,Vf,Vt,I⟩:=Vc;cases x;let@⟨k,⟨UW,@s,M,a⟩⟩:=t.aY g _ Vf;exact zA (r:=.im (.aT f)) C D Vf (λ_ c=>by cases c) (λ_ W c=>by cases c) I (t.write (S:=u.heap) (Vd:=u.toks) (c:=g) (by rw[Vf];trivial) (.inl rfl) (λd J W c=>c) ⟨_,a⟩ ⟨a,k,UW,s,M,a⟩) (λeF=>⟨⟨g,E,_,rfl,dp,Vt.mono eF.tup⟩,rfl⟩) p
 |aJ UX=>
  cases UX with
  |nil=>
   let⟨g,@i,rfl,Vf,Vt,I⟩:=Vc;cases Vt;cases x;let@⟨k,UJ,⟨@E,M,⟨n,T,@U9,a,O,Q,U,al⟩⟩⟩:=t.aY g _ Vf;cases M;exact zA (r:=.im .fd) C D Vf (λ_ c=>by cases c) (λ_ W c=>by cases c) I (t.write (S:=u.heap) (Vd:=u.toks) (c:=g) (by rw[Vf];trivial) (.inl rfl) (λd J W c=>c) ⟨_,a⟩ ⟨a,k,UJ,[],.nil,n,T,U9,a,O,Q,U,al⟩) (λ_=>⟨⟨g,_,rfl,dp⟩,rfl⟩) p
  |cons q j=>exact⟨v,UP,t,x,p v UP U3 UG C Vc D⟩
 |_=>exact⟨v,UP,t,x,p v UP U3 UG C Vc D⟩
end
end L2
namespace l2
open Spec PyProof.Rows
end l2
namespace L2
open Spec PyProof.Rows
variable{O:bw}{V1 VH M:ay bJ}{V_ N:f6}{A:ab->ai->Prop}{d:Bool}{Vy:ag}{J v:ab}{x:ak}{m:ai}{h:ax}{z:a7}{R:List (ah×aX)}{f r:V}
theorem Hf{e:aZ}:∀(s:Nat) {f x:V}{v:ab},V.bQ s f=X->V.bQ s x=X->de e f v->de e x v->f=x
 |s,.aS,x,v,_,a8,h,b=>by
  cases (show v=.none from h);cases x with
  |aS=>rfl
  |aE d=>cases b
  |int i=>let⟨@J,c⟩:=b;cases c
  |str k=>let⟨@J,c⟩:=b;cases c
  |tup H=>let⟨W,W,W,@W,c,W⟩:=b;cases c
  |fn g=>cases s<;>cases a8
  |aT g=>cases s<;>cases a8
  |fd=>cases s<;>cases a8
 |s,.aE d,x,v,_,a8,h,b=>by
  cases (show v=.bool d from h);cases x with
  |aS=>cases b
  |aE o=>cases b;rfl
  |int i=>let⟨@J,c⟩:=b;cases c
  |str k=>let⟨@J,c⟩:=b;cases c
  |tup H=>let⟨W,W,W,@W,c,W⟩:=b;cases c
  |fn g=>cases s<;>cases a8
  |aT g=>cases s<;>cases a8
  |fd=>cases s<;>cases a8
 |s,.int a,x,v,_,a8,h,b=>by
  let⟨@C,rfl⟩:=h;cases x with
  |aS=>cases b
  |aE o=>cases b
  |int i=>let⟨@J,c⟩:=b;injection c with c;rw[c]
  |str k=>let⟨@J,c⟩:=b;cases c
  |tup H=>let⟨W,W,W,@W,c,W⟩:=b;cases c
  |fn g=>cases s<;>cases a8
  |aT g=>cases s<;>cases a8
  |fd=>cases s<;>cases a8
 |s,.str a,x,v,_,a8,h,b=>by
  let⟨@C,rfl⟩:=h;cases x with
  |aS=>cases b
  |aE o=>cases b
  |int i=>let⟨@J,c⟩:=b;cases c
  |str k=>let⟨@J,c⟩:=b;injection c with c;rw[c]
  |tup H=>let⟨W,W,W,@W,c,W⟩:=b;cases c
  |fn g=>cases s<;>cases a8
  |aT g=>cases s<;>cases a8
  |fd=>cases s<;>cases a8
 |s+1,.tup H,x,v,dq,a8,h,b=>by
  let⟨g,n,Vj,@t,rfl,y,B,u,w⟩:=h;cases x with
  |aS=>cases b
  |aE o=>cases b
  |int i=>let⟨@J,c⟩:=b;cases c
  |str k=>let⟨@J,c⟩:=b;cases c
  |fn g=>cases a8
  |aT g=>cases a8
  |fd=>cases a8
  |tup T=>
   let⟨E,Vk,F,@G,c,m,I,l,z⟩:=b;cases c;rw[y]at m;cases m;rw[u]at l;injection l with l _;subst l;have all:∀(H T:List V) (U:List ab),V.dj s H=X->V.dj s T=X->dG e H U->dG e T U->H=T:=by
    intro H;induction H with
    |nil=>
     intro T U W W g d;cases T with
     |nil=>rfl
     |cons c T=>let⟨W,@W,p,W⟩:=d;rw[show U=[] from g]at p;cases p
    |cons r H A=>
     intro T U Vf Vt g d;let⟨v,@j,rfl,D,VL⟩:=g;cases T with
     |nil=>cases (show v::j=[] from d)
     |cons c T=>
      let⟨L,@VA,p,c5,dM⟩:=d;cases p;rw[V.dj,cS]at Vf Vt;rw[Hf s Vf.1 Vt.1 D c5,A T j Vf.2 Vt.2 VL dM]
   rw[all H T _ dq a8 w z]
 |0,.tup _,_,_,q,_,_,_=>by cases q
 |s,.fn _,_,_,q,_,_,_=>by cases s<;>cases q
 |s,.aT _,_,_,q,_,_,_=>by cases s<;>cases q
 |s,.fd,_,_,q,_,_,_=>by cases s<;>cases q
open Classical in
def nC(e:aZ)(r:V)(v:ab):Bool:=(if k:∃f,V.bQ 8 f=X/\de e f v then ck k.choose r else av)
def sb{e:aZ}(q:V.bQ 8 f=X)(a:de e f v):nC e r v=ck f r:=by
 unfold nC;have k:∃f,V.bQ 8 f=X/\de e f v:=⟨f,q,a⟩;rw[dif_pos k,Hf 8 k.choose_spec.1 q k.choose_spec.2 a]
theorem rl{e:aZ}{r:V}:∀{H:List V}{U:List ab},V.dj 8 H=X->dG e H U->U.any (nC e r)=H.any λf=>ck f r
 |[],U,_,c=>by rw[show U=[] from c];rfl
 |f::H,U,q,c=>by
  let⟨v,@j,rfl,y,B⟩:=c;rw[V.dj,cS]at q;rw[oR,oR,sb q.1 y,rl q.2 B]
theorem sY{e:aZ}:∀{H:List V}{U:List ab}{v:ab},V.dj 8 H=X->dG e H U->v∈U->∃f,V.bQ 8 f=X/\de e f v
 |[],U,v,_,c,t=>by rw[show U=[] from c]at t;cases t
 |f::H,U,v,q,c,t=>by
  let⟨J,@j,rfl,y,B⟩:=c;rw[V.dj,cS]at q;rcases b9.mp t with rfl|t
  ·exact⟨f,q.1,y⟩
  ·exact sY q.2 B t
section
variable{b:aO}
def gW(r:V):ag->Option Bool
 |.im (.tup H)=>if (V.bQ 8 r&&V.dj 8 H)=X then Z (H.any λf=>ck f r) else Y
 |.lst H=>if (V.bQ 8 r&&V.dj 8 H)=X then Z (H.any λf=>ck f r) else Y
 |.aJ UX=>match r with
  |.tup q=>if V.keys 7 q=X then Z (d9 UX q).isSome else Y
  |_=>Y
 |.dn UX=>match r with
  |.int a=>Z (d9 UX<|.inl a).isSome
  |.str f=>Z (d9 UX<|.inr f).isSome
  |_=>Y
 |_=>Y
@[simp] theorem MF(r:V)(H:List V):gW r (.im<|.tup H)=if (V.bQ 8 r&&V.dj 8 H)=X then Z (H.any λf=>ck f r) else Y:=rfl
@[simp] theorem Bz(r:V)(H:List V):gW r (.lst H)=if (V.bQ 8 r&&V.dj 8 H)=X then Z (H.any λf=>ck f r) else Y:=rfl
@[simp] theorem w7(q:List V)(UX:List (List V×V)):gW (.tup q) (.aJ UX)=if V.keys 7 q=X then Z (d9 UX q).isSome else Y:=rfl
@[simp] def hP:f6:=λg d=>match g with
 |.im r=>(gW r d).map λj=>.im (.aE j)
 |_=>Y
@[simp] def g5:f6:=λg d=>match g with
 |.im r=>(gW r d).map λj=>.im (.aE<|!j)
 |_=>Y
def qd{U7:Type}[DecidableEq U7]{h:ax}{q:U7}{UX:List (U7×V)}{i:List (U7×ak)}(e:eL h UX i):(ho i q).isSome=(d9 UX q).isSome:=by
 cases c:d9 UX q with
 |none=>rw[(mi e).2 c];rfl
 |some r=>let⟨@v,y,W⟩:=(mi e).1 r c;rw[y];rfl
def Pj{f:ak}(L:b.A.units+20<bR)(l:aF b R z h m)(j:bY f v)(n:bY x J)(o:cf h r f)(s:eE h Vy x)(c:gW r Vy=Z d)(p:∀UI,aF b R z h UI->A (.bool d) UI):wpAny (aR b.prog b.w) b.A (d1 .In v J) A b.cF m:=by
 unfold gW at c;split at c
 ·rename_i H;split at c
  ·rename_i e;cases c;rw[cS]at e;let⟨g,@E,rfl,y,B⟩:=s.i;cases n;let⟨@UW,N,u,W⟩:=l.tuple (cC.of y);have F:=B.e8 l.aY N;refine SeqAt.in_tupleAt (nC m.heap r) (show m.heap.IsTuple g UW.toArray from u) (λD M=>?_) ?_
   ·let⟨@k,G,I⟩:=sY e.2 F ⇑M;rw[sb G I];exact iN 8 G e.1 (by show b.A.units+1+8+1<bR;lia) I (o.e8 l.aY j)
   ·rw[tN,rl e.2 F];exact p m l
  ·cases c
 ·rename_i H;split at c
  ·rename_i e;cases c;rw[cS]at e;let⟨W,g,@E,rfl,y,B,W⟩:=s;cases n;let⟨@UW,u,F,W⟩:=qq l y B;refine SeqAt.in_listAt (nC m.heap r) u (λD M=>?_) ?_
   ·let⟨@k,G,I⟩:=sY e.2 F ⇑M;rw[sb G I];exact iN 8 G e.1 (by show b.A.units+1+8+1<bR;lia) I (o.e8 l.aY j)
   ·rw[tN,rl e.2 F];exact p m l
  ·cases c
 ·rename_i UX;split at c
  ·rename_i q;split at c
   ·rename_i P;cases c;let⟨W,g,@i,rfl,y,B,W⟩:=s;cases n;let⟨d,@U0,rfl,Q,S⟩:=o;rw[<-qd B]at p;exact yL L l (f9.t y ⟨P,d,U0,rfl,Q,S⟩) j p
   ·cases c
  ·cases c
 ·rename_i UX;split at c
  ·rename_i a;cases c;let⟨W,g,@i,rfl,y,B,W⟩:=s;cases n;rw[<-qd B]at p;cases (show f=cv (.inl a) from o);exact yL L l (f9.k y) j p
  ·rename_i a;cases c;let⟨W,g,@i,rfl,y,B,W⟩:=s;cases n;rw[<-qd B]at p;cases (show f=cv (.inr a) from o);exact yL L l (f9.k y) j p
  ·cases c
 ·cases c
def o7(e:b.A.units+20<bR):fe b (d1 .In) hP:=by
 intro R m z h f x v J A l g j k;let⟨Vz,Vy,@r,n,o,c,p⟩:=k;unfold hP at c;split at c
 ·let⟨@d,q,s⟩:=cm.mp c;cases s;exact Pj e l g j n.i o q λUI t=>⟨.aE d,h,t,rfl,cu.i p rfl⟩
 ·cases c
def Of{f:ak}(L:b.A.units+20<bR)(l:aF b R z h m)(j:bY f v)(n:bY x J)(o:cf h r f)(s:eE h Vy x)(c:gW r Vy=Z d)(p:∀UI,aF b R z h UI->A (.bool<|!d) UI):wpAny (aR b.prog b.w) b.A (d1 .NotIn v J) A b.cF m:=by
 unfold gW at c;split at c
 ·rename_i H;split at c
  ·rename_i e;cases c;rw[cS]at e;let⟨g,@E,rfl,y,B⟩:=s.i;cases n;let⟨@UW,N,u,W⟩:=l.tuple (cC.of y);have F:=B.e8 l.aY N;refine SeqAt.notIn_tupleAt (nC m.heap r) (show m.heap.IsTuple g UW.toArray from u) (λD M=>?_) ?_
   ·let⟨@k,G,I⟩:=sY e.2 F ⇑M;rw[sb G I];exact iN 8 G e.1 (by show b.A.units+1+8+1<bR;lia) I (o.e8 l.aY j)
   ·rw[tN,rl e.2 F];exact p m l
  ·cases c
 ·rename_i H;split at c
  ·rename_i e;cases c;rw[cS]at e;let⟨W,g,@E,rfl,y,B,W⟩:=s;cases n;let⟨@UW,u,F,W⟩:=qq l y B;refine SeqAt.notIn_listAt (nC m.heap r) u (λD M=>?_) ?_
   ·let⟨@k,G,I⟩:=sY e.2 F ⇑M;rw[sb G I];exact iN 8 G e.1 (by show b.A.units+1+8+1<bR;lia) I (o.e8 l.aY j)
   ·rw[tN,rl e.2 F];exact p m l
  ·cases c
 ·rename_i UX;split at c
  ·rename_i q;split at c
   ·rename_i P;cases c;let⟨W,g,@i,rfl,y,B,W⟩:=s;cases n;let⟨d,@U0,rfl,Q,S⟩:=o;rw[<-qd B]at p;exact yn L l (f9.t y ⟨P,d,U0,rfl,Q,S⟩) j p
   ·cases c
  ·cases c
 ·rename_i UX;split at c
  ·rename_i a;cases c;let⟨W,g,@i,rfl,y,B,W⟩:=s;cases n;rw[<-qd B]at p;cases (show f=cv (.inl a) from o);exact yn L l (f9.k y) j p
  ·rename_i a;cases c;let⟨W,g,@i,rfl,y,B,W⟩:=s;cases n;rw[<-qd B]at p;cases (show f=cv (.inr a) from o);exact yn L l (f9.k y) j p
  ·cases c
 ·cases c
def sW(e:b.A.units+20<bR):fe b (d1 .NotIn) g5:=by
 intro R m z h f x v J A l g j k;let⟨Vz,Vy,@r,n,o,c,p⟩:=k;unfold g5 at c;split at c
 ·let⟨@d,q,s⟩:=cm.mp c;cases s;exact Of e l g j n.i o q λUI t=>⟨.aE<|!d,h,t,rfl,cu.i p rfl⟩
 ·cases c
@[simp] def jf(N V_:f6)(M VH V1:ay bJ):ay ag:=λw=>(M w).bind λu=>(VH u.2).bind λp=>(d7 p.2 u.1).bind λVz=>(d7 p.2 p.1).bind λVy=>(N Vz Vy).bind λr=>(oX r).bind λq=>
 if q=X then (V1 p.2).bind λj=>(d7 j.2 p.1).bind λa=>(d7 j.2 j.1).bind λb=>(V_ a b).bind λk=>(oX k).map λd=>(.im<|.aE d,j.2) else Z (.im<|.aE av,p.2)
def ML{A:cL}(e:jF (jf N V_ M VH V1) z h A):
  Ck (λf x h A=>∃Vz Vy r,eE h Vz f/\eE h Vy x/\N Vz Vy=Z r/\cu h r A) (λf x h A=>∃Vz Vy r,eE h Vz f/\eE h Vy x/\V_ Vz Vy=Z r/\cu h r A) (nh M) (nh VH) (nh V1) z h A:=by
 let⟨w,P,j,@U4,L,aj,a,p⟩:=e;let⟨@⟨F,UR⟩,y,a⟩:=bN.mp a;let⟨@⟨Vo,Vi⟩,B,a⟩:=bN.mp a;let⟨@Vz,R,a⟩:=bN.mp a;let⟨@Vy,T,a⟩:=bN.mp a;let⟨@r,U,a⟩:=bN.mp a;let⟨@q,al,l⟩:=bN.mp a;have hd:=qY al;subst hd;refine⟨w,P,F,UR,L,aj,y,λf UP U3 am an H u=>⟨UR,U3,Vo,Vi,an,(dR.mp u.aj).1,B,λx U6 G bU m I o=>?_⟩⟩;have ap:i3 U6 z F f am:=H.mono o.tup λg b n c=>o.keep g n c λe=>(dR.mp u.aj).2.2 g e g b rfl;refine⟨Vz,Vy,_,ap.read m R,I.read m T,U,λv J as i Vc ds dL=>?_⟩;let@⟨rfl,rfl⟩:=(show v=.aE q/\as=[] from Vc);refine⟨q,rfl,?_⟩;have O:=u.trans o H.chg;rw[bq]at O;have s:=O.new i g4 (λg b=>nomatch b) m.chg;have Q:bx J Vi z G:=m.mono i.tupS λg W n c=>i g n c;cases q with
 |false=>
  rw[aL cU]at l ⊢;cases l;exact p _ J G [] Q ⟨rfl,rfl⟩ s
 |true=>
  rw[aK rfl]at l ⊢;let⟨@⟨Vu,S⟩,a1,Vf⟩:=bN.mp l;let⟨@a2,bd,Vt⟩:=bN.mp Vf;let⟨@be,bi,bm⟩:=bN.mp Vt;let⟨@k,bn,bs⟩:=bN.mp bm;let⟨@d,bv,ca⟩:=cm.mp bs;cases ca;have cd:=qY bv;subst cd;rw[b8]at s;refine⟨Vi,G,Vu,S,Q,s.aj,a1,λD ce ch eq t ci C=>?_⟩;have cl:=dR.mp o.aj;have co:i3 ce z Vo x bU:=(I.mono i.tupS λg W n c=>i g n c).mono C.tup λg b n c=>C.keep g n c λe=>cl.2.2 g e g b rfl;refine⟨a2,be,_,co.read t bd,ci.read t bi,bn,λv cr cs E db ev ex=>?_⟩;let@⟨rfl,rfl⟩:=(show v=.aE d/\cs=[] from db);exact p _ cr ch [] (t.mono E.tupS λg W n c=>E g n c) ⟨rfl,rfl⟩ ((s.seq C).new E g4 (λg b=>nomatch b) t.chg)
def FR{Vw a:kF}{g d o:bh}{UZ:Pos}(c:fe b (d1 Vw) N)(e:fe b (d1 a) V_)(f:dN b g M)(i:dN b d VH)(j:dN b o V1)(k:lastMarks [Vw,a] [d,o]=av:=by with_unfolding_all rfl):hW b (.Compare g [Vw,a] [d,o] UZ) (b1<|jf N V_ M VH V1):=by
 refine se (Sf c e f i j k) λz h A l=>?_;let⟨w,P,q,@U4,L,aj,n,p⟩:=l;refine ML ⟨w,P,.im<|.aE q,U4,L,aj,?_,λv Q Vm UG r Vc m=>⟨q,Vc.1,p Q Vm r (by rw[Vc.2,b8]at m;exact m)⟩⟩;let⟨@u,y,B⟩:=bN.mp n;let⟨@x,s,t⟩:=cm.mp B;cases t;rw[y,<-qY s]
end
mutual
def bp:V->V->Bool
 |.int a,.int i=>decide (a<i)
 |.str f,.str x=>decide (f.cps.toList<x.cps.toList)
 |.tup g,.tup d=>eK g d
 |_,_=>av
def eK:List V->List V->Bool
 |[],[]=>av
 |[],_::_=>X
 |_::_,[]=>av
 |g::j,d::C=>if V.beq g d=X then eK j C else bp g d
end
mutual
def eC:Nat->V->V->Bool
 |_,.int _,.int _=>X
 |_,.str _,.str _=>X
 |s+1,.tup g,.tup d=>fN s g d
 |_,_,_=>av
def fN:Nat->List V->List V->Bool
 |_,[],[]=>X
 |s,g::j,d::C=>eC s g d&&fN s j C
 |s,[],d::C=>V.dj s (d::C)
 |s,g::j,[]=>V.dj s (g::j)
end
mutual
theorem pb:∀{s:Nat}{g d:V},eC s g d=X->V.bQ s g=X/\V.bQ s d=X/\ck g d=V.beq g d
 |s,.int a,.int i,_=>by
  refine⟨by cases s<;>rfl,by cases s<;>rfl,?_⟩;rw[ck,V.beq];by_cases e:a=i<;>simp[e]
 |s,.str f,.str x,_=>by
  refine⟨by cases s<;>rfl,by cases s<;>rfl,?_⟩;rw[ck,V.beq];by_cases e:f=x<;>simp[e]
 |s+1,.tup g,.tup d,e=>by
  rw[eC]at e;let@⟨y,B,b⟩:=Ea e;exact⟨y,B,by rw[ck,V.beq];exact b⟩
theorem Ea:∀{s:Nat}{g d:List V},fN s g d=X->V.dj s g=X/\V.dj s d=X/\eY g d=V.lr g d
 |s,[],[],_=>⟨by cases s<;>rfl,by cases s<;>rfl,rfl⟩
 |s,[],d::C,e=>⟨by cases s<;>rfl,e,rfl⟩
 |s,g::j,[],e=>⟨e,by cases s<;>rfl,rfl⟩
 |s,g::j,d::C,e=>by
  rw[fN,cS]at e;let@⟨y,B,a⟩:=pb e.1;let@⟨b,c,f⟩:=Ea e.2;exact⟨by rw[V.dj,y,b];rfl,by rw[V.dj,B,c];rfl,by rw[eY,V.lr,a,f]⟩
end
def oC{g d:V}(e:¬ g=d):V.beq g d=av:=by
 cases c:V.beq g d with
 |false=>rfl
 |true=>exact absurd ((V.beq_iff g d).mp c) e
mutual
theorem qi:∀g:V,bp g g=av
 |.int a=>by simp[bp]
 |.tup g=>by rw[bp];exact Br g
 |.aS=>rfl
 |.aE _=>rfl
 |.str f=>by rw[bp];exact el (List.lt_irrefl _)
 |.fn _=>rfl
 |.aT _=>rfl
 |.fd=>rfl
theorem Br:∀g:List V,eK g g=av
 |[]=>rfl
 |g::j=>by rw[eK,aK<|(V.beq_iff g g).mpr rfl];exact Br j
end
mutual
theorem pO:∀{s:Nat}{g d:V},eC s g d=X->g≠d->bp g d=!(bp d g)
 |s,.int a,.int i,_,e=>by
  have:a≠i:=λc=>e (by rw[c]);rw[bp,bp];rcases Int.lt_or_gt_of_ne this with F|F
  ·simp[F];lia
  ·simp[F];lia
 |s,.str f,.str x,_,e=>by
  have ne:f.cps.toList≠x.cps.toList:=λc=>e (by
   let⟨f⟩:=f;let⟨x⟩:=x;exact congrArg (λk=>V.str ⟨k⟩) (B8.mp c))
  rw[bp,bp];by_cases F:f.cps.toList<x.cps.toList
  ·rw[dQ F,el<|List.lt_asymm F];rfl
  ·rw[el F];by_cases VZ:x.cps.toList<f.cps.toList
   ·rw[dQ VZ];rfl
   ·exact absurd (List.le_antisymm (Ha.mp VZ)<|Ha.mp F) ne
 |s+1,.tup g,.tup d,e,c=>by
  rw[eC]at e;rw[bp,bp];exact Fh e λk=>c (by rw[k])
theorem Fh:∀{s:Nat}{g d:List V},fN s g d=X->g≠d->eK g d=!(eK d g)
 |s,[],[],_,e=>absurd rfl e
 |s,[],d::C,_,_=>rfl
 |s,g::j,[],_,_=>rfl
 |s,g::j,d::C,e,c=>by
  rw[fN,cS]at e;rw[eK,eK];by_cases k:g=d
  ·subst k;rw[aK ((V.beq_iff g g).mpr rfl),aK<|(V.beq_iff g g).mpr rfl];exact Fh e.2 λD=>c (by rw[D])
  ·rw[oC k,oC<|λD=>k D.symm,aL cU,aL cU];exact pO e.1 k
end
mutual
theorem rz:∀{s:Nat}{g d o:V},eC s g d=X->eC s d o=X->bp g d=X->bp d o=X->bp g o=X
 |s,.int a,.int i,.int q,_,_,y,B=>by
  rw[bp]at y B ⊢;have:=fY y;have:=fY B;exact dQ (by omega)
 |s,.str f,.str x,.str k,_,_,y,B=>by
  rw[bp]at y B ⊢;exact dQ (List.lt_trans (fY y)<|fY B)
 |s+1,.tup g,.tup d,.tup o,b,c,y,B=>by
  rw[eC]at b c;rw[bp]at y B ⊢;exact Fb b c y B
theorem Fb:∀{s:Nat}{g d o:List V},fN s g d=X->fN s d o=X->eK g d=X->eK d o=X->eK g o=X
 |s,[],_,_::_,_,_,_,_=>rfl
 |s,[],[],[],_,_,e,_=>e
 |s,_::_,[],_,_,_,e,_=>by cases e
 |s,_,_::_,[],_,_,_,e=>by cases e
 |s,g::j,d::C,o::J,c,b,y,B=>by
  rw[fN,cS]at c b;rw[eK]at y B ⊢;by_cases f:g=d
  ·subst f;rw[aK ((V.beq_iff g g).mpr rfl)]at y;by_cases a:g=o
   ·subst a;rw[aK ((V.beq_iff g g).mpr rfl)]at B ⊢;exact Fb c.2 b.2 y B
   ·rw[oC a,aL cU]at B ⊢;exact B
  ·rw[oC f,aL cU]at y;by_cases a:d=o
   ·subst a;rw[oC f,aL cU];exact y
   ·rw[oC a,aL cU]at B;have h:=rz c.1 b.1 y B;have i:¬ g=o:=λD=>by
     subst D;have:=pO b.1 a;rw[y,B]at this;cases this
    rw[oC i,aL cU];exact h
end
def sE(O:bw)(m:ai)(x f:ab)(q:Bool):Prop:=(∀(US:bC) (D:bc) (UH:ab->ai->Prop) (A:ab->ai->Prop),A (.bool q) m->wpAny (aR US D) O (n4 .Lt x f) A UH m)
def hS(N:Bool):List (Bool×Bool)->Bool
 |[]=>N
 | (c,q)::j=>if c=X then hS N j else q
section
open PySem.SeqAt
open PySem.AutoSeq1 (wpAny_loadPart')
open PySem.MeetsSeq PySem.MeetsSeq2 PySem.MeetsSeq3
def Rp(I d:ah)(Vj b:Array ab)(s VT:Nat)(w z:Option ah)(bF A:Array (Option ab))(U1:List (Bool×Bool))(P:U1.length=min Vj.size b.size):
  Meets (br.«tuple.__lt__» ⟨[.ref I,.ref d],[]⟩)
   (λO UG m=>m.heap.get? I=Z {cls:=.type "tuple",dict:=w,data:=.seq Vj s,slots:=bF}/\m.heap.get? d=Z {cls:=.type "tuple",dict:=z,data:=.seq b VT,slots:=A}/\
    (∀i (y:i<Vj.size) (B:i<b.size) (l:i<U1.length),EqAt O.in1 m Vj[i] b[i] (U1[i]).1/\((U1[i]).1=av->sE O.in1 m Vj[i] b[i] (U1[i]).2))/\
    UG (.ok<|.ret<|.bool<|hS (decide (Vj.size<b.size)) U1) m):=
 .of_wp λUS D O UG m e=>by
  let⟨j,F,r,Vq,U5⟩:=m;let@⟨C,E,G,e⟩:=e;have Q:=Dw;have o:(Vj.toList.zip b.toList).length=min Vj.size b.size:=by simp
  wp_walk using wpAny_loadPart' C,wpAny_loadPart' E,nq _ (λcB d UI=>d.1=Y/\UI=⟨j,F,r,Vq,U5⟩/\∃a,cB=(Vj.toList.zip b.toList).drop a/\
   UG (.ok<|.ret<|.bool<|hS (decide (Vj.size<b.size))<|U1.drop a) ⟨j,F,r,Vq,U5⟩) _
  case turn=>
   rintro⟨x,f⟩ cB d UI ⟨n,rfl,a,g,h⟩;have p:a<(Vj.toList.zip b.toList).length:=by
    rcases gd a (Vj.toList.zip b.toList).length with S|S
    ·exact S
    ·rw[p1 S]at g;cases g
   have R:a<min Vj.size b.size:=o ▸ p;have y:a<Vj.size:=⋯
   have B:a<b.size:=⋯
   have l:a<U1.length:=⋯
   rw[jW p]at g;injection g with t H;have J:x=Vj[a]:=by have:=congrArg Prod.fst t;simpa using this
   have L:f=b[a]:=by have:=congrArg Prod.snd t;simpa using this
   subst J L;rw[jW l]at h;let@⟨u,v⟩:=G a y B l;generalize U1[a]=M at h u v;let⟨c,q⟩:=M;refine ao (u US D _ _ ?_);cases c with
   |true=>
    have k:UG (.ok<|.ret<|.bool<|hS (decide (Vj.size<b.size))<|U1.drop<|a+1) ⟨j,F,r,Vq,U5⟩:=h
    wp_walk
    exact⟨rfl,rfl,a+1,H,k⟩
   |false=>
    have k:UG (.ok<|.ret<|.bool q) ⟨j,F,r,Vq,U5⟩:=h;have N:=v rfl US D
    wp_walk using N
    exact⟨_,rfl,by simpa using k⟩
  case fin=>
   rintro⟨c5,dM⟩ UI ⟨n,rfl,a,g,h⟩;simp only at n;subst n;have T:min Vj.size b.size<=a:=by
    rcases gd a (Vj.toList.zip b.toList).length with S|S
    ·rw[jW S]at g;cases g
    ·exact o ▸ S
   rw[p1 ⋯]at h;have k:UG (.ok<|.ret<|.bool<|decide (Vj.size<b.size)) ⟨j,F,r,Vq,U5⟩:=h
   wp_walk
   exact⟨_,rfl,by simpa [br.Tuple.tupleCompareSizes] using k⟩
  case h=>
   exact⟨rfl,rfl,0,rfl,by simpa using e⟩
end
def kE(H T:List V):List (Bool×Bool):=((H.zip T).map λu=>(ck u.1 u.2,bp u.1 u.2))
theorem GF:∀{s:Nat}{H T:List V},fN s H T=X->hS (decide (H.length<T.length)) (kE H T)=eK H T
 |_,[],[],_=>rfl
 |s,g::j,d::C,e=>by
  rw[fN,cS]at e;show (if ck g d=X then hS (decide (j.length+1<C.length+1)) (kE j C) else bp g d)=eK (g::j) (d::C);rw[eK,(pb e.1).2.2,<-GF e.2,xC.mpr ze]
 |_,[],_::_,_=>rfl
 |_,_::_,[],_=>rfl
theorem xc{s:Nat}:∀{H T:List V}{i:Nat}{g d:V},fN s H T=X->H[i]?=Z g->T[i]?=Z d->eC s g d=X
 |[],T,i,g,d,_,e,_=>by simp at e
 |r::H,[],i,g,d,_,_,e=>by simp at e
 |r::H,c::T,0,g,d,e,y,B=>by
  rw[fN,cS]at e;cases y;cases B;exact e.1
 |r::H,c::T,i+1,g,d,e,y,B=>by
  rw[fN,cS]at e;exact xc (i:=i) e.2 ⇑y ⇑B
def OR{a i:Int}(b:de m.heap (.int a) J)(c:de m.heap (.int i) v):sE O m J v (bp (.int a)<|.int i):=by
 let⟨@C,rfl⟩:=b;let⟨@Vd,rfl⟩:=c;intro US D UH A p;rw[bp]at p;exact l2.KZ O m a C i Vd US D UH A p
def NG{f x:aC}(a:de m.heap (.str f) J)(b:de m.heap (.str x) v):sE O m J v (bp (.str f)<|.str x):=by
 let⟨C,rfl⟩:=a;let⟨Vd,rfl⟩:=b;intro US D UH A p;rw[bp]at p;exact (PySem.P.lt_str p:wpAny (aR US D) O (d1 .Lt (.str f C)<|.str x Vd) A UH m)
def xg(f x:V):Prop:=((∃a i,f=.int a/\x=.int i)\/∃g d,f=.str g/\x=.str d)
def Es{x:V}(I:xg f x)(b:de m.heap f J)(c:de m.heap x v):sE O m J v (bp f x):=by
 rcases I with ⟨a,i,rfl,rfl⟩|⟨g,d,rfl,rfl⟩
 ·exact OR b c
 ·exact NG b c
def nK:∀{s:Nat}{f x:V},eC s f x=X->xg f x\/∃t g d,s=t+1/\f=.tup g/\x=.tup d/\fN t g d=X:=by
 intro s f x e;unfold eC at e;split at e
 ·exact .inl (.inl ⟨_,_,rfl,rfl⟩)
 ·exact .inl (.inr ⟨_,_,rfl,rfl⟩)
 ·exact .inr ⟨_,_,_,rfl,rfl,rfl,e⟩
 ·cases e
def Ej(s:Nat):∀{O:bw}{f x:V}{J v:ab},eC s f x=X->O.units+s+2<bR->de m.heap f J->de m.heap x v->sE O m J v (bp f x):=by
 induction s with
 |zero=>
  intro O f x J v e N a b;rcases nK e with I|⟨t,_,_,c,_⟩
  ·exact Es I a b
  ·cases c
 |succ s Q=>
  intro O f x J v e N a b;rcases nK e with I|⟨t,H,T,c,rfl,rfl,e⟩
  ·exact Es I a b
  cases c;let⟨g,n,UW,@t,rfl,y,B,h,j⟩:=a;let⟨d,Vk,w,@R,rfl,l,o,q,r⟩:=b;let⟨cls,S,data,bF⟩:=n;let⟨a2,U,bd,al⟩:=Vk;simp only at B h o q;subst B h o q;have u:H.length=UW.size:=by rw[j.length,dk]
  have z:T.length=w.size:=by rw[r.length,dk]
  intro US D UH A p;rw[bp,<-GF e,u,z]at p;have am:(kE H T).length=min UW.size w.size:=by rw[kE,bl,DT,u,z]
  refine D7 (op:=.Lt) ⟨_,y,rfl⟩ ⟨_,l,rfl⟩ PySem.F.slot_tuple_lt PySem.F.entry_tuple_lt (PySem.F.args_tuple_lt_2 _ _) (Rp g d UW w t R S U bF al (kE H T) am)
   ⟨y,l,λi an ap as=>?_,show ab.bool (hS (decide (UW.size<w.size))<|kE H T)≠ab.notImplemented/\A (.bool<|hS (decide (UW.size<w.size))<|kE H T) m from ⟨(λf=>nomatch f),p⟩⟩ ⋯;let⟨@Vz,C,E⟩:=j.get (i:=i) (v:=UW[i]) (by rw[eA];simp[an]);let⟨@Vy,G,L⟩:=r.get (i:=i) (v:=w[i]) (by rw[eA];simp[ap]);have lk:=xc e C G;have M:=pb lk;have a1:(kE H T)[i]=(ck Vz Vy,bp Vz Vy):=by
   have:(kE H T)[i]?=Z (ck Vz Vy,bp Vz Vy):=by
    rw[kE,dU,(tl (z:=(Vz,Vy))).mpr ⟨C,G⟩];rfl
   rw[dy as]at this;exact Option.some.inj this
  rw[a1];exact⟨iN s M.1 M.2.1 (by show O.units+1+s+1<bR;lia) E L,λ_=>Q lk (by show O.units+1+s+2<bR;lia) E L⟩
end L2
namespace L2
open Spec PyProof.Rows PySem.W
variable{r:V}{UW:List ab}{I H:List V}
theorem Hr{U_:Type}{u p:U_->Bool}:∀{I:List U_},(∀f∈I,u f=X->p f=X)->(∃f∈I,p f=X/\u f=av)->I.countP u<I.countP p
 |[],_,e=>by let⟨@f,a,W⟩:=e;cases a
 |g::I,e,⟨f,a,y,B⟩=>by
  rw[DM,DM];have le:I.countP u<=I.countP p:=List.countP_mono_left λx b=>e x (.tail _ b);rcases b9.mp a with rfl|a
  ·rw[y,B];simp;omega
  ·have:=Hr (λx b=>e x<|.tail _ b) ⟨f,a,y,B⟩;have c:=e g (.head _);cases d:u g<;>cases h:p g<;>rw[d,h]at c<;>simp at c ⊢<;>omega
structure nB(H:List V):Prop where
 dI:H.length<=1000
 hL:∀g∈H,∀d∈H,eC 6 g d=X
structure tr(H:List V):Prop where
 dI:H.length<=1000
 hL:∀g∈H,∀d∈H,eC 6 g d=X
 aj:H.Nodup
def tr.w{H:List V}(n:tr H):nB H:=⟨n.dI,n.hL⟩
def pf(H:List V)(f:V):Nat:=(H.countP λr=>bp r f)
def BG(n:nB H){f x:V}(a:f∈H)(b:x∈H)(e:bp f x=X):pf H f<pf H x:=
 Hr (λk d c=>rz (n.hL k d f a) (n.hL f a x b) c e) ⟨f,a,e,qi f⟩
def EP(n:nB H){f x:V}(a:f∈H)(b:x∈H):decide ((pf H f:Int)<(pf H x:Int))=bp f x:=by
 cases c:bp f x with
 |true=>exact dQ (by have:=BG n a b c;lia)
 |false=>
  refine el λk=>?_;by_cases e:f=x
  ·subst e;lia
  ·have C:=pO (n.hL f a x b) e;rw[c]at C;have Vd:bp x f=X:=by cases p:bp x f<;>rw[p]at C<;>simp at C ⊢
   have:=BG n b a Vd;lia
def kW(H:List V)(a:Nat):Int:=(pf H (H.getD a .aS))
def u_{a:Nat}(e:a<H.length):H.getD a .aS∈H:=by
 rw[cA,dy e];exact vl e
def uS(n:nB H){u:Array Nat}(b:cW H.length u)(j:i8 (kW H) u H.length):(u.toList.map λa=>H.getD a .aS).Pairwise (λg d=>bp d g=av):=by
 rw[oc];intro a i UN e m;have ar:=b.size;have k:a<H.length:=by simpa [ar] using UN
 have f:i<H.length:=by simpa [ar] using e
 have le:=j a i ⋯ f;have F:∀q (h:q<(u.toList.map λa=>H.getD a .aS).length),(u.toList.map λa=>H.getD a .aS)[q]=H.getD (u.getD q 0) .aS:=λq h=>by
  have l:q<u.size:=by simpa using h
  rw[B7,Ic];simp[Array.getD,l]
 rw[F a UN,F i e];rw[<-EP n (u_<|b.lt f) (u_<|b.lt k)];refine el ?_;have c:∀q,(pf H (H.getD (u.getD q 0) .aS):Int)=bf (kW H) u q:=λ_=>rfl;rw[c a,c i];lia
theorem Fq:∀{I t:List V},I.Perm t->I.Pairwise (λg d=>bp g d=X)->t.Pairwise (λg d=>bp g d=X)->(∀g∈I,∀d∈I,bp g d=X->bp d g=av)->I=t
 |[],t,u,_,_,_=>(List.nil_perm.mp u).symm
 |g::I,t,u,y,B,a=>by
  cases t with
  |nil=>exact absurd u.length_eq ↥0
  |cons d t=>
   have c:g=d:=by
    by_cases c:g=d
    ·exact c
    ·have h:g∈t:=by
      rcases b9.mp (u.mem_iff.mp<|.head _) with k|k
      ·exact absurd k c
      ·exact k
     have b:d∈I:=by
      rcases b9.mp (u.mem_iff.mpr<|.head _) with k|k
      ·exact absurd k.symm c
      ·exact k
     have i:=(gj.mp y).1 d b;have e:=(gj.mp B).1 g h;rw[a g (.head _) d (.tail _ b) i]at e;cases e
   subst c;rw[Fq (SU u) (gj.mp y).2 (gj.mp B).2 λf j x l=>a f (.tail _ j) x<|.tail _ l]
theorem tG(f:V):∀I:List V,(kp bp f I).Perm (f::I)
 |[]=>List.Perm.refl _
 |x::j=>by
  rw[kp];split
  ·exact List.Perm.refl _
  ·exact (List.Perm.cons x<|tG f j).trans (List.Perm.swap f x j)
theorem jy:∀I:List V,(fy bp I).Perm I
 |[]=>List.Perm.refl _
 |f::j=>(tG f _).trans (List.Perm.cons f<|jy j)
theorem DO{f:V}:∀{I:List V},I.Pairwise (λg d=>bp g d=X)->(∀x∈I,f≠x)->(∀g∈f::I,∀d∈f::I,eC 6 g d=X)->(kp bp f I).Pairwise (λg d=>bp g d=X)
 |[],_,_,_=>gh _ _
 |x::j,e,s,lk=>by
  have S:=gj.mp e;rw[kp];split
  ·rename_i c;refine gj.mpr ⟨λk a=>?_,e⟩;rcases b9.mp a with rfl|a
   ·exact c
   ·exact rz (lk f (.head _) x<|.tail _<|.head _) (lk x (.tail _<|.head _) k<|.tail _<|.tail _ a) c (S.1 k a)
  ·rename_i c;refine gj.mpr ⟨λk a=>?_,DO S.2 (λk a=>s k<|.tail _ a) λg b d h=>lk g ?_ d ?_⟩
   ·rcases b9.mp ((tG f j).mem_iff.mp a) with rfl|a
    ·have C:=pO (lk k (.head _) x<|.tail _<|.head _) (s x<|.head _);cases p:bp x k with
     |true=>rfl
     |false=>rw[p]at C;exact absurd C c
    ·exact S.1 k a
   ·rcases b9.mp b with rfl|b
    ·exact .head _
    ·exact .tail _ (.tail _ b)
   ·rcases b9.mp h with rfl|h
    ·exact .head _
    ·exact .tail _ (.tail _ h)
theorem q5:∀{I:List V},I.Nodup->(∀g∈I,∀d∈I,eC 6 g d=X)->(fy bp I).Pairwise (λg d=>bp g d=X)
 |[],_,_=>.nil
 |f::j,aj,lk=>by
  have e:=gC.mp aj;refine DO (q5 e.2 λg a d b=>lk g (.tail _ a) d<|.tail _ b) (λx h c=>e.1 (by rw[c];exact (jy j).mem_iff.mp h)) λg a d b=>lk g ?_ d ?_
  ·rcases b9.mp a with rfl|a
   ·exact .head _
   ·exact .tail _ ((jy j).mem_iff.mp a)
  ·rcases b9.mp b with rfl|b
   ·exact .head _
   ·exact .tail _ ((jy j).mem_iff.mp b)
def Rk(n:tr H)(u:I.Perm H)(e:I.Pairwise (λg d=>bp g d=X)):I=fy bp H:=by
 refine Fq (u.trans (jy H).symm) e (q5 n.aj n.hL) λg a d b c=>?_;have C:=pO (n.hL g (u.mem_iff.mp a) d<|u.mem_iff.mp b) (λk=>by subst k;rw[qi]at c;cases c);rw[c]at C;cases p:bp d g with
 |false=>rfl
 |true=>rw[p]at C;cases C
theorem BE{f:V}:∀{I:List V},I.Pairwise (λg d=>bp d g=av)->(∀g∈f::I,∀d∈f::I,eC 6 g d=X)->(kp bp f I).Pairwise (λg d=>bp d g=av)
 |[],_,_=>gh _ _
 |x::j,e,lk=>by
  have S:=gj.mp e;unfold kp;split
  ·rename_i c;refine gj.mpr ⟨λk a=>?_,e⟩;cases p:bp k f with
   |false=>rfl
   |true=>
    have C:=rz (lk k (.tail _ a) f<|.head _) (lk f (.head _) x<|.tail _<|.head _) p c;rcases b9.mp a with rfl|a
    ·rw[qi]at C;cases C
    ·rw[S.1 k a]at C;cases C
  ·rename_i c;refine gj.mpr ⟨λk a=>?_,BE S.2 λg b d h=>lk g ?_ d ?_⟩
   ·rcases b9.mp ((tG f j).mem_iff.mp a) with rfl|a
    ·cases p:bp k x with
     |false=>rfl
     |true=>exact absurd p c
    ·exact S.1 k a
   ·rcases b9.mp b with rfl|b
    ·exact .head _
    ·exact .tail _ (.tail _ b)
   ·rcases b9.mp h with rfl|h
    ·exact .head _
    ·exact .tail _ (.tail _ h)
theorem Gj:∀{I:List V},(∀g∈I,∀d∈I,eC 6 g d=X)->(fy bp I).Pairwise (λg d=>bp d g=av)
 |[],_=>.nil
 |f::j,lk=>by
  refine BE (Gj λg a d b=>lk g (.tail _ a) d<|.tail _ b) λg a d b=>lk g ?_ d ?_
  ·rcases b9.mp a with rfl|a
   ·exact .head _
   ·exact .tail _ ((jy j).mem_iff.mp a)
  ·rcases b9.mp b with rfl|b
   ·exact .head _
   ·exact .tail _ ((jy j).mem_iff.mp b)
def uV(n:nB H)(u:I.Perm H)(e:I.Pairwise (λg d=>bp d g=av)):I=fy bp H:=by
 refine IH (λg d a b f x=>?_) e (Gj n.hL) (u.trans (jy H).symm);by_cases c:g=d
 ·exact c
 ·have C:=pO (n.hL g (u.mem_iff.mp a) d<|(jy H).mem_iff.mp b) c;rw[f,x]at C;cases C
def hO:V->Bool
 |.tup (.int _::_)=>X
 |.tup (.str _::_)=>X
 |_=>av
def qN:V->Bool
 |.tup (.int _::_)=>X
 |_=>av
def sz:V->Bool
 |.tup (.str _::_)=>X
 |_=>av
def nR:V->Bool
 |.tup (.tup _::_)=>X
 |_=>av
section
variable{US:bC}{D:bc}{O:bw}{UH:ab->ai->Prop}{m:ai}
theorem C6{d N:Bool}(s:Nat)(t:O.units+s+2<bR){A:Bool->ai->Prop}:∀{H T:List V}{U h:List ab}{a:Nat},fN s H T=X->N=decide (H.length<T.length)->dG m.heap H U->dG m.heap T h->(d=X->a=0->∃q j,H=q::j/\∀g,q≠.tup g)->A (eK H T) m->KatLex US D O d N A (U.zip h) a m
 |[],T,U,h,a,_,b,y,B,_,p=>by
  rw[show U=[] from y,b];exact kat_nil (by cases T<;>exact p)
 |r::H,[],U,h,a,_,b,y,B,_,p=>by
  rw[show h=[] from B,b,Gv];exact kat_nil p
 |r::H,c::T,U,h,a,e,w,y,B,z,p=>by
  rw[fN,cS]at e;let⟨v,@U,rfl,n,VL⟩:=y;let⟨J,@h,rfl,c5,dM⟩:=B;rw[Aw];let@⟨E,VI,F⟩:=pb e.1;refine kat_cons (iN s E VI ⋯ n c5 US D _ _ ?_);rw[F];rw[eK]at p;cases u:V.beq r c with
  |true=>
   rw[u,aK rfl]at p;exact kat_yes (C6 s t e.2 (w.trans<|xC.mpr ze) VL dM (λ_ k=>⋯) p)
  |false=>
   rw[u,aL cU]at p;refine kat_no ?_;by_cases b:(d&&a==0)=X
   ·rw[b];rw[cS]at b;let⟨q,@j,k,G⟩:=z b.1 ⇑(b.2);cases k;rcases nK e.1 with I|⟨_,_,_,_,l,_⟩
    ·rcases I with ⟨L,i,l,o⟩|⟨f,x,l,o⟩
     ·cases l;cases o;let⟨@C,rfl⟩:=n;let⟨@Vd,rfl⟩:=c5;rw[bp]at p;exact oneLt_int p
     ·cases l;cases o;let⟨@C,rfl⟩:=n;let⟨@Vd,rfl⟩:=c5;rw[bp]at p;exact oneLt_str p
    ·exact absurd l (G _)
   ·rw[show (d&&a==0)=av by simpa using b];exact kat_one _ _ (Ej s e.1 t n c5 US D _ _ p)
def v7{d:Bool}(n:nB H)(h:dG m.heap H UW)(bP:∀r∈H,∃j,r=.tup j)(w:d=X->∀r∈H,hO r=X)(Q:O.units+9<bR):
  fC UW.length (kW H) (eU US D O (ou d)<|UW.toArray.zip UW.toArray) m:=by
 intro a i aN UN y p;have R:=h.length;have b:=u_ (H:=H) (a:=a) ⋯;have c:=u_ (H:=H) (a:=i) ⋯;unfold kW at p;rw[EP n b c]at p;let⟨@Vz,o,z⟩:=h.get (i:=a) (v:=UW[a]) ↥0;let⟨@Vy,q,A⟩:=h.get (i:=i) (v:=UW[i]) ↥0;rw[cA,o,cA,q]at p;rw[cA,o]at b;rw[cA,q]at c;let⟨@g,B⟩:=bP Vz b;let⟨@l,C⟩:=bP Vy c;subst B C;have lk:fN 5 g l=X:=n.hL _ b _ c;unfold eU;rw[u4 rfl,u4 rfl,cA,cA,dy UN,dy y];show wpAny _ _ (keyLt' (ou d) UW[a] UW[i]) _ _ _;let⟨f,S,E,@T,F,G,U,I,s⟩:=z;let⟨x,al,U0,@VT,J,Vf,Vt,L,t⟩:=A;rw[F,J];refine kat_lt (b:=d) G I Vf L ?_;have M:g.length=E.size:=by rw[s.length,dk]
 have N:l.length=U0.size:=by rw[t.length,dk]
 refine C6 5 ⋯ lk (by rw[M,N]) s t (λP W=>?_) (by have u:aN (bp (.tup g)<|.tup l) m:=p;rw[bp]at u;exact u);have:=w P _ b;unfold hO at this;split at this
 ·rename_i e;cases e;exact⟨_,_,rfl,λg k=>nomatch k⟩
 ·rename_i e;cases e;exact⟨_,_,rfl,λg k=>nomatch k⟩
 ·cases this
theorem Ec:∀{H:List V}{UW:List ab},dG m.heap H UW->(∀r∈H,∃N j,r=.tup (N::j))->∃aa,KatTups m.heap UW aa/\aa.length=UW.length/\
  ((∀r∈H,qN r=X)->∀v∈aa,∃a C,v=ab.int a C)/\((∀r∈H,sz r=X)->∀v∈aa,∃a C,v=ab.str a C)/\((∀r∈H,nR r=X)->∀v∈aa,∃g Vl,v=ab.ref g/\m.heap.get? g=Z Vl/\Vl.cls=.type "tuple")
 |[],UW,e,_=>by
  rw[show UW=[] from e];exact⟨[],trivial,rfl,(λ_ W e=>nomatch e),(λ_ W e=>nomatch e),(λ_ W e=>nomatch e)⟩
 |r::H,UW,e,i=>by
  let⟨v,@j,rfl,y,B⟩:=e;let⟨@aa,o,q,t,u,w⟩:=Ec B λf d=>i f (.tail _ d);let⟨N,@VA,rfl⟩:=i r (.head _);let⟨g,n,Vj,@s,rfl,x,z,A,D⟩:=y;let⟨l,@I,c,h,L⟩:=D;have E:Vj[0]?=Z l:=by
   rw[<-eA,c];rfl
  refine⟨l::aa,KatTups.cons x z A E o,by simp[q],λk J b=>?_,λk J b=>?_,λk J b=>?_⟩
  ·rcases b9.mp b with rfl|b
   ·have:=k _ (.head _);unfold qN at this;split at this
    ·rename_i p;cases p;exact⟨_,h⟩
    ·cases this
   ·exact t (λf d=>k f<|.tail _ d) J b
  ·rcases b9.mp b with rfl|b
   ·have:=k _ (.head _);unfold sz at this;split at this
    ·rename_i p;cases p;exact⟨_,h⟩
    ·cases this
   ·exact u (λf d=>k f<|.tail _ d) J b
  ·rcases b9.mp b with rfl|b
   ·have:=k _ (.head _);unfold nR at this;split at this
    ·rename_i p;cases p;let⟨F,Vk,W,@W,G,Vf,Vt,W⟩:=h;exact⟨F,Vk,G,Vf,Vt⟩
    ·cases this
   ·exact w (λf d=>k f<|.tail _ d) J b
def qA(e:hO r=X):(qN r=X\/sz r=X)/\∃N j,r=.tup (N::j):=by
 unfold hO at e;split at e
 ·exact⟨.inl rfl,_,_,rfl⟩
 ·exact⟨.inr rfl,_,_,rfl⟩
 ·cases e
def DB(e:nR r=X):∃N j,r=.tup (N::j):=by
 unfold nR at e;split at e
 ·exact⟨_,_,rfl⟩
 ·cases e
def RG{s:Nat}(h:∀f∈H,∀x∈H,eC s f x=X)(e:∀r∈H,hO r=X):(∀r∈H,qN r=X)\/∀r∈H,sz r=X:=by
 cases H with
 |nil=>exact .inl λr hd=>nomatch hd
 |cons f H=>
  have G:∀x∈f::H,∀{p:V->Bool},(p=qN\/p=sz)->p f=X->p x=X:=λx c {p} i a=>by
   have I:=h f (.head _) x c;have l:=(qA<|e x c).1;have g:=qA (e f<|.head _);let⟨N,j,rfl⟩:=g.2;let⟨F,C,rfl⟩:=(qA<|e x c).2;cases s with
   |zero=>cases I
   |succ s=>
    rw[eC,fN,cS]at I;rcases i with rfl|rfl
    ·rcases nK I.1 with I|⟨_,_,_,_,b,_⟩
     ·rcases I with ⟨_,_,_,d⟩|⟨_,_,b,_⟩
      ·rw[d];rfl
      ·rw[b]at a;cases a
     ·rw[b]at a;cases a
    ·rcases nK I.1 with I|⟨_,_,_,_,b,_⟩
     ·rcases I with ⟨_,_,b,_⟩|⟨_,_,_,d⟩
      ·rw[b]at a;cases a
      ·rw[d];rfl
     ·rw[b]at a;cases a
  rcases (qA<|e f<|.head _).1 with k|k
  ·exact .inl λr hd=>G r hd (.inl rfl) k
  ·exact .inr λr hd=>G r hd (.inr rfl) k
end
section
variable{b:aO}
theorem bI.pick{h:ax}{U0:List ak}(e:bI h H U0):∀{u:List Nat},(∀q∈u,q<H.length)->bI h (u.map λa=>H.getD a .aS) (u.map λa=>U0.getD a .aS)
 |[],_=>rfl
 |q::u,b=>by
  let⟨@v,c,d⟩:=e.get (a:=q) (r:=H.getD q .aS) (by
   have:=b q (.head _);rw[cA,dy this];rfl)
  refine⟨v,_,?_,d,e.pick λi f=>b i<|.tail _ f⟩;rw[cw,cA,c];rfl
structure ie(H:List V):Prop where
 ord:tr H
 fst:(∀r∈H,hO r=X)\/(∀r∈H,nR r=X)
structure pz(H:List V):Prop where
 ord:nB H
 fst:(∀r∈H,hO r=X)\/(∀r∈H,nR r=X)
def ie.w{H:List V}(n:ie H):pz H:=⟨n.ord.w,n.fst⟩
def pz.tup(n:pz H):∀r∈H,∃j,r=.tup j:=λr hd=>by
 rcases n.fst with k|k
 ·let⟨N,j,c⟩:=(qA<|k r hd).2;exact⟨_,c⟩
 ·let⟨N,j,c⟩:=DB (k r hd);exact⟨_,c⟩
def dG.pZ{e S:aZ}(q:∀d n,e.get? d=Z n->S.get? d=Z n){H:List V}{U:List ab}(f:dG e H U):dG S H U:=f.keep λg n W W c W W=>q g n c
def tE{e:aZ}{m:ai}(n:pz H)(B:2<=UW.length)(h:dG m.heap H UW)(O:bw)(UH:ab->ai->Prop)(A:gR->ai->Prop)(c:A (ou<|decide (∀r∈H,hO r=X)) m):
  wpAny (aR b.prog b.w) O (xK UW.toArray) A UH m:=by
 let⟨@aa,f,s,i,j,l⟩:=Ec h (n.fst.elim (λk r hd=>(qA<|k r hd).2) λk r hd=>DB<|k r hd);have t:=h.length;by_cases hf:∀r∈H,hO r=X
 ·rw[dQ hf]at c;rcases RG n.ord.hL hf with hf|hf
  ·refine zV (T:=ab.type "int") f ⋯ (λv d=>?_) rfl ?_
   ·let⟨a,@C,rfl⟩:=i hf v d;exact AV rfl
   ·rw[show (ab.type "int" != ab.type "tuple")=X by decide];exact c
  ·refine zV (T:=ab.type "str") f ⋯ (λv d=>?_) rfl ?_
   ·let⟨a,@C,rfl⟩:=j hf v d;exact AV rfl
   ·rw[show (ab.type "str" != ab.type "tuple")=X by decide];exact c
 ·rw[el hf]at c;have o:=n.fst.resolve_left hf;refine zV (T:=ab.type "tuple") f ⋯ (λv d=>?_) rfl ?_
  ·let⟨g,@Vl,rfl,p,q⟩:=l o v d;have:Looks (aR b.prog b.w) m.heap (pC<|.ref g) Vl.cls:=(Looks.ld p).andThen .now;rw[q]at this;exact this
  ·rw[show (ab.type "tuple" != ab.type "tuple")=av by decide];exact c
def E0(v:b.calm=X)(P:b.A.units+20<bR):eR b (.builtin "sorted") (λE h A=>∃(g:ah) (H:List V) (U0:List ak),E=[.ref g]/\(c9 b.K h g U0\/cC b.K h g U0)/\bI h H U0/\pz H/\
  ∀I VG,h I=Y->bI h (fy bp H) VG->A (.ref I) (upd h I<|.lst VG)):=by
 intro R m z h E Va A l j e;let⟨g,H,@U0,rfl,ar,UN,n,p⟩:=e;let⟨@J,rfl,x⟩:=iM j;cases x;have y:U0.length<=1000:=by rw[<-UN.length];exact n.ord.dI
 have go:∀{UO:String}{UW:List ab}{s:Nat}{Vl:aX},(UO = "list" \/ UO = "tuple")->cp U0 UW->m.heap.get? g=Z Vl->Vl.cls=.type UO->Vl.data=.seq UW.toArray s->wpAny (aR b.prog b.w) b.A (call (.builtin "sorted") [.ref g]) (ec b R z A) b.cF m:=by
  intro UO UW s Vl C d c az f;have k:=UN.e8 l.aY d;have F:UW.length=H.length:=k.length.symm;refine DY v (kW H) (ou<|decide (∀r∈H,hO r=X)) l d C c az f y (λB o Vq q O UH A G=>tE (e:=o) n B (k.pZ q) O UH A G) (λo Vq q=>?_) (.inl (by have:=n.ord.dI;lia)) λu I i t aT=>?_
  ·refine v7 (m:={m with heap:=o,toks:=Vq}) n.ord (k.pZ q) n.tup (λL=>?_) (by show b.A.units+1+1+9<bR;lia);exact fY L
  ·rw[F]at i t;have M:(u.toList.map λa=>H.getD a .aS)=fy bp H:=uV n.ord (sj i) (uS n.ord i t);refine p I _ aT ?_;rw[<-M];exact UN.pick λq N=>eT.mp (i.mem_iff.mp N)
 rcases ar with ar|ar
 ·let⟨@UW,d,u,W⟩:=l.list ar;let⟨@Vl,c,az,⟨@s,f⟩⟩:=u.isList;exact go (.inl rfl) d c az f
 ·let⟨@UW,d,u,W⟩:=l.tuple ar;let⟨@Vl,c,az,⟨@s,f⟩⟩:=u;exact go (.inr rfl) d c az f
theorem F3{h:ax}:∀{UX:List (List V×ak)}{T:List (List V×ah×ab)},eg (λ(u:List V×ak) (p:List V×ah×ab)=>u.1=p.1/\iE h u.1 p.2.1/\bY u.2 p.2.2) UX T->
  bI h (UX.map λu=>.tup u.1) (T.map λf=>ak.ref f.2.1)/\cp (T.map λf=>ak.ref f.2.1) (T.map λf=>ab.ref f.2.1)
 |_,_,.nil=>⟨rfl,.nil⟩
 |_,_,.cons j C=>by
  let@⟨y,B⟩:=F3 C;exact⟨⟨_,_,rfl,j.2.1.2,y⟩,.cons rfl B⟩
def O1(a2:b.calm=X)(cr:b.A.units+20<bR):eR b (.builtin "sorted") (λE h A=>∃(r:ah) (UX:List (List V×ak)),E=[.ref r]/\h r=Z (.aJ UX)/\ie (UX.map λu=>.tup u.1)/\
  ∀I VG,h I=Y->bI h (fy bp<|UX.map λu=>.tup u.1) VG->A (.ref I) (upd h I<|.lst VG)):=by
 intro R m z h E Va A l j e;let⟨r,@UX,rfl,hd,g,p⟩:=e;let⟨@J,rfl,bd⟩:=iM j;cases bd;let@⟨k,UJ,⟨@T,rel,⟨n,be,@U9,bi,bm,bn,bs,aj⟩⟩⟩:=l.aY r _ hd;let@⟨UN,o⟩:=F3 rel;have Q:hy m.heap r (T.map λf=>ab.ref f.2.1) U9:=⟨n,be,bi,bm,bn,by rw[bs,e7];rfl⟩;generalize (T.map λf=>ab.ref f.2.1)=UW at o Q;generalize (T.map λf=>ak.ref f.2.1)=U0 at UN o;generalize cs:(UX.map λu=>V.tup u.1)=H at UN g p;have G:=UN.e8 l.aY o;have U:UW.length=H.length:=G.length.symm;have dI:=g.ord.dI;have db:U0.length=UW.length:=o.length;have al:UW.length<=sizeLine:=df ⋯ (show 1000<=sizeLine by decide);refine yd we vF uO (A3 _) ?k
 case k=>
  unfold br.«sorted»;refine ao (m:=t_ "sorted" 1 1 _) (aQ<|ao<|kdu_collect (A:=b.A.in1) (Sl UJ) (l.ok.hd a2) Q al λS Vq Vv L am=>?_);have bv:Vv.toList=UW:=by
   apply z2
   ·rw[dk];exact am.1
   ·intro a y B;have:=am.2 a Vv.toList[a] (by rw[<-eA];exact dy y);have this:UW[a]?=Z Vv.toList[a]:=this;rw[dy B]at this;exact (Option.some.inj this).symm
  rw[bv];refine ao (o4 ?_ al);have an:(S.push<|dg "list" UW.toArray 0).get? S.objs.size=Z (dg "list" UW.toArray 0):=cR _ rfl;have b1:∀d n,m.heap.get? d=Z n->(S.push<|dg "list" UW.toArray 0).get? d=Z n:=λd n c=>bT _ (L d n c);have ap:aF b R z h {m with heap:=S,toks:=Vq}:=l.kept L;have as:∀d n,m.heap.get? d=Z n->d≠S.objs.size:=λd n c=>cT (bW<|L d n c);refine ao (gP<|g7 tJ ⟨_,an,rfl⟩ wJ ?x<|Ac _)
  case x=>
   refine xr (m:={m with heap:=S.push (dg "list" UW.toArray 0),toks:=Vq}) (kW H) (ou<|decide (∀r∈H,hO r=X)) an
    (λB M N A ca=>tE (b:=b) (e:=M) g.w B (G.pZ λd n s=>N d n (as d n s)<|b1 d n s) _ _ A ca)
    (λM N=>v7 (m:={m with heap:=M,toks:=Vq}) g.w.ord (G.pZ λd n s=>N d n (as d n s)<|b1 d n s) g.w.tup (λcd=>fY cd) (by show b.A.units+1+1+9<bR;lia))
    (.inl ⋯) ⋯ λu B i a1 Vt ⟨ce,ch⟩=>⟨_,rfl,aQ ⟨_,rfl,?_⟩⟩;have ci:h S.objs.size=Y:=ap.aY.fresh (bb _);have cl:∀d n,S.get? d=Z n->d≠S.objs.size:=λd n c=>cT (bW c);rw[U]at i a1;refine⟨.ref S.objs.size,upd h S.objs.size<|.lst<|u.toList.map λa=>U0.getD a .aS,?_,rfl,p _ _ ci ?_⟩
   ·refine ap.laid (Vd:=Vq) (λd J c=>Vt d J (cl d J c)<|bT _ c) (bb _) ⟨?_,_,ce,?_,ch⟩
    ·rw[bl,dk,i.size];lia
    ·refine tb ↥0 λa v J y B=>?_;rw[dU]at y B;cases P:u.toList[a]? with
     |none=>rw[P]at y;cases y
     |some q=>
      rw[P]at y B;cases y;cases B;have C:q<UW.length:=by rw[U];exact eT.mp (i.mem_iff.mp<|gF P)
      let⟨@J,F,co⟩:=o.get (a:=q) (f:=U0[q]'⋯) (by simp[show q<U0.length by lia]);rw[dy C]at F;have F:=Option.some.inj F;simp only[List.getD,dy C,dy (show q<U0.length by lia),uL];rw[F];exact co
   ·rw[<-uV g.w.ord (sj i) (uS g.w.ord i a1)];exact UN.pick λq C=>eT.mp (i.mem_iff.mp C)
def pg(H:List V):Bool:=(decide (H.length<=1000)&&H.all (λg=>H.all λd=>eC 6 g d)&&decide H.Nodup&&(H.all hO || H.all nR))
def n3:pg H=X↔ie H:=by
 unfold pg;rw[cS,cS,cS,ui,je,je,kg,kg,kg];constructor
 ·rintro⟨⟨⟨y,B⟩,a⟩,b⟩;exact⟨⟨y,λg c d e=>kg.mp (B g c) d e,a⟩,b⟩
 ·rintro⟨⟨y,B,a⟩,b⟩;exact⟨⟨⟨y,λg c=>kg.mpr λd e=>B g c d e⟩,a⟩,b⟩
def km(H:List V):Option ag:=(if pg H=X then Z (.lst<|fy bp H) else Y)
def iK:i5:=(λH=>match H with
 |[.lst f]=>match qX f with
  |some U8=>x2 [.lst f]
  |none=>km f
 |[.im (.tup f)]=>km f
 |[.aJ UX]=>km (UX.map λu=>.tup u.1)
 |_=>Y)
def xU{r:ag}(e:km H=Z r):ie H/\r=.lst (fy bp H):=by
 unfold km at e;split at e
 ·rename_i c;cases e;exact⟨n3.mp c,rfl⟩
 ·cases e
theorem H5{h:ax}:∀{UX:List (List V×V)}{i:List (List V×ak)},eL h UX i->(UX.map λu=>V.tup u.1)=i.map λu=>V.tup u.1
 |_,_,.nil=>rfl
 |_,_,.cons j C=>by rw[cw,cw,H5 C,j.1]
def tW(g:b.calm=X)(k:b.A.units+20<bR):hI b (.builtin "sorted") iK:=by
 intro R m z h E Va A l j o;let⟨H,@r,n,c,p⟩:=o;unfold iK at c;split at c
 ·rename_i f;split at c
  ·exact N8 g k R m z h E Va A l j ⟨_,r,n,c,p⟩
  ·let@⟨d,rfl⟩:=xU c;let⟨@v,rfl,⟨W,u,@U0,rfl,y,B,W⟩⟩:=gM n;exact E0 g k R m z h _ Va A l j ⟨u,f,U0,rfl,.inl<|c9.of y,B,d.w,λI VG aT e=>cu.l p aT e⟩
 ·rename_i f;let@⟨d,rfl⟩:=xU c;let⟨@v,rfl,q⟩:=gM n;let⟨u,@U0,rfl,y,B⟩:=q.i;exact E0 g k R m z h _ Va A l j ⟨u,f,U0,rfl,.inr<|cC.of y,B,d.w,λI VG aT e=>cu.l p aT e⟩
 ·rename_i UX;let@⟨d,rfl⟩:=xU c;let⟨@v,rfl,⟨W,u,@i,rfl,y,B,W⟩⟩:=gM n;rw[H5 B]at d p;exact O1 g k R m z h _ Va A l j ⟨u,i,rfl,y,d,λI VG aT e=>cu.l p aT e⟩
 ·cases c
end
end L2
namespace PySem
open PySem.Sem (wp)
end PySem
namespace PySem
namespace F
end F
end PySem
namespace L2
open Spec PyProof.Rows PySem.W
variable{A:Option ab->ai->Prop}{V2:aX}{T:Array tY}{U9 a:Nat}{v J:ab}{O:bw}{m:ai}
def Ma:String->br:=((⟨_,rfl⟩:{N:String->br // N "max" = br.«max» }).1)
def Lu:String->kF->br:=((⟨_,rfl⟩:{N:String->kF->br // N "max" .Gt=br.«max.loop» }).1)
section
variable{US:bC}{D:bc}{O:bw}{UH:ab->ai->Prop}{m:ai}
def Du{l i:String}{Vw:kF}(j:(toString l++toString ".loop" : String)=i)(U:builtinKind l=Y)(al:plainId l=X)(am:r_ rv l=Z (Ma l))(an:∀g d:ab,rO l ⟨[g,d],[]⟩)(a:plainId i=X)(r:r_ rv i=Z (Lu l Vw)){g d:ab}{q:Bool}{A:ab->ai->Prop}(ap:O.handled=Y)(as:∀UI:ai,(∀o n,m.heap.get? o=Z n->UI.heap.get? o=Z n)->∀(A:ab->ai->Prop) (UH:ab->ai->Prop),A (.bool q) UI->wpAny (aR US D) O.in1 (n4 Vw d g) A UH UI)(e:∀S Vq,(∀o n,m.heap.get? o=Z n->S.get? o=Z n)->A (if q=X then d else g) {m with heap:=S,toks:=Vq}):wpAny (aR US D) O (call (.builtin l) [g,d]) A UH m:=by
 refine call_function_tree U al am (an _ _) ?_;show wpAny _ O.in1 (br.Builtins.bindParams l ["key","default"] 0 ⟨[],[]⟩ >>= _) _ _ m;refine ao (p9 (show br.Builtins.bindParams l ["key","default"] 0 ⟨[],[]⟩=pure [Y,Y] from rfl) ?_);show wpAny _ O.in1 (r0 [g,d] >>= _) _ _ m;refine ao (gu ?_);have z:(m.heap.push {cls:=.type "tuple",data:=.seq #[g,d]}).IsTuple m.heap.objs.size #[g,d]:=⟨_,cR _ rfl,rfl,0,rfl⟩;refine ao (wpAny_pyIter_tuple z<|ao<|gu ?_);have p:(m.heap.push {cls:=.type "tuple",data:=.seq #[g,d]}).objs.size=m.heap.objs.size+1:=hD ..;have W:=kU.tuple (prog:=US) (w:=D) (A:=O.in1) ap (m.heap.push {cls:=.type "tuple",data:=.seq #[g,d]}).objs.size m.heap.objs.size (by rw[p];exact cT (oL _)) #[g,d];rw[j];refine aQ ⟨ma a _,?_⟩;have ef:((m.heap.push {cls:=.type "tuple",data:=.seq #[g,d]}).push {cls:=.type "tuple_iterator",data:=.fields #[.ref m.heap.objs.size,.int 0 0]}).IsTupleIter (m.heap.push {cls:=.type "tuple",data:=.seq #[g,d]}).objs.size m.heap.objs.size 0:=⟨_,cR _ rfl,rfl,rfl⟩;have C:=z.push {cls:=.type "tuple_iterator",data:=.fields #[.ref m.heap.objs.size,.int 0 0]};have s:((m.heap.push {cls:=.type "tuple",data:=.seq #[g,d]}).push {cls:=.type "tuple_iterator",data:=.fields #[.ref m.heap.objs.size,.int 0 0]}).objs.size=m.heap.objs.size+2:=by rw[hD,p]
 have dE:∀o n,m.heap.get? o=Z n->((m.heap.push {cls:=.type "tuple",data:=.seq #[g,d]}).push {cls:=.type "tuple_iterator",data:=.fields #[.ref m.heap.objs.size,.int 0 0]}).get? o=Z n:=λo n c=>bT _ (bT _ c);rw[p]at W ef;rw[p,s];generalize ca:((m.heap.push {cls:=.type "tuple",data:=.seq #[g,d]}).push {cls:=.type "tuple_iterator",data:=.fields #[.ref m.heap.objs.size,.int 0 0]})=g2 at ef C s dE ⊢;have E:(g2.push {cls:=.type "list",data:=.seq ([]:List ab).toArray}).get? (m.heap.objs.size+2)=Z {cls:=.type "list",data:=.seq ([]:List ab).toArray}:=by rw[<-s];exact cR _ rfl
 have t:m.heap.objs.size+2∉[m.heap.objs.size+1]:=by simp
 have F:∀o∈[m.heap.objs.size+1,m.heap.objs.size],m.heap.objs.size+2≠o:=λo b k=>by
  simp only[b9,qz,lH]at b;rcases b with c|c
  ·rw[c]at k;exact absurd k (hi<|oL _)
  ·rw[c]at k;exact absurd k (hi (B1 ∅))
 have f:∀o n,m.heap.get? o=Z n->o∉[m.heap.objs.size+1]/\o≠m.heap.objs.size+2:=λo n c=>by
  have lt:=bW c;refine⟨λk=>?_,cT<|d6 lt<|mQ _ _⟩;rw[cN.mp k]at lt;exact gI _ (Nat.lt_of_succ_lt lt)
 have G:∀(S:aZ) (Vq:Nat) (h:ab) (H:Nat),(∀o n,m.heap.get? o=Z n->S.get? o=Z n)->S.get? (m.heap.objs.size+2)=Z {cls:=.type "list",dict:=Y,data:=.seq #[h,h] H,slots:=#[]}->
   S.IsTupleIter (m.heap.objs.size+1) m.heap.objs.size 2/\S.IsTuple m.heap.objs.size #[g,d]->h=(if q=X then d else g)->
   codeAny (aR US D) O (.builtin i ⟨[.ref (m.heap.objs.size+1),.none,.ref<|m.heap.objs.size+2],[]⟩) (wants A UH) {m with heap:=S,toks:=Vq}:=by
  intro S Vq h H Vf I L my;refine l1 r ?_;rw[mP a _];show wpAny _ O.in1 (mF (.ref<|m.heap.objs.size+2) >>= _) _ _ _;refine ao (hE (s:={m with heap:=S,toks:=Vq}) I rfl ?_);show wpAny _ O.in1 (tryCatch (fb<|.ref<|m.heap.objs.size+1) _ >>= _) _ _ _;refine ao (tv<|W.done {m with heap:=S,toks:=Vq} _ _ L λB a1 J=>?_);have a2:=J _ _ t I;show wpAny _ O.in1 (v3 (m.heap.objs.size+2) (λ_=>#[]) >>= _) _ _ _;refine ao (rk a2 rfl<|ao<|lP<|aQ ?_);show A h _;rw[my];exact e _ a1 λo n c=>(gJ _ _<|Ne.symm (f o n c).2).trans (J o n (f o n c).1 (Vf o n c))
 refine l1 r ?_;rw[mP a _];show wpAny _ O.in1 (mF (.ref<|m.heap.objs.size+2) >>= _) _ _ _;refine ao (hE (s:={m with heap:=g2.push {cls:=.type "list",data:=.seq ([]:List ab).toArray} }) E rfl ?_);show wpAny _ O.in1 (tryCatch (fb<|.ref<|m.heap.objs.size+1) _ >>= _) _ _ _;refine ao (tv (W.item 0 {m with heap:=g2.push {cls:=.type "list",data:=.seq ([]:List ab).toArray} } _ _ ↥0 ⟨let ⟨n,bd,be⟩:=ef;⟨n,bT _ bd,be⟩,C.push _⟩ λv y cd u bi Vf=>?_));cases u;have M:=Vf _ _ t E;show wpAny _ O.in1 (v3 (m.heap.objs.size+2) (λ_=>#[g,g]) >>= _) _ _ _;refine ao (rk M rfl ?_);rw[j];refine aQ ⟨ma a _,l1 r ?_⟩;have N:=l6 (aX.mapSeq<|λ_=>(#[g,g]:Array ab)) M rfl;have bm:=W.frame _ _ (y.update (m.heap.objs.size+2)<|aX.mapSeq<|λ_=>(#[g,g]:Array ab)) bi λo b n c=>(gJ _ _<|F o b).trans c;have bn:∀o n,m.heap.get? o=Z n->(y.update (m.heap.objs.size+2)<|aX.mapSeq<|λ_=>(#[g,g]:Array ab)).get? o=Z n:=λo n c=>(gJ _ _<|Ne.symm (f o n c).2).trans (Vf o n (f o n c).1 (bT _<|dE o n c));rw[mP a _];show wpAny _ O.in1 (mF (.ref<|m.heap.objs.size+2) >>= _) _ _ _;refine ao (hE N rfl ?_);show wpAny _ O.in1 (tryCatch (fb<|.ref<|m.heap.objs.size+1) _ >>= _) _ _ _;refine ao (tv (W.item 1 _ _ _ ↥0 bm λv bs P u Q R=>?_));cases u;have w:=R _ _ t N;have x:∀o n,m.heap.get? o=Z n->bs.get? o=Z n:=λo n c=>R o n (f o n c).1 (bn o n c);show wpAny _ O.in1 (tryCatch (holding [d,d]<|n4 Vw d g >>= _) _ >>= _) _ _ _;refine ao (tv<|gP<|ao<|as _ x _ _ ?_);refine ao (gP<|mn ?_);refine ao (lP<|aQ ?_);cases T:q with
 |true=>
  simp only[iY];refine ao (rk w rfl<|ao<|lP ?_);rw[j];have bv:=l6 (aX.mapSeq<|λ_=>(#[d,d]:Array ab)) w rfl;refine aQ ⟨ma a _,G _ P d _ (λo n c=>(gJ _ _<|Ne.symm (f o n c).2).trans<|x o n c) bv (W.frame _ _ _ Q λo b n c=>(gJ _ _<|F o b).trans c) (by rw[T];rfl)⟩
 |false=>
  simp only[gs,ft];refine ao (lP ?_);rw[j];exact aQ ⟨ma a _,G _ P g _ x w Q (by rw[T];rfl)⟩
end
section
variable{US:bC}{D:bc}{O:bw}{UH:ab->ai->Prop}{m:ai}{g d:ab}{q:Bool}{A:ab->ai->Prop}
def Ql(a:O.handled=Y)(b:∀UI:ai,(∀o n,m.heap.get? o=Z n->UI.heap.get? o=Z n)->∀(A:ab->ai->Prop) (UH:ab->ai->Prop),A (.bool q) UI->wpAny (aR US D) O.in1 (n4 .Gt d g) A UH UI)(e:∀S Vq,(∀o n,m.heap.get? o=Z n->S.get? o=Z n)->A (if q=X then d else g) {m with heap:=S,toks:=Vq}):wpAny (aR US D) O (call (.builtin "max") [g,d]) A UH m:=
 Du ∅ F.kind_max F.plain_max F.entry_max F.args_max2 F.plain_max_loop F.entry_max_loop a b e
def Q7(a:O.handled=Y)(b:∀UI:ai,(∀o n,m.heap.get? o=Z n->UI.heap.get? o=Z n)->∀(A:ab->ai->Prop) (UH:ab->ai->Prop),A (.bool q) UI->wpAny (aR US D) O.in1 (n4 .Lt d g) A UH UI)(e:∀S Vq,(∀o n,m.heap.get? o=Z n->S.get? o=Z n)->A (if q=X then d else g) {m with heap:=S,toks:=Vq}):wpAny (aR US D) O (call (.builtin "min") [g,d]) A UH m:=
 Du ∅ F.kind_min F.plain_min F.entry_min F.args_min2 F.plain_min_loop F.entry_min_loop a b e
end
def wy(O:bw)(m:ai)(x f:ab)(q:Bool):Prop:=(∀(US:bC) (D:bc) (UH:ab->ai->Prop) (A:ab->ai->Prop),A (.bool q) m->wpAny (aR US D) O (n4 .Gt x f) A UH m)
section
open PySem.SeqAt
open PySem.AutoSeq1 (wpAny_loadPart')
open PySem.MeetsSeq PySem.MeetsSeq2 PySem.MeetsSeq3
def TY(I d:ah)(Vj b:Array ab)(s VT:Nat)(w z:Option ah)(bF A:Array (Option ab))(U1:List (Bool×Bool))(P:U1.length=min Vj.size b.size):
  Meets (br.«tuple.__gt__» ⟨[.ref I,.ref d],[]⟩)
   (λO UG m=>m.heap.get? I=Z {cls:=.type "tuple",dict:=w,data:=.seq Vj s,slots:=bF}/\m.heap.get? d=Z {cls:=.type "tuple",dict:=z,data:=.seq b VT,slots:=A}/\
    (∀i (y:i<Vj.size) (B:i<b.size) (l:i<U1.length),EqAt O.in1 m Vj[i] b[i] (U1[i]).1/\((U1[i]).1=av->wy O.in1 m Vj[i] b[i] (U1[i]).2))/\
    UG (.ok<|.ret<|.bool<|hS (decide (b.size<Vj.size)) U1) m):=
 .of_wp λUS D O UG m e=>by
  let⟨j,F,r,Vq,U5⟩:=m;let@⟨C,E,G,e⟩:=e;have Q:=Dw;have o:(Vj.toList.zip b.toList).length=min Vj.size b.size:=by simp
  wp_walk using wpAny_loadPart' C,wpAny_loadPart' E,nq _ (λcB d UI=>d.1=Y/\UI=⟨j,F,r,Vq,U5⟩/\∃a,cB=(Vj.toList.zip b.toList).drop a/\
   UG (.ok<|.ret<|.bool<|hS (decide (b.size<Vj.size))<|U1.drop a) ⟨j,F,r,Vq,U5⟩) _
  case turn=>
   rintro⟨x,f⟩ cB d UI ⟨n,rfl,a,g,h⟩;have p:a<(Vj.toList.zip b.toList).length:=by
    rcases gd a (Vj.toList.zip b.toList).length with S|S
    ·exact S
    ·rw[p1 S]at g;cases g
   have R:a<min Vj.size b.size:=o ▸ p;have y:a<Vj.size:=⋯
   have B:a<b.size:=⋯
   have l:a<U1.length:=⋯
   rw[jW p]at g;injection g with t H;have J:x=Vj[a]:=by have:=congrArg Prod.fst t;simpa using this
   have L:f=b[a]:=by have:=congrArg Prod.snd t;simpa using this
   subst J L;rw[jW l]at h;let@⟨u,v⟩:=G a y B l;generalize U1[a]=M at h u v;let⟨c,q⟩:=M;refine ao (u US D _ _ ?_);cases c with
   |true=>
    have k:UG (.ok<|.ret<|.bool<|hS (decide (b.size<Vj.size))<|U1.drop<|a+1) ⟨j,F,r,Vq,U5⟩:=h
    wp_walk
    exact⟨rfl,rfl,a+1,H,k⟩
   |false=>
    have k:UG (.ok<|.ret<|.bool q) ⟨j,F,r,Vq,U5⟩:=h;have N:=v rfl US D
    wp_walk using N
    exact⟨_,rfl,by simpa using k⟩
  case fin=>
   rintro⟨c5,dM⟩ UI ⟨n,rfl,a,g,h⟩;simp only at n;subst n;have T:min Vj.size b.size<=a:=by
    rcases gd a (Vj.toList.zip b.toList).length with S|S
    ·rw[jW S]at g;cases g
    ·exact o ▸ S
   rw[p1 ⋯]at h;have k:UG (.ok<|.ret<|.bool<|decide (b.size<Vj.size)) ⟨j,F,r,Vq,U5⟩:=h
   wp_walk
   exact⟨_,rfl,by simpa [br.Tuple.tupleCompareSizes] using k⟩
  case h=>
   exact⟨rfl,rfl,0,rfl,by simpa using e⟩
end
def kM(H T:List V):List (Bool×Bool):=((H.zip T).map λu=>(ck u.1 u.2,bp u.2 u.1))
def OT(g d:V):V.beq g d=V.beq d g:=by
 rw[qJ,V.beq_iff,V.beq_iff];exact⟨λe=>e.symm,λe=>e.symm⟩
theorem F0:∀{s:Nat}{H T:List V},fN s H T=X->hS (decide (T.length<H.length)) (kM H T)=eK T H
 |_,[],[],_=>rfl
 |s,g::j,d::C,e=>by
  rw[fN,cS]at e;show (if ck g d=X then hS (decide (C.length+1<j.length+1)) (kM j C) else bp d g)=eK (d::C) (g::j);rw[eK,(pb e.1).2.2,<-F0 e.2,OT,xC.mpr ze]
 |_,[],_::_,_=>rfl
 |_,_::_,[],_=>rfl
def Ks{a i:Int}(b:de m.heap (.int a) J)(c:de m.heap (.int i) v):wy O m J v (bp (.int i)<|.int a):=by
 let⟨@C,rfl⟩:=b;let⟨@Vd,rfl⟩:=c;intro US D UH A p;rw[bp]at p;exact (SI p:wpAny (aR US D) O (d1 .Gt (.int a C)<|.int i Vd) A UH m)
def FV{f x:V}(I:xg f x)(b:de m.heap f J)(e:de m.heap x v):wy O m J v (bp x f):=by
 rcases I with ⟨a,i,rfl,rfl⟩|⟨g,d,rfl,rfl⟩
 ·exact Ks b e
 ·let⟨C,rfl⟩:=b;let⟨Vd,rfl⟩:=e;intro US D UH A p;rw[bp]at p;exact richCompare_gives (op:=.Gt) (z1 m g C) (z1 m d Vd) PySem.F.slot_str_gt PySem.F.entry_str_gt (PySem.F.args_str_gt_2 _ _) (PySem.gives_str_gt g d C Vd) (λc=>nomatch c) p
def Ts(s:Nat):∀{O:bw}{f x:V}{J v:ab},eC s f x=X->O.units+s+2<bR->de m.heap f J->de m.heap x v->wy O m J v (bp x f):=by
 induction s with
 |zero=>
  intro O f x J v e N a b;rcases nK e with I|⟨t,_,_,c,_⟩
  ·exact FV I a b
  ·cases c
 |succ s Q=>
  intro O f x J v e N a b;rcases nK e with I|⟨t,H,T,c,rfl,rfl,e⟩
  ·exact FV I a b
  cases c;let⟨g,n,UW,@t,rfl,y,B,h,j⟩:=a;let⟨d,Vk,w,@R,rfl,l,o,q,r⟩:=b;let⟨cls,S,data,bF⟩:=n;let⟨a2,U,bd,al⟩:=Vk;simp only at B h o q;subst B h o q;have u:H.length=UW.size:=by rw[j.length,dk]
  have z:T.length=w.size:=by rw[r.length,dk]
  intro US D UH A p;rw[bp,<-F0 e,u,z]at p;have am:(kM H T).length=min UW.size w.size:=by rw[kM,bl,DT,u,z]
  refine D7 (op:=.Gt) ⟨_,y,rfl⟩ ⟨_,l,rfl⟩ PySem.F.slot_tuple_gt PySem.F.entry_tuple_gt (PySem.F.args_tuple_gt_2 _ _) (TY g d UW w t R S U bF al (kM H T) am)
   ⟨y,l,λi an ap as=>?_,show ab.bool (hS (decide (w.size<UW.size))<|kM H T)≠ab.notImplemented/\A (.bool<|hS (decide (w.size<UW.size))<|kM H T) m from ⟨(λf=>nomatch f),p⟩⟩ ⋯;let⟨@Vz,C,E⟩:=j.get (i:=i) (v:=UW[i]) (by rw[eA];simp[an]);let⟨@Vy,G,L⟩:=r.get (i:=i) (v:=w[i]) (by rw[eA];simp[ap]);have lk:=xc e C G;have M:=pb lk;have a1:(kM H T)[i]=(ck Vz Vy,bp Vy Vz):=by
   have:(kM H T)[i]?=Z (ck Vz Vy,bp Vy Vz):=by
    rw[kM,dU,(tl (z:=(Vz,Vy))).mpr ⟨C,G⟩];rfl
   rw[dy as]at this;exact Option.some.inj this
  rw[a1];exact⟨iN s M.1 M.2.1 (by show O.units+1+s+1<bR;lia) E L,λ_=>Q lk (by show O.units+1+s+2<bR;lia) E L⟩
section
variable{b:aO}
def Rw(f:b.calm=X)(k:b.A.units+20<bR):eR b (.builtin "max") (λE h A=>∃(r c:V) (v J:ak),E=[v,J]/\eC 6 c r=X/\cf h r v/\cf h c J/\A (if bp r c=X then J else v) h):=by
 intro R m z h E Va A l j e;let⟨r,c,v,@J,rfl,lk,y,B,p⟩:=e;let⟨o,@s,rfl,a,d⟩:=tu j;refine Ql (q:=bp r c) (l.ok.hd f) (λUI q A UH i=>?_) λS Vq q=>⟨if bp r c=X then J else v,h,l.kept q,?_,p⟩
 ·exact Ts 6 lk (by show b.A.units+1+6+2<bR;lia) ((B.e8 l.aY d).keep λg n W W c W W=>q g n c) ((y.e8 l.aY a).keep λg n W W c W W=>q g n c) b.prog b.w UH A i
 ·split
  ·exact d
  ·exact a
def PA(f:b.calm=X)(k:b.A.units+20<bR):eR b (.builtin "min") (λE h A=>∃(r c:V) (v J:ak),E=[v,J]/\eC 6 c r=X/\cf h r v/\cf h c J/\A (if bp c r=X then J else v) h):=by
 intro R m z h E Va A l j e;let⟨r,c,v,@J,rfl,lk,y,B,p⟩:=e;let⟨o,@s,rfl,a,d⟩:=tu j;refine Q7 (q:=bp c r) (l.ok.hd f) (λUI q A UH i=>?_) λS Vq q=>⟨if bp c r=X then J else v,h,l.kept q,?_,p⟩
 ·exact Ej 6 lk (by show b.A.units+1+6+2<bR;lia) ((B.e8 l.aY d).keep λg n W W c W W=>q g n c) ((y.e8 l.aY a).keep λg n W W c W W=>q g n c) b.prog b.w UH A i
 ·split
  ·exact d
  ·exact a
def qL:i5:=(λH=>match H with
 |[.im (.int a),.im<|.int i]=>AB [.im (.int a),.im<|.int i]
 |[.im (.tup g),.im<|.tup d]=>if eC 6 (.tup d) (.tup g)=X then Z (.im<|if bp (.tup g) (.tup d)=X then .tup d else .tup g) else Y
 |_=>Y)
def q9:i5:=(λH=>match H with
 |[.im (.int a),.im<|.int i]=>yC [.im (.int a),.im<|.int i]
 |[.im (.tup g),.im<|.tup d]=>if eC 6 (.tup d) (.tup g)=X then Z (.im<|if bp (.tup d) (.tup g)=X then .tup d else .tup g) else Y
 |_=>Y)
def Nh(e:b.calm=X)(k:b.A.units+20<bR):hI b (.builtin "max") qL:=by
 intro R m z h E Va A l j n;let⟨H,@r,f,c,p⟩:=n;unfold qL at c;split at c
 ·exact PN e R m z h E Va A l j ⟨_,r,f,c,p⟩
 ·split at c
  ·rename_i g d lk;cases c;let⟨v,@J,rfl,y,B⟩:=xe f;refine Rw e k R m z h _ Va A l j ⟨_,_,v,J,rfl,lk,y,B,cu.i p ?_⟩;split
   ·exact B
   ·exact y
  ·cases c
 ·cases c
def PO(e:b.calm=X)(k:b.A.units+20<bR):hI b (.builtin "min") q9:=by
 intro R m z h E Va A l j n;let⟨H,@r,f,c,p⟩:=n;unfold q9 at c;split at c
 ·exact Q5 e R m z h E Va A l j ⟨_,r,f,c,p⟩
 ·split at c
  ·rename_i g d lk;cases c;let⟨v,@J,rfl,y,B⟩:=xe f;refine PA e k R m z h _ Va A l j ⟨_,_,v,J,rfl,lk,y,B,cu.i p ?_⟩;split
   ·exact B
   ·exact y
  ·cases c
 ·cases c
end
abbrev ly(e:aZ)(af r:ah)(a s U9:Nat)(VS ok b:ab)(o:Bool):Prop:=e.get? af=Z {cls:=.type "dict_itemiterator",dict:=Y,data:=.fields #[VS,.bool o,.ref r,.int a 0,.int s 0,.int U9 0,ok,b],slots:=#[]}
def zw(e:aZ)(af r:ah)(a s U9:Nat):Prop:=(∃VS ok b o,ly e af r a s U9 VS ok b o/\(VS=.none\/∃UO:ah,VS=cP UO/\∃n,e.get? UO=Z n))
section
variable{US:bC}{D:bc}{O:bw}{UH:ab->ai->Prop}{m:ai}
def Pq{af r:ah}(q:zw m.heap af r a T.size U9)(R:m.heap.get? r=Z V2)(U:V2.data=.dict T U9)(a1:a<T.size)(al:∀S,zw S af r (a+1) T.size U9->((∃ok l,IsItemIter m.heap af r a T.size U9 ok l)->∃ok l,IsItemIterOut S af r (a+1) T.size U9 ok l m.heap.objs.size)->gK S m.heap.objs.size T[a].key T[a].val->S.objs.size=m.heap.objs.size+1->(∀d n,d≠af->m.heap.get? d=Z n->S.get? d=Z n)->A (Z<|.ref m.heap.objs.size) {m with heap:=S}):
  wpAny (aR US D) O (fb<|.ref af) A UH m:=by
 let⟨VS,ok,l,@o,q,a2⟩:=q;let⟨b,F,t,Vq,U5⟩:=m;have s:ai.TypeIs ⟨b,F,t,Vq,U5⟩ (.ref af) "dict_itemiterator" := ⟨_,q,rfl⟩;unfold fb;refine ao (lC<|lu (name:=aC.ofString "__next__") s su<|g7 su s IU ?_<|ER _);refine ao (aQ<|ao<|ao ?_);first|refine ao (wV s<|aQ ?_)|refine ao (vZ s<|aQ ?_)
 refine ao (nx q rfl ?_);have bd:br.Dict_items.ownsTuple "dict_itemiterator" = X:=by decide
 simp only[bd,iY];show wpAny _ _ (if (ab.ref r==ab.none)=X then _ else _) _ _ _;rw[aL (show ¬ ((ab.ref r==ab.none)=X) from cU)];refine ao (aQ<|ao<|qm R U ?_);rw[aL ↥0];refine ao (aQ<|ao<|pW R U ?_);rw[aL ↥0];refine aQ ?_;simp only[show ¬ ((a:Int)<0) from by lia,ft,kY,iS a1];refine ao ?_;first|refine ao (wV s<|aQ ?_)|refine ao (vZ s<|aQ ?_)
 refine ao (yX s ?_);show wpAny _ _ (ps (.ref af) 3 (cP<|(a:Int)+1) >>= _) _ _ ⟨b,F,t,Vq,U5⟩;refine ao (jn q ↥0 λh z B=>?_);replace B:aZ.SameBut af b h:=B;replace z:ly h af r (a+1) T.size U9 VS ok l o:=by
  have c:((a+1:Nat):Int)=(a:Int)+1:=⋯
  unfold ly;rw[c];simpa [cP] using z
 have am:ai.TypeIs ⟨h,F,t,Vq,U5⟩ (.ref af) "dict_itemiterator" := ⟨_,z,rfl⟩;refine ao (gP<|ao<|yX am<|ao<|yX am ?_);show wpAny _ _ (br.Dict_items.pairFromOwner (.ref af) 6 T[a].key T[a].val) _ _ ⟨h,F,t,Vq,U5⟩;unfold br.Dict_items.pairFromOwner;refine ao (wo ?_);have i:ly (h.push {cls:=.type "tuple",data:=.seq #[T[a].key,T[a].val]}) af r (a+1) T.size U9 VS ok l o:=bT _ z;have I:h.objs.size=b.objs.size:=B.1;have v:af<b.objs.size:=bW q;have J:gK (h.push {cls:=.type "tuple",data:=.seq #[T[a].key,T[a].val]}) b.objs.size T[a].key T[a].val:=by rw[<-I];exact cR _ rfl
 have L:(h.push {cls:=.type "tuple",data:=.seq #[T[a].key,T[a].val]}).objs.size=b.objs.size+1:=by rw[hD,I]
 have C:∀d n,d≠af->b.get? d=Z n->(h.push {cls:=.type "tuple",data:=.seq #[T[a].key,T[a].val]}).get? d=Z n:=λd n j c=>bT _ (B.extBut d n j c);show wpAny _ _ (br.Dict_items.ownedTupleIsFree (.ref af) >>= _) _ _ ⟨h.push {cls:=.type "tuple",data:=.seq #[T[a].key,T[a].val]},F,t,Vq,U5⟩;rw[I];generalize (h.push {cls:=.type "tuple",data:=.seq #[T[a].key,T[a].val]})=u at i J L C ⊢;refine ao ?_;unfold br.Dict_items.ownedTupleIsFree;rcases a2 with rfl|⟨UO,rfl,n,be⟩
 ·refine ao (gO i rfl (x:=.none) rfl<|aQ ?_);simp only[iY];refine ao (gO i rfl (x:=ok) rfl<|ao<|gO i rfl (x:=l) rfl ?_);refine ao (jn i ↥0 λe p g=>?_);replace g:aZ.SameBut af u e:=g;replace p:ly e af r (a+1) T.size U9 .none T[a].key l o:=p;refine ao (jn p ↥0 λM N w=>?_);replace w:aZ.SameBut af e M:=w;replace N:ly M af r (a+1) T.size U9 .none T[a].key T[a].val o:=N;refine ao (jn N ↥0 λP Q x=>?_);replace x:aZ.SameBut af M P:=x;replace Q:ly P af r (a+1) T.size U9 (cP b.objs.size) T[a].key T[a].val o:=Q;refine ao (jn Q ↥0 λE H y=>?_);replace y:aZ.SameBut af P E:=y;replace H:ly E af r (a+1) T.size U9 (cP b.objs.size) T[a].key T[a].val av:=H;have an:gK E b.objs.size T[a].key T[a].val:=y.extBut _ _ (hi v) (x.extBut _ _ (hi v)<|w.extBut _ _ (hi v)<|g.extBut _ _ (hi v) J);refine ao (lP<|aQ<|aQ ⟨_,rfl,aQ<|al E ⟨_,_,_,_,H,.inr ⟨_,rfl,_,an⟩⟩ (λ_=>⟨_,_,H⟩) an ?_ ?_⟩)
  ·rw[y.1,x.1,w.1,g.1,L]
  ·exact λd n j c=>y.extBut d n j (x.extBut d n j<|w.extBut d n j<|g.extBut d n j<|C d n j c)
 ·have bi:∃Vk,u.get? UO=Z Vk:=by
   by_cases k:UO=af
   ·exact⟨_,(congrArg u.get? k).trans i⟩
   ·exact⟨n,C UO n k be⟩
  let⟨@Vk,ap⟩:=bi;refine ao (gO i rfl (x:=cP UO) rfl ?_);show wpAny _ _ (loadIfAlive ((UO:Int).toNat) >>= _) _ _ _;refine ao (KD ?_);show wpAny _ _ (if (u.get?<|(UO:Int).toNat).isNone=X then _ else _) _ _ _;rw[kY,ap];show wpAny _ _ (me (.ref af) 1 >>= _) _ _ _;refine ao (gO i rfl (x:=.bool o) rfl ?_);have as:∀e,ly e af r (a+1) T.size U9 (cP UO) ok l X->aZ.SameBut af u e->A (Z<|.ref b.objs.size) ⟨e,F,t,Vq,U5⟩:=λe p g=>by
   refine al e ⟨_,_,_,_,p,.inr ⟨UO,rfl,?_⟩⟩ (λ⟨_,_,k⟩=>by have c:=Eq.trans (Eq.symm q) k;simp[cP]at c) (g.extBut _ _ (hi v) J) (by rw[g.1,L]) λd n j c=>g.extBut d n j (C d n j c);by_cases k:UO=af
   ·exact⟨_,(congrArg e.get? k).trans p⟩
   ·exact⟨Vk,g.extBut _ _ k ap⟩
  cases o with
  |true=>exact aQ (aQ<|aQ ⟨_,rfl,aQ<|as u i ⟨rfl,λ_ W=>rfl⟩⟩)
  |false=>
   show wpAny _ _ (ps (.ref af) 1 (.bool X) >>= _) _ _ _;exact ao (jn i ↥0 λe p g=>aQ<|aQ<|aQ ⟨_,rfl,aQ<|as e p g⟩)
def Tg{af r:ah}(h:O.handled=Y)(c:zw m.heap af r a T.size U9)(e:m.heap.get? r=Z V2)(f:V2.data=.dict T U9)(i:T.size<=a)(j:∀S,aZ.ExtBut af m.heap S->A Y {m with heap:=S}):wpAny (aR US D) O (fb<|.ref af) A UH m:=by
 let⟨VS,ok,l,@o,c,n⟩:=c;have b:m.TypeIs (.ref af) "dict_itemiterator" := ⟨_,c,rfl⟩;unfold fb;refine ao (lC<|lu (name:=aC.ofString "__next__") b su<|g7 su b IU ?_<|ER _);refine ao (aQ<|ao<|ao ?_);first|refine ao (wV b<|aQ ?_)|refine ao (vZ b<|aQ ?_)
 refine ao (nx c rfl ?_);have k:br.Dict_items.ownsTuple "dict_itemiterator" = X:=by decide
 simp only[k,iY];show wpAny _ _ (if (ab.ref r==ab.none)=X then _ else _) _ _ m;rw[aL (show ¬ ((ab.ref r==ab.none)=X) from cU)];refine ao (aQ<|ao<|qm e f ?_);rw[aL ↥0];refine ao (aQ<|ao<|pW e f ?_);rw[aL ↥0];refine aQ ?_;simp only[show ¬ ((a:Int)<0) from by lia,ft,kY,wF i];refine ao ?_;first|refine ao (wV b<|aQ ?_)|refine ao (vZ b<|aQ ?_)
 show wpAny _ _ (ps (.ref af) 2 .none >>= _) _ _ m;refine ao (m8 c rfl ↥0 ?_);show wpAny _ _ (mG (.type "StopIteration") [] >>= _) _ _ _;refine ao ?_;simp only[mG,r0];refine ao (gu ?_ (by size_fits));refine ao (m:=m6 _ _) (p9 (a:=ab.none) (by first|rfl|(simp only[m6];rfl)) ?_);refine gu ?_ (by size_fits);simp only[raiseNew];refine ao (uY ?_);rw[show O.in1.handled=Y from h];refine ao (aQ<|u6 ?_);refine ao (oT (T := "StopIteration") (b:=X) ⟨_,cR _ rfl,rfl⟩ t7 ?_);exact aQ (j _<|((kQ ..).extBut.push _).push _)
def TV{v r:ah}{A:ab->ai->Prop}(a:m.heap.IsItemsView v r)(b:m.heap.get? r=Z V2)(c:V2.data=.dict T U9)(d:A (.ref m.heap.objs.size) {m with heap:=m.heap.push {cls:=.type "dict_itemiterator",data:=.fields #[.none,.bool av,.ref r,.int 0 0,.int T.size 0,.int U9 0,.none,.none]} }):
  wpAny (aR US D) O (mZ<|.ref v) A UH m:=by
 let⟨@i,e,j,g⟩:=id a;refine wU a.typeIs IW (g7 IW a.typeIs F.entry_dict_items_iter ?_<|F.args_dict_items_iter_1 _);unfold br.«dict_items.__iter__»;refine ao (aQ<|ao ?_);unfold br.Dict_items.dictOf;refine ao (gO e g (x:=.ref r) rfl<|aQ<|ao ?_);unfold br.Dict_items.newIterator;refine ao (qm b c<|ao<|pW b c ?_);have h:br.Dict_items.ownsTuple "dict_itemiterator" = X:=by decide
 simp only[h,iY];refine gu (aQ ⟨_,rfl,"dict_itemiterator",_,⟨_,cR _ rfl,rfl⟩,su.lookup,?_⟩)
  (by simp only[sizeOk,br.Dict_items.ownedTupleFields,cJ,dW,dz,iW,tZ];lia);simpa [cP,br.Dict_items.ownedTupleFields] using d
def OB(r:ah)(hd:(r==h_)=av):
  MeetsIn US D (br.«dict.items» ⟨[.ref r],[]⟩) (λ_ UG m=>m.TypeIs (.ref r) "dict" /\ UG (.ok<|.ret<|.ref m.heap.objs.size) {m with heap:=m.heap.push {cls:=.type "dict_items",data:=.fields #[.ref r]} }):=
 .of_wp λO UG m ⟨a,e⟩=>by
  unfold br.«dict.items»;refine ao ?_;unfold br.Dict.noArgs;refine ao (DW a ?_);show wpAny _ _ (pure r) _ _ m;refine aQ ?_;show wpAny _ _ (br.Dict.showsAll r >>= _) _ _ m;unfold br.Dict.showsAll;rw[aL (by rw[hd];exact cU)];exact ao (aQ<|ao<|gu<|aQ ⟨_,rfl,e⟩)
end
mutual
def vw:V->sO
 |.int a=>.int a
 |.aE d=>.bool d
 |.str f=>.str f
 |.tup H=>.tuple (sf H)
 |_=>.none
def sf:List V->List sO
 |[]=>[]
 |r::j=>vw r::sf j
end
mutual
theorem JW{e:aZ}:∀{s:Nat}{r:V}{J:ab},V.bQ s r=X->de e r J->Reads e J (vw r) []
 |_,.aS,J,_,c=>by cases (show J=.none from c);exact .none
 |_,.aE d,J,_,c=>by cases (show J=.bool d from c);exact .bool d
 |_,.int a,J,_,c=>by let⟨@C,rfl⟩:=c;exact .int a C
 |_,.str f,J,_,c=>by let⟨@C,rfl⟩:=c;exact .str f C
 |s+1,.tup H,J,q,c=>by
  let⟨g,n,Vj,@t,rfl,y,B,b,h⟩:=c;exact .tuple y B b (DV (s:=s) q h)
 |0,.tup H,J,q,c=>by cases q
 |s,.fn g,J,q,c=>by cases s<;>cases q
 |s,.aT g,J,q,c=>by cases s<;>cases q
 |s,.fd,J,q,c=>by cases s<;>cases q
theorem DV{e:aZ}:∀{s:Nat}{H:List V}{Va:List ab},V.dj s H=X->dG e H Va->ReadsAll e Va (sf H) []
 |_,[],Va,_,c=>by rw[show Va=[] from c];exact .nil
 |s,r::H,Va,q,c=>by
  let⟨v,@j,rfl,y,B⟩:=c;rw[V.dj,cS]at q;exact .cons (JW q.1 y) (DV q.2 B)
end
mutual
theorem Qb:∀r:V,sO.hasDict (vw r)=av
 |.aS=>rfl
 |.aE _=>rfl
 |.int _=>rfl
 |.str _=>rfl
 |.fn _=>rfl
 |.aT _=>rfl
 |.fd=>rfl
 |.tup H=>IP H
theorem IP:∀H:List V,sO.hasDictAll (sf H)=av
 |[]=>rfl
 |r::j=>by
  show (sO.hasDict (vw r) || PyData.hasDictAll (sf j))=av;rw[Qb r,IP j];rfl
end
end L2
namespace G
open L2
variable{o d g:Int×Int}{M:List (Int×Int)}{e:ag}{s:Nat}
def SY:bO:=((bE (dP (b1<|aD ot (ae<|aD bH (au 0)<|ae<|az<|.int 0)<|ae<|az<|.int 0) (bE (cD 2<|aD fU (ae<|aD bH (au 0)<|ae<|az<|.int 0)<|au 1)<|bE (eX (aD nd (ae<|aD bH (au 0)<|ae<|az<|.int 0)<|au 1)<|g9 0 (az<|.int 0) lF)<|dd<|dS 2) eD)<|bE (eX (aD dJ (ae<|aD bH (au 0)<|ae<|az<|.int 2)<|ae<|az<|.int 1)<|g9 0 (az<|.int 2) lF)<|bE (cD 3<|aD fU (ae<|aD es (ae<|aD dJ (ae<|aD bH (au 0)<|ae<|az<|.int 1)<|ae<|aD es (ae<|aD bH (au 0)<|ae<|az<|.int 2)<|ae<|az<|.int 104729)<|ae<|az<|.int 48271)<|ae<|az<|.int 2305843009213693951)<|bE (eX (aD fU (ae<|aD es (au 3)<|ae<|aD dJ (ae<|aD fU (au 3)<|ae<|az<|.int 1009)<|ae<|az<|.int 69621)<|ae<|az<|.int 2305843009213693951)<|g9 0 (az<|.int 1) lF)<|dd<|aD fU (ae<|aD nd (ae<|aD bH (au 0)<|ae<|az<|.int 1)<|ae<|az<|.int 1000003)<|au 1))
def qR:dA:=(dF 2 4 [0,1] SY)
def Jx:bO:=((dd<|f_<|aq (ae<|cV<|aq (ae<|aD jT (ae<|aD bH (au 0)<|ae<|az<|.int 0)<|ae<|az<|.int 1)<|aq (ae<|aD bH (au 0)<|ae<|az<|.int 1) aG)<|aq (ae<|cV<|aq (ae<|aD bH (au 0)<|ae<|az<|.int 0)<|aq (ae<|aD jT (ae<|aD bH (au 0)<|ae<|az<|.int 1)<|ae<|az<|.int 1) aG)<|aq (ae<|cV<|aq (ae<|aD bH (au 0)<|ae<|az<|.int 0)<|aq (ae<|aD dJ (ae<|aD bH (au 0)<|ae<|az<|.int 1)<|ae<|az<|.int 1) aG)<|aq (ae<|cV<|aq (ae<|aD dJ (ae<|aD bH (au 0)<|ae<|az<|.int 0)<|ae<|az<|.int 1)<|aq (ae<|aD bH (au 0)<|ae<|az<|.int 1) aG) aG))
def Ka:dA:=(dF 1 1 [0] Jx)
def Qa:bO:=((bE (cD 4<|aD bH (ae<|bL 1 G.Ka<|aq (ae<|aD bH (au 2)<|ae<|bL 2 G.qR<|aq (au 0)<|aq (ae<|cH fo<|aq (au 2) aG) aG) aG)<|ae<|bL 2 G.qR<|aq (au 0)<|aq (ae<|az<|.int 4) aG)<|dP (gf (b1<|aD g5 (au 4)<|au 2)<|gf (b1<|jf gv gv (ae<|az<|.int 0) (ae<|aD bH (au 4)<|ae<|az<|.int 0)<|ae<|az<|.int 24)<|b1<|jf gv gv (ae<|az<|.int 0) (ae<|aD bH (au 4)<|ae<|az<|.int 1)<|ae<|az<|.int 24) (j_<|iy lE 2 kb<|aq (au 4) aG) eD))
def Ki:bO:=((bE (cD 2<|f_<|aq (ae<|cV<|aq (ae<|az<|.int 12)<|aq (ae<|az<|.int 12) aG) aG)<|bE (g8 (ha<|aq (ae<|bL 2 G.qR<|aq (au 0)<|aq (au 1) aG) aG) (bG 3) G.Qa)<|dd<|dS 2))
def Lo:dA:=(dF 2 5 [0,1] Ki)
def P5:bO:=((j_<|iy lE 5 OY<|aq (ae<|bL 2 G.qR<|aq (au 0)<|aq (ae<|cH fo<|aq (au 5) aG) aG) aG))
def Me:ay ag:=((dS 0))
def KP:ay Bool:=((b1<|aD e3 (ae<|aD es (ae<|aD fU (ae<|aD bH (au 0)<|ae<|az<|.int 0)<|ae<|az<|.int 2)<|ae<|aD fU (ae<|aD fU (ae<|aD bH (au 0)<|ae<|az<|.int 1)<|ae<|az<|.int 3)<|ae<|az<|.int 2)<|ae<|az<|.int 0))
def aH(u:Int×Int):V:=(.tup [.int u.1,.int u.2])
abbrev a3(U1:List (Int×Int)):ag:=.im (.tup<|U1.map aH)
abbrev cn(U1:List (Int×Int)):ag:=.lst (U1.map aH)
abbrev f3(r m C:Int):ag:=.lst [.int r,.int m,.int C]
def fu(s:Nat)(e:ag):Prop:=(∃r m C,e=f3 r m C/\0<=r/\0<=m/\m<2^62/\0<=C/\C+s<2^40)
def fu.mono{t:Nat}(f:fu s e)(c:t<=s):fu t e:=by
 let⟨r,m,@C,rfl,y,B,a,b,d⟩:=f;exact⟨r,m,C,rfl,y,B,a,b,⋯⟩
def fu.lst(f:fu s e):∃p,e=.lst p:=by
 let⟨r,m,@C,rfl,W⟩:=f;exact⟨_,rfl⟩
def HU(u:Int×Int):List (Int×Int):=([(u.1-1,u.2),(u.1,u.2-1),(u.1,u.2+1),(u.1+1,u.2)])
def ee(u:Int×Int):List V:=([.int u.1,.int u.2])
def Be(u:Int×Int):aH u=.tup (ee u):=rfl
def vL(e:ee g=ee d):g=d:=by
 unfold ee at e;simp at e;exact vz e.1 e.2
def Aa(e:aH g=aH d):g=d:=by
 rw[Be,Be]at e;exact vL (by injection e)
def uv(u:Int×Int):V.keys 7 (ee u)=X:=rfl
def sR:V->Int×Int
 |.tup [.int g,.int d]=>(g,d)
 |_=>(0,0)
def Gq(u:Int×Int):sR (aH u)=u:=rfl
def yM(u:Int×Int):V.bQ 8 (aH u)=X:=rfl
theorem wk:∀U1:List (Int×Int),V.dj 8 (U1.map aH)=X
 |[]=>rfl
 |u::j=>by rw[cw,V.dj,yM,wk j];rfl
def r4(g d:Int×Int):ck (aH g) (aH d)=decide (g=d):=by
 show ((g.1==d.1)&&((g.2==d.2)&&X))=_;let⟨a,VL⟩:=g;let⟨c5,dM⟩:=d;by_cases y:a=c5<;>by_cases B:VL=dM<;>simp[y,B]
def Iz(U1:List (Int×Int))(o:Int×Int):((U1.map aH).any λf=>ck f<|aH o)=decide (o∈U1):=by
 rw[Fy,qJ,ve,je];constructor
 ·rintro⟨f,a,c⟩;have:decide (f=o)=X:=by rw[<-r4];exact c
  rw[<-fY this];exact a
 ·intro e;refine⟨o,e,?_⟩;show ck (aH o) (aH o)=X;rw[r4];exact dQ rfl
theorem Cb:∀(I:List V) (M:List (Int×Int)),(∀f∈I,f∈M.map aH)->I=(I.map sR).map aH
 |[],_,_=>rfl
 |f::I,M,e=>by
  let⟨@u,W,c⟩:=da.mp (e f<|.head _);rw[cw,cw,<-Cb I M λx a=>e x<|.tail _ a,<-c,Gq]
def Tf{I:List V}(e:I.Perm (M.map aH)):∃a:List (Int×Int),a.Perm M/\I=a.map aH:=by
 refine⟨I.map sR,?_,Cb I M λf b=>e.mem_iff.mp b⟩;have:=AM sR e;rw[e7]at this;have c:(sR ∘ aH:Int×Int->Int×Int)=id:=funext Gq;rw[c,EZ]at this;exact this
def Hb(aj:M.Nodup)(a:M.length<=1000):ie (M.map aH):=by
 refine⟨⟨by rw[bl];exact a,λg b d e=>?_,?_⟩,.inl λr hd=>?_⟩
 ·let⟨@f,W,rfl⟩:=da.mp b;let⟨@x,W,rfl⟩:=da.mp e;rfl
 ·exact MC aH (λg d s c=>s<|Aa c) aj
 ·let⟨@f,W,rfl⟩:=da.mp hd;rfl
def F6{UX:List (List V×V)}{q:List V}:(d9 UX q).isSome=UX.any λu=>decide (u.1=q):=by
 unfold d9;rw[vk,List.isSome_find?]
def cj(M:List (Int×Int)):List (List V×V):=(M.map λo=>(ee o,.aE X))
def yG(M:List (Int×Int))(o:Int×Int):((cj M).any λu=>decide (u.1=ee o))=decide (o∈M):=by
 unfold cj;rw[Fy,qJ,ve,je];constructor
 ·rintro⟨f,a,c⟩;have:ee f=ee o:=fY c;rw[<-vL this];exact a
 ·intro e;exact⟨o,e,dQ rfl⟩
def GX(M:List (Int×Int))(o:Int×Int):(d9 (cj M)<|ee o).isSome=decide (o∈M):=by rw[F6,yG]
def PS(e:o∉M):jQ (cj M) (ee o) (.aE X)=cj (M++[o]):=by
 unfold jQ;rw[aL (by rw[yG];simpa using e)];unfold cj;rw[gz];rfl
def L7{U_:Type}{a:List U_}(e:a≠[]):∃b D,a=b++[D]:=⟨a.dropLast,a.getLast e,(List.dropLast_concat_getLast e).symm⟩
def Cs{U:List (Int×Int)}{a:Int}(b:0<=a)(e:U[a.toNat]?=Z o):eH (U.map aH) a=Z (aH o):=Ef b (by rw[dU,e];rfl)
def Ei(U1:List (Int×Int))(o:Int×Int):gW (aH o) (cn U1)=Z (decide (o∈U1)):=by
 rw[Bz,yM,wk,Iz];rfl
def Pl(U1:List (Int×Int))(o:Int×Int):gW (aH o) (a3 U1)=Z (decide (o∈U1)):=by
 rw[MF,yM,wk,Iz];rfl
def QS(a i:Int):qL [.im (.int a),.im<|.int i]=Z (.im<|.int<|if i>a then i else a):=rfl
def TG(a i:Int):q9 [.im (.int a),.im<|.int i]=Z (.im<|.int<|if i<a then i else a):=rfl
def mid:bO:=((dP (iO (b1<|aD e3 (au 2)<|ae<|az<|.int 1)<|b1<|aD e3 (au 2)<|ae<|az<|.int 2) (g8 (ha<|aq (ae<|bL 2 G.qR<|aq (au 0)<|aq (ae<|aD dJ (ae<|az<|.int 1)<|ae<|aD nd (ae<|cH fo<|aq (au 5) aG)<|ae<|az<|.int 2) aG) aG) (bG 6) G.P5)<|dP (b1<|aD e3 (au 2)<|ae<|az<|.int 3) (cD 5<|dh 1 [] (dC<|au 5) (bG 0) G.KP G.Me)<|dP (b1<|aD ot (au 2)<|ae<|az<|.int 3) (cD 5<|bL 2 G.Lo<|aq (au 0)<|aq (au 1) aG) eD))
end G
namespace L2
open Spec PyProof.Rows PySem.W
variable{UK:Φ}{UT:bC}{D:bc}
end L2
namespace L2
open Spec PyProof.Rows PySem.W
def LV(w:a4)(a:Nat)(H:List V):Bool:=(match w[a]? with
 |some (Z<|.lst x)=>decide (x=H)
 |_=>av)
def ts:ag->ag
 |.im (.aT f)=>.c2 f
 |r=>r
@[simp] theorem Ul(f:List V):ts (.im<|.aT f)=.c2 f:=rfl
@[simp] theorem Uu(f:List V):ts (.im<|.tup f)=.im (.tup f):=rfl
@[simp] def ry(F:ay ag):ay ag:=λw=>(F w).map λu=>(ts u.1,u.2)
section
variable{b:aO}
def JU{c:bh}{F:ay ag}(e:b5 b c F):b5 b c (ry F):=by
 refine eh e λz h A d=>?_;let⟨w,P,j,@U4,L,aj,i,p⟩:=d;let⟨@⟨a,UR⟩,y,B⟩:=cm.mp i;cases B;refine⟨w,P,a,UR,L,aj,y,λv UP U3 UG k Vc l=>p v UP U3 UG k ?_ l⟩;cases a with
 |im r=>
  cases r with
  |aT f=>
   let@⟨⟨g,E,@n,rfl,Vf,Vt⟩,rfl⟩:=Vc;exact⟨g,E,n,rfl,Vf,Vt,rfl⟩
  |_=>exact Vc
 |_=>exact Vc
end
end L2
namespace L2
section
variable{w UR Vi:a4}
variable{r:ag}
def c3{F:ay ag}(e:F w=Z (r,UR)):ae F w=Z (.dv r,UR):=by unfold ae;rw[e];rfl
variable{f:bJ}
def ff{F:ay bJ}{e:ay (List bJ)}{E:List bJ}(a:F w=Z (f,UR))(b:e UR=Z (E,Vi)):aq F e w=Z (f::E,Vi):=by unfold aq;rw[a];show (e UR).map _=_;rw[b];rfl
variable{Vz Vy:ag}
def e6{Vw:ag->ag->Option ag}{M VH:ay bJ}{x:bJ}(a:M w=Z (f,UR))(b:VH UR=Z (x,Vi))(c:d7 Vi f=Z Vz)(d:d7 Vi x=Z Vy)(e:Vw Vz Vy=Z r):aD Vw M VH w=Z (r,Vi):=by
 unfold aD;rw[a];show (VH UR).bind _=_;rw[b];show (d7 Vi f).bind _=_;rw[c];show (d7 Vi x).bind _=_;rw[d];show (Vw Vz Vy).map _=_;rw[e];rfl
variable{F:ay (List bJ)}{s:Nat}{U5:List bJ}{H l:List ag}
def gQ{UU:dA}{j:ag}(a:F w=Z (U5,UR))(b:U5.length=s)(c:eB U5 UR=Z (H,Vi))(d:UU H=Z (j,l)):bL s UU F w=Z (j,i2 U5 l Vi):=by
 unfold bL;rw[a];show (if U5.length=s then _ else _)=_;rw[aK b];show (eB U5 UR).bind _=_;rw[c];show (UU H).map _=_;rw[d];rfl
def vu{Vw:List ag->Option ag}(a:F w=Z (U5,UR))(b:gw UR U5=Z H)(c:Vw H=Z r):cH Vw F w=Z (r,UR):=by
 unfold cH;rw[a];show (gw UR U5).bind _=_;rw[b];show (Vw H).map _=_;rw[c];rfl
variable{d:Bool}
def qI{F:ay ag}(c:F w=Z (.im<|.aE d,UR)):b1 F w=Z (d,UR):=by unfold b1;rw[c];rfl
def Kr{F:ay Bool}(c:F w=Z (d,UR)):hB F w=Z (!d,UR):=by unfold hB;rw[c];rfl
def Jq{F:ay bJ}(c:F w=Z (f,UR))(a:d7 UR f=Z r)(b:qn r=Z d):gX F w=Z (d,UR):=by
 unfold gX;rw[c];show (d7 UR f).bind _=_;rw[a];show (qn r).map _=_;rw[b];rfl
def i1{F:ay ag}{e:fh}(c:F w=Z (r,UR))(a:e r UR=Z Vi):eX F e w=Z (.bz,Vi):=by unfold eX;rw[c];show (e r UR).map _=_;rw[a];rfl
def n5{F:ay ag}(c:F w=Z (r,UR)):j_ F w=Z (.bz,UR):=by unfold j_;rw[c];rfl
variable{S:a4}
def pD{ty:ag->Bool}{a:Nat}{cj:ag->List ag->Option (ag×ag)}{b o j c:ag}(d:w[a]?=Z (Z b))(e:ty b=X)(f:F w=Z (U5,UR))(g:eB U5 UR=Z (H,Vi))(h:Vi[a]?=Z (Z o))(i:cj o H=Z (j,c))(q:Vi.set a (Z c)=S):iy ty a cj F w=Z (j,S):=by
 subst q;unfold iy;rw[d];show (if ty b=X then _ else _)=_;rw[aK e,f];show (eB U5 UR).bind _=_;rw[g];show (match Vi[a]? with|some (Z o)=>_|_=>Y)=_;rw[h];show (cj o H).map _=_;rw[i];rfl
def sd(a:F w=Z (U5,UR))(b:eB U5 UR=Z (H,Vi))(c:H.length<=100000)(q:ra H=r):cV F w=Z (r,Vi):=by
 unfold cV;rw[a];show (eB U5 UR).bind _=_;rw[b];show (if _ then _ else _)=_;rw[aK c,q]
def sa(a:F w=Z (U5,UR))(b:eB U5 UR=Z (H,Vi))(c:H.length<=100000)(q:sg H=r):f_ F w=Z (r,Vi):=by
 unfold f_;rw[a];show (eB U5 UR).bind _=_;rw[b];show (if _ then _ else _)=_;rw[aK c,q]
variable{a:Int}
def P1{F:ay ag}(c:F w=Z (.im<|.int a,UR)):k9 F w=Z (.im<|.int<|-a,UR):=by unfold k9;rw[c];rfl
def zv{f:List V}{r:V}(e:f.length<100000):kb (.lst f) [.im r]=Z (.im .aS,.lst<|f++[r]):=aK e
def u5(a i:Int):e3 (.im<|.int a) (.im<|.int i)=Z (.im<|.aE<|decide (a=i)):=by
 show Z (ag.im<|.aE<|a==i)=_;by_cases e:a=i<;>simp[e]
def GU(a i:Int):jd (.im<|.int a) (.im<|.int i)=Z (.im<|.aE<|!decide (a=i)):=by
 show Z (ag.im<|.aE<|!(a==i))=_;by_cases e:a=i<;>simp[e]
variable{i:Int}
def js(e:hn a i=X):es (.im<|.int a) (.im<|.int i)=Z (.im<|.int<|a*i):=aK e
def mj(e:0<i):fU (.im<|.int a) (.im<|.int i)=Z (.im<|.int<|a%i):=aK (dQ e)
def xE(e:0<i)(B:i<1073741824):nd (.im<|.int a) (.im<|.int i)=Z (.im<|.int<|a/i):=aK (dQ (⟨e,B⟩:0<i/\i<1073741824))
def I_(e:decide (0<=i/\i<=1000000/\a.natAbs<2^64)=X):mr (.im<|.int a) (.im<|.int i)=Z (.im<|.int<|a^i.toNat):=aK e
variable{j:Option (gA×a4)}{d:bO}{o:ay Bool}
theorem j4{g:bO}(c:o w=Z (X,UR))(e:g UR=j):dP o g d w=j:=(A6 c).trans e
theorem gp{g:bO}(c:o w=Z (av,UR))(e:d UR=j):dP o g d w=j:=(AU c).trans e
theorem bM{F e:bO}(c:F w=Z (.bz,UR))(q:e UR=j):bE F e w=j:=(ox c).trans q
variable{a:Nat}
theorem m4{F:ay ag}(c:F w=Z (r,UR))(e:a<UR.length)(q:UR.set a (Z r)=Vi):cD a F w=Z (.bz,Vi):=(BA c e).trans (by rw[q])
variable{E:List V}{Ve:fh}{n:Option (Nat×ag)}
theorem jO{F:iP}{aT:gA}(c:F w=Z ((E,n),UR))(e:en Ve d E UR=Z (aT,Vi))(q:lI n Vi=S):g8 F Ve d w=Z (aT,S):=(Sa c e).trans (by rw[q])
theorem hv{own:Nat}{Vh:List Nat}{C:iP}{c:ay ag}{a:a4}{H:List V}(y:C w=Z ((E,n),UR))(B:fk own Ve o c E [] (kj Vh UR)=Z (H,a))(q:lI n (iX Vh a UR)=S):dh own Vh C Ve o c w=Z (.lst H,S):=(Ra y B).trans (by rw[q])
variable{j:Option (Bool×a4)}{d g:ay Bool}
def nc(c:g w=Z (av,UR))(e:d UR=j):iO g d w=j:=by unfold iO;rw[c];exact e
def o5(c:g w=Z (X,UR))(e:d UR=j):gf g d w=j:=by unfold gf;rw[c];exact e
def wA(c:g w=Z (av,UR)):gf g d w=Z (av,UR):=by unfold gf;rw[c];rfl
variable{j:Option (ag×a4)}{d g:ay ag}
def Mc(c:o w=Z (X,UR))(e:g UR=j):pe o g d w=j:=by unfold pe;rw[c];exact e
def R9(c:o w=Z (av,UR))(e:d UR=j):pe o g d w=j:=by unfold pe;rw[c];exact e
def D2{i:Nat}(b:F w=Z (U5,UR))(c:eB U5 UR=Z ([Vz,Vy],Vi))(UN:a<Vi.length)(d:i<Vi.length)(q:(Vi.set a<|Z Vz).set i (Z Vy)=S):oH a i F w=Z (.bz,S):=by
 unfold oH;rw[b];show (eB U5 UR).bind _=_;rw[c];show (if a<Vi.length/\i<Vi.length then _ else _)=_;rw[aK ⟨UN,d⟩,q]
def KL{F:ay Bool}{d:Bool}(c:F w=Z (d,UR)):ij F w=Z (.im<|.aE d,UR):=by unfold ij;rw[c];rfl
variable{j:ag}
def eb{UU:dA}(a:F w=Z (U5,UR))(b:U5.length=s)(c:eB U5 UR=Z (H,Vi))(d:UU H=Z (j,l))(q:i2 U5 l Vi=S):bL s UU F w=Z (j,S):=by rw[<-q];exact gQ a b c d
def p_{F:ay Bool}(c:F w=Z (X,UR)):hB F w=Z (av,UR):=Kr c
def Px{F:ay ag}(c:F w=Z (r,UR)):wD F w=Z (tA r,UR):=by unfold wD;rw[c];rfl
def Nm{F:ay ag}(c:F w=Z (r,UR)):ry F w=Z (ts r,UR):=by unfold ry;rw[c];rfl
def rm(a:F w=Z (U5,UR))(b:gw UR U5=Z [.im (.int i)])(e:pU i):ha F w=Z ((hA 0 i.toNat,Y),UR):=by
 unfold ha;rw[a];show (gw UR U5).bind _=_;rw[b];show (if pU i then _ else _)=_;rw[aK e]
def fG{t:Nat}{Vg:List Nat}{F:bO}(a:H.length=s)(c:F (H.map Z++List.replicate (t-s) Y)=Z (.a5 j,w))(b:ia Vg H w 0=l):dF s t Vg F H=Z (j,l):=qk w a c b
end
section
variable{w UR:a4}
variable{r:ag}
def bg{F:ay ag}(e:F w=Z (r,w)):ae F w=Z (.dv r,w):=c3 e
variable{f:bJ}
def b_{F:ay bJ}{e:ay (List bJ)}{E:List bJ}(a:F w=Z (f,w))(b:e w=Z (E,w)):aq F e w=Z (f::E,w):=ff a b
variable{Vw:ag->ag->Option ag}{M VH:ay bJ}{x:bJ}{Vz Vy:ag}
def cg(a:M w=Z (f,w))(b:VH w=Z (x,w))(c:d7 w f=Z Vz)(d:d7 w x=Z Vy)(e:Vw Vz Vy=Z r):aD Vw M VH w=Z (r,w):=e6 a b c d e
def eo(a:Vw Vz Vy=Z r)(b:M w=Z (f,w):=by rfl)(c:VH w=Z (x,w):=by rfl)(d:d7 w f=Z Vz:=by rfl)(e:d7 w x=Z Vy:=by rfl):aD Vw M VH w=Z (r,w):=e6 b c d e a
variable{F:ay (List bJ)}{U5:List bJ}{H:List ag}
def d5{Vw:List ag->Option ag}(a:F w=Z (U5,w))(b:gw w U5=Z H)(c:Vw H=Z r):cH Vw F w=Z (r,w):=vu a b c
variable{d:Bool}
def eG{F:ay ag}(c:F w=Z (.im<|.aE d,w)):b1 F w=Z (d,w):=qI c
def oJ{F:ay bJ}(c:F w=Z (f,w))(a:d7 w f=Z r)(b:qn r=Z d):gX F w=Z (d,w):=Jq c a b
def qD(a:F w=Z (U5,w))(b:eB U5 w=Z (H,w))(c:H.length<=100000)(q:ra H=r):cV F w=Z (r,w):=sd a b c q
def Fe(a:F w=Z (U5,w))(b:eB U5 w=Z (H,w))(c:H.length<=100000)(q:sg H=r):f_ F w=Z (r,w):=sa a b c q
def i9{a:Nat}{F:ay ag}(c:F w=Z (r,w))(e:a<w.length)(q:w.set a (Z r)=UR):cD a F w=Z (.bz,UR):=m4 c e q
end
end L2
namespace G
open L2
def f5{s t:Nat}(e:Nat.ble (s+1) t=X):s<t:=fR e
def qu{Ve:fh}{d:bO}{f:V}{E:List V}{w UR Vi:a4}{j:Option (gA×a4)}(a:Ve (.im f) w=Z UR)(b:d UR=Z (.bz,Vi))(q:en Ve d E Vi=j):en Ve d (f::E) w=j:=by
 rw[en];show (Ve (.im f) w).bind _=_;rw[a];show (d UR).bind _=_;rw[b];exact q
abbrev a0:=Int×Int
inductive ur (U:List a0) (m:a0):a0->Prop
 | self:ur U m m
 | step {g d:a0}:ur U m g->d∈U->d∈HU g->ur U m d
def qZ(U:List a0):Prop:=(U.Pairwise λg d=>bp (aH g) (aH d)=X)
def D6{M:List a0}(aj:M.Nodup)(a:M.length<=1000):∃U:List a0,km (M.map aH)=Z (cn U)/\U.Perm M/\qZ U:=by
 have n:=Hb aj a;let⟨U,y,B⟩:=Tf (jy<|M.map aH);refine⟨U,?_,y,?_⟩
 ·unfold km;rw[aK (n3.mpr n),B]
 ·have:=q5 n.ord.aj n.ord.hL;rw[B]at this;exact nU.mp this
end G
namespace L2
open Spec PyProof.Rows
variable{F We VT VU U9 s a t:Nat}{Vj bQ:Array ab}{I VL UM l g:ah}{UT:List V->ah->Prop}{D:bc}{Vo n:aX}{VS f:ab}{S e:aZ}{M:List (List V)}{A:Option ab->ai->Prop}{m:ai}{T:Array (Int×ab)}{U1:List Nat}{Vc:Array (Option Nat)}{VR U_:Type}{q:List V}{b:Bool}{C:aV}{E:Array Nat}
abbrev hN(E:Array Nat):Prop:=E.toList.Pairwise (· < ·)
def rp(j:hN E){a q:Nat}{r:Nat}(e:a<q)(d:q<E.size):E.getD a r<E.getD q r:=by
 have UN:a<E.size:=ql e d;have c:∀t (b:t<E.size),E.getD t r=E.toList[t]'⇑b:=λt b=>by simp[Array.getD,b]
 rw[c a UN,c q d];exact oc.mp j a q _ _ e
theorem zx(E:Array Nat)(j:hN E)(i:Nat):∀(fuel UJ UN:Nat),UN-UJ<=fuel->UJ<=UN->UN<=E.size->(∀a,a<UJ->E.getD a i<i)->(∀a,UN<=a->a<E.size->i<=E.getD a i)->
  (aV.below.go E i fuel UJ UN<=E.size/\(∀a,a<aV.below.go E i fuel UJ UN->E.getD a i<i)/\∀a,aV.below.go E i fuel UJ UN<=a->a<E.size->i<=E.getD a i)
 |0,UJ,UN,y,B,f,g,d=>by
  have c:UJ=UN:=⋯
  subst c;exact⟨f,g,d⟩
 |fuel+1,UJ,UN,y,B,f,g,d=>by
  unfold aV.below.go;by_cases e:UJ<UN
  ·rw[aK e];dsimp only;by_cases b:E.getD ((UJ+UN)/2) i<i
   ·rw[aK b];refine zx E j i fuel _ _ ⋯ ⋯ f (λa h=>?_) d;rcases gd a ((UJ+UN)/2) with S|S
    ·exact ql (rp j S ⋯) b
    ·have:a=(UJ+UN)/2:=⋯
     rw[this];exact b
   ·rw[aL b];refine zx E j i fuel _ _ ⋯ ⋯ ⋯ g (λa h k=>?_);rcases gd ((UJ+UN)/2) a with S|S
    ·exact l5 (uq (pw.mp b)<|rp j S k)
    ·have:a=(UJ+UN)/2:=⋯
     rw[this];exact pw.mp b
  ·rw[aL e];have c:UJ=UN:=⋯
   subst c;exact⟨f,g,d⟩
def vM(j:hN E)(i:Nat):aV.below E i<=E.size/\(∀a,a<aV.below E i->E.getD a i<i)/\∀a,aV.below E i<=a->a<E.size->i<=E.getD a i:=
 zx E j i E.size 0 E.size ⋯ ⋯ ⋯ (λa e=>absurd e<|lO _) λa e S=>absurd S ⋯
def AE(j:hN E){a i:Nat}(e:E[a]?=Z i):aV.below E i=a:=by
 let@⟨g,d,o⟩:=vM j i;let⟨@UN,c⟩:=oN.mp e;have b:E.getD a i=i:=by simp[Array.getD,UN,c]
 rcases q_ (aV.below E i) a with y|y|y
 ·have B:=o _ (bb _) (ql y UN);have f:=rp j (r:=i) y UN;omega
 ·exact y
 ·have:=d a y;omega
def Og(j:hN E){a i:Nat}(e:E[a]?=Z i):aV.below E (i+1)=a+1:=by
 let@⟨g,d,o⟩:=vM j (i+1);let⟨@UN,c⟩:=oN.mp e;have b:E.getD a (i+1)=i:=by simp[Array.getD,UN,c]
 rcases q_ (aV.below E<|i+1) (a+1) with y|y|y
 ·have:=o a ⋯ UN;lia
 ·exact y
 ·have B:=d (a+1) y;have f:=rp j (r:=i+1) (oL a) ⋯;lia
def Jr(j:hN E):aV.below E 0=0:=by
 let@⟨g,d,o⟩:=vM j 0;rcases BY (aV.below E 0) with e|e
 ·exact e
 ·exact absurd (d 0 e) (lO _)
def SW(j:hN E){i:Nat}(e:¬ (E[aV.below E i]?=Z i)):hN (aV.insertAt E (aV.below E i) i):=by
 let@⟨g,d,o⟩:=vM j i;unfold hN;rw[CY];refine vj.mpr ⟨ID (rE _ _) j,gj.mpr ⟨λx a=>?_,ID (wH _ _) j⟩,λf l x a=>?_⟩
 ·let⟨q,b,rfl⟩:=p2.mp a;rw[pv];have ar:aV.below E i+q<E.size:=by simp at b;lia
  have y:=o (aV.below E i+q) (mQ _ _) ar;have c:E.getD (aV.below E i+q) i=E.toList[aV.below E i+q]:=by simp[Array.getD,ar]
  rw[c]at y;refine Nat.lt_of_le_of_ne y λh=>?_;rcases BY q with h0|h0
  ·subst h0;apply e;rw[oN];exact⟨⋯,by simpa using h.symm⟩
  ·have B:=rp j (r:=i) (B1 (n:=aV.below E i) h0) ar;have m:=o (aV.below E i) (bb _) ⋯;rw[c]at B;exact absurd h (cT<|uq m B)
 ·let⟨q,b,rfl⟩:=p2.mp l;rw[uy];have n:q<aV.below E i:=by simp at b;lia
  have ar:q<E.size:=⋯
  have y:=d q n;have c:E.getD q i=E.toList[q]:=by simp[Array.getD,ar]
  rw[c]at y;rcases b9.mp a with rfl|a
  ·exact y
  ·let⟨t,p,rfl⟩:=p2.mp a;rw[pv];have k:aV.below E i+t<E.size:=by simp at p;lia
   have B:=o (aV.below E i+t) (mQ _ _) k;have u:E.getD (aV.below E i+t) i=E.toList[aV.below E i+t]:=by simp[Array.getD,k]
   rw[u]at B;exact d6 y B
structure kR(C:aV)(led:Bool):Prop where
 rise:hN C.place
 qo:C.dummies=#[]
 led:C.led=led
def kR.Rg(e:kR C b)(d:Bool):kR {C with plain:=d} b:=⟨e.rise,e.qo,e.led⟩
def Im(i:Nat):aV.has #[] i=av:=rfl
def JD(hd:C.dummies=#[])(i:Nat):(∃a,C.slot i=.live a)\/(C.slot i=.empty/\¬ (C.place[aV.below C.place i]?=Z i)):=by
 unfold aV.slot;dsimp only;by_cases e:(C.place[aV.below C.place i]? == Z i)=X
 ·rw[aK e];exact .inl ⟨_,rfl⟩
 ·rw[aL e,hd,Im];exact .inr ⟨rfl,λc=>e (by rw[c];exact gT _)⟩
def kR.put(e:kR C b){i:Nat}(a:¬ (C.place[aV.below C.place i]?=Z i)):kR (C.put i).1 b:=by
 refine⟨SW e.rise a,?_,e.led⟩;show (if aV.has C.dummies i=X then _ else C.dummies)=#[];rw[e.qo,Im];rfl
def NL{j m o:Nat}{p:Bool}{ar:Array Int}{n:Array Nat}(c:aV.laid j m o b p ar=Z (C,n)):kR C b:=by
 unfold aV.laid at c;cases e:aV.layClean j ar with
 |none=>rw[e]at c;cases c
 |some Vc=>
  rw[e]at c;cases c;refine⟨?_,rfl,rfl⟩;show (List.map (λf:Nat×Nat=>f.1)<|List.filterMap (λi=>Option.map (λf=>(i,f))<|Vc.getD i Y)<|range<|j+1).Pairwise (· < ·);rw[FJ];refine T5 _ (R:=(· < ·)) (λg d q f a x h=>?_) List.pairwise_lt_range;cases k:Vc.getD g Y with
  |none=>rw[k]at a;cases a
  |some J=>
   cases l:Vc.getD d Y with
   |none=>rw[l]at h;cases h
   |some v=>
    rw[k]at a;rw[l]at h;cases a;cases h;exact q
def o1(t:Nat)(u:aV.Probe):aV.Probe:=(
 if u.more>0 then {u with j:=u.j+1,more:=u.more-1} else
 {u with j:=(aV.leap t u.i u.perturb).1,more:=aV.runEnd t (aV.leap t u.i u.perturb).1-(aV.leap t u.i u.perturb).1,i:=(aV.leap t u.i u.perturb).1,perturb:=(aV.leap t u.i u.perturb).2})
def qa(t a k:Nat):aV.Probe:=({j:=a,more:=aV.runEnd t a-a,i:=a,perturb:=k,dummy:=Y})
def cx(t:Nat)(e:Int):Nat->aV.Probe
 |0=>qa t (aV.bits e%(t+1)) (aV.bits e)
 |q+1=>o1 t (cx t e q)
def c7(t:Nat)(e:Int):Nat->Nat×Nat
 |0=>(aV.bits e%(t+1),aV.bits e)
 |p+1=>aV.leap t (c7 t e p).1 (c7 t e p).2
theorem w3(t:Nat)(e:Int):∀q,(cx t e q).dummy=Y
 |0=>rfl
 |q+1=>by
  rw[cx,o1];split
  ·exact w3 t e q
  ·exact w3 t e q
def MX(t a:Nat):aV.runEnd t a-a<=9:=by
 unfold aV.runEnd;split<;>lia
theorem qF{t:Nat}{e:Int}{q a k:Nat}(c:cx t e q=qa t a k):∀j,j<=aV.runEnd t a-a->cx t e (q+j)={qa t a k with j:=a+j,more:=aV.runEnd t a-a-j}
 |0,_=>c
 |j+1,UQ=>by
  show o1 t (cx t e<|q+j)=_;rw[qF c j ⋯,o1,aK (show aV.runEnd t a-a-j>0 by lia)];rfl
def RW{e:Int}{q k:Nat}(c:cx t e q=qa t a k):cx t e (q+(aV.runEnd t a-a)+1)=qa t (aV.leap t a k).1 (aV.leap t a k).2:=by
 show o1 t (cx t e<|q+(aV.runEnd t a-a))=_;rw[qF c _ (bb _),o1,aL (show ¬ (aV.runEnd t a-a-(aV.runEnd t a-a)>0) by lia)];rfl
def fj(t:Nat)(e:Int):Nat->Nat
 |0=>0
 |p+1=>fj t e p+(aV.runEnd t (c7 t e p).1-(c7 t e p).1)+1
theorem qb(t:Nat)(e:Int):∀p,cx t e (fj t e p)=qa t (c7 t e p).1 (c7 t e p).2
 |0=>rfl
 |p+1=>RW (qb t e p)
theorem GV(t:Nat)(e:Int):∀p,fj t e p<=10*p
 |0=>bb _
 |p+1=>by
  have:=GV t e p;have:=MX t (c7 t e p).1;show fj t e p+_+1<=_;lia
theorem CA(t:Nat)(e:Int):∀q,∃p j,q=fj t e p+j/\j<=aV.runEnd t (c7 t e p).1-(c7 t e p).1
 |0=>⟨0,0,rfl,gk _⟩
 |q+1=>by
  let⟨p,@j,c,UQ⟩:=CA t e q;by_cases k:j+1<=aV.runEnd t (c7 t e p).1-(c7 t e p).1
  ·exact⟨p,j+1,⋯,k⟩
  ·exact⟨p+1,0,by show _=fj t e p+_+1+0;lia,gk _⟩
def iU(t:Nat):Nat->Nat->Nat
 |0,f=>f
 |q+1,f=>(iU t q f*5+1)%(t+1)
theorem sX(t:Nat)(g f:Nat):∀d,iU t (g+d) f=iU t d (iU t g f)
 |0=>rfl
 |d+1=>by
  show (iU t (g+d) f*5+1)%(t+1)=_;rw[sX t g f d];rfl
def t5(t:Nat):Nat->Nat->Nat->Nat
 |0,_,Vv=>Vv
 |q+1,f,Vv=>t5 t q ((f*5+1)%(t+1)) (Vv ||| 2^f)
def SJ(t q f:Nat):iU t q ((f*5+1)%(t+1))=iU t (q+1) f:=by
 rw[EN q 1,sX];rfl
theorem Gm{t:Nat}:∀{s f x Vv:Nat},(t5 t s f Vv).testBit x=X->Vv.testBit x=X\/∃q,q<s/\iU t q f=x
 |0,_,_,_,e=>.inl e
 |s+1,f,x,Vv,e=>by
  rcases Gm (s:=s) e with e|⟨q,y,B⟩
  ·rw[Nat.testBit_or,ui]at e;rcases e with e|e
   ·exact .inl e
   ·rw[Nat.testBit_two_pow,je]at e;exact .inr ⟨0,rr _,e⟩
  ·exact .inr ⟨q+1,Nat.succ_lt_succ y,by rw[<-SJ];exact B⟩
def yg(t:Nat):Bool:=(Nat.beq (t5 t (t+1) 0 0) (2^(t+1)-1)&&Nat.beq (iU t (t+1) 0) 0)
def S7(o:yg t=X){g f:Nat}(b:g<=t)(c:f<=t):∃q,q<=t/\iU t q g=f:=by
 rw[yg,cS]at o;have k:=Hm o.2;have all:∀x,x<=t->∃q,q<t+1/\iU t q 0=x:=λx d=>by
  have p:(t5 t (t+1) 0 0).testBit x=X:=by
   rw[Hm o.1,Nat.testBit_two_pow_sub_one];exact dQ (Hd d)
  rcases Gm p with e|e
  ·rw[Nat.zero_testBit]at e;cases e
  ·exact e
 let⟨@a,y,rfl⟩:=all g b;let⟨@dq,B,rfl⟩:=all f c;rcases gd dq a with e|e
 ·refine⟨dq+(t+1-a),by omega,?_⟩;rw[<-sX,show a+(dq+(t+1-a))=(t+1)+dq by omega,sX,k]
 ·refine⟨dq-a,by omega,?_⟩;rw[<-sX,show a+(dq-a)=dq by omega]
def ix(t:Nat):Prop:=(t=7\/t=31\/t=127\/t=511)
def ix.LH(F:ix t):yg t=X:=by
 rcases F with rfl|rfl|rfl|rfl<;>decide +kernel
def Ov(e:Int):aV.bits e<2^64:=by
 unfold aV.bits;have y:=n_ e (show (2^64:Int)≠0 by decide);have B:=pj e (show (0:Int)<2^64 by decide);lia
theorem Cx(t:Nat)(e:Int):∀p,(c7 t e p).2=aV.bits e/32^p
 |0=>by rw[Nat.pow_zero,Nat.div_one];rfl
 |p+1=>by
  show (c7 t e p).2/32=_;rw[Cx t e p,Nat.div_div_eq_div_mul];rfl
theorem yF(t:Nat)(e:Int):∀p,(c7 t e p).1<=t
 |0=>sD (v9 _<|rr _)
 |p+1=>sD (v9 _<|rr _)
theorem DK(t:Nat)(e:Int):∀q,c7 t e (13+q)=(iU t q (c7 t e 13).1,0)
 |0=>by
  have c:(c7 t e 13).2=0:=by
   rw[Cx];exact Nat.div_eq_of_lt (ql (Ov e) ∅)
  show c7 t e 13=((c7 t e 13).1,0);rw[<-c]
 |q+1=>by
  show aV.leap t (c7 t e<|13+q).1 (c7 t e<|13+q).2=_;rw[DK t e q];show ((iU t q (c7 t e 13).1*5+1+0/32)%(t+1),0/32)=_;rw[Nat.zero_div,Fc];rfl
def E_(F:ix t)(e:Int){f:Nat}(a:f<=t):∃p,p+1<aV.turns t/\(c7 t e p).1=f:=by
 let⟨@q,y,B⟩:=S7 F.LH (yF t e 13) a;exact⟨13+q,by unfold aV.turns;lia,by rw[DK];exact B⟩
def Sj(F:ix t)(e:Int){f:Nat}(a:f<=t):∃q,q<10*aV.turns t/\(cx t e q).j=f:=by
 let⟨@p,y,B⟩:=E_ F e a;refine⟨fj t e p,by have:=GV t e p;lia,?_⟩;rw[qb];exact B
def ET(e:a<=t):aV.runEnd t a<=t:=by unfold aV.runEnd;split<;>omega
def IZ(t:Nat)(e:Int)(q:Nat):(cx t e q).j<=t:=by
 let⟨p,@j,rfl,UQ⟩:=CA t e q;rw[qF (qb t e p) j UQ];have:=ET (yF t e p);have c:aV.runEnd t (c7 t e p).1 >= (c7 t e p).1:=by unfold aV.runEnd;split<;>lia
 show (c7 t e p).1+j<=t;lia
theorem yY{U_:Type}[DecidableEq U_]:∀{I t:List U_},I.Nodup->(∀f∈I,f∈t)->I.length<=t.length
 |[],t,_,_=>gk _
 |g::I,t,aj,e=>by
  have a:=gC.mp aj;have p:=yY (I:=I) (t:=t.erase g) a.2 λf b=>(List.mem_erase_of_ne (λc:f=g=>a.1<|c ▸ b)).mpr (e f<|.tail _ b);have d:=e g (.head _);rw[List.length_erase_of_mem d]at p;have:=List.length_pos_of_mem d;rw[dz];lia
def lW(t:Nat)(iI:Nat->Prop)(e:Int)(i:Nat):Prop:=(∃q,(cx t e q).j=i/\∀a,a<q->iI (cx t e a).j)
def lW.mono{iI b:Nat->Prop}{e:Int}{i:Nat}(j:lW t iI e i)(a:∀f,iI f->b f):lW t b e i:=let ⟨q,c,g⟩:=j;⟨q,c,λd k=>a _<|g d k⟩
structure qK(C:aV)(ar:List Int):Prop where
 mJ:ix C.mask
 len:C.place.size=ar.length
 loose:C.place.size*5<C.mask*3
 le:∀i∈C.place.toList,i<=C.mask
 nN:∀u∈C.place.toList.zip ar,lW C.mask (·∈C.place.toList) u.2 u.1
def ix.pos(F:ix t):7<=t/\t<=511/\t%2=1:=by rcases F with rfl|rfl|rfl|rfl<;>decide
def Oa(j:hN C.place){i:Nat}(e:i∈C.place.toList):∃a,C.slot i=.live a/\C.place[a]?=Z i:=by
 let⟨a,UN,c⟩:=p2.mp e;have b:C.place[a]?=Z i:=by
  rw[<-eA,dy UN,c]
 refine⟨a,?_,b⟩;unfold aV.slot;dsimp only;rw[AE j b,b,aK<|gT _]
def Qi(hd:C.dummies=#[]){i:Nat}(e:i∉C.place.toList):C.slot i=.empty:=by
 rcases JD hd i with ⟨a,c⟩|⟨c,_⟩
 ·unfold aV.slot at c;dsimp only at c;split at c
  ·next p=>
   have b:=eq_of_beq p;refine absurd ?_ e;rw[<-eA]at b;exact gF b
  ·split at c<;>cases c
 ·exact c
def qK.some{ar:List Int}(h:qK C ar)(e:Int):∃q,q<10*aV.turns C.mask/\(cx C.mask e q).j∉C.place.toList:=by
 have:∃f,f<=C.mask/\f∉C.place.toList:=by
  refine uQ λo=>?_;have p:=yY (I:=range (C.mask+1)) (t:=C.place.toList) nr λf a=>uQ λk=>o ⟨f,sD<|eT.mp a,k⟩;rw[fM,dk]at p;have:=h.loose;lia
 let⟨@f,y,B⟩:=this;let⟨@q,Vf,Vt⟩:=Sj h.mJ e y;exact⟨q,Vf,by rw[Vt];exact B⟩
theorem Fj{C:aV}(j:hN C.place)(hd:C.dummies = #[])(f:Nat -> Int)(e:Int): ∀(fuel b:Nat),(∃q,b <= q /\ q<b+fuel /\ (cx C.mask e q).j ∉ C.place.toList) ->
    ∃Vf,b <= Vf /\ (∀q,b <= q -> q<Vf -> ∃a,C.place[a]? = Z (cx C.mask e q).j /\ f a ≠ e) /\
      ((aV.probe.go C f e fuel (cx C.mask e b)=Z (.empty (cx C.mask e Vf).j Y) /\ (cx C.mask e Vf).j ∉ C.place.toList) \/
        ∃a,aV.probe.go C f e fuel (cx C.mask e b)=Z (.candidate (cx C.mask e Vf).j a<|cx C.mask e<|Vf+1) /\ C.slot (cx C.mask e Vf).j=.live a /\ C.place[a]? = Z (cx C.mask e Vf).j /\ f a=e)
  |0,b,⟨q,g,d,_⟩ => absurd g ⋯
  |fuel+1,b,⟨q,g,d,o⟩ => by
    by_cases k:(cx C.mask e b).j ∈ C.place.toList
    · let⟨@a,h,l⟩:=Oa j k
      by_cases p:f a=e
      · refine ⟨b,bb _,λq y B => absurd y ⋯,.inr ⟨a, ?_,h,l,p⟩⟩
        unfold aV.probe.go;rw [h];dsimp only;rw [aK (by rw [p]; exact gT _)];rfl
      · have ne:q ≠ b:=λc => o (c ▸ k)
        let⟨@Vf,y,B,m⟩:=Fj j hd f e fuel (b+1) ⟨q,⋯,⋯,o⟩;have c:aV.probe.go C f e (fuel+1) (cx C.mask e b)=aV.probe.go C f e fuel (cx C.mask e<|b+1):=by
          rw [aV.probe.go,h];dsimp only;rw [aL (by rw [m5]; exact p)];rfl
        refine ⟨Vf,⋯,λq r n => ?_,by rw [c]; exact m⟩;rcases gd b q with F|F
        · exact B q F n
        · rw [show q=b by lia]; exact ⟨a,l,p⟩
    · refine ⟨b,bb _,λq y B => absurd y ⋯,.inl ⟨?_,k⟩⟩
      unfold aV.probe.go;rw [Qi hd k];dsimp only;rw [w3]
def w9(E:Array U_)(u:Nat)(f:U_):(aV.insertAt E u f).toList=E.toList.take u++f::E.toList.drop u:=CY E u f
def rF{I:List U_}{u:Nat}{f x:U_}:x∈I.take u++f::I.drop u↔x=f\/x∈I:=by
 constructor
 ·intro e;rcases ed.mp e with e|e
  ·exact .inr (n0 e)
  ·rcases b9.mp e with e|e
   ·exact .inl e
   ·exact .inr (mU e)
 ·rintro (rfl|e)
  ·exact dT _ (.head _)
  ·rw[<-fq u I]at e;rcases ed.mp e with e|e
   ·exact fl _ e
   ·exact dT _ (.tail _ e)
def Se{g:List U_}{d:List VR}(b:g.length=d.length)(u:Nat)(f:U_)(x:VR):(g.take u++f::g.drop u).zip (d.take u++x::d.drop u)=(g.zip d).take u++(f,x)::(g.zip d).drop u:=by
 rw[DL (by rw[g_,g_,b]),Aw];have c:∀(u:Nat) (g:List U_) (d:List VR),(g.take u).zip (d.take u)=(g.zip d).take u:=λu=>by
  induction u with
  |zero=>intro g d;rfl
  |succ u a=>intro g d;cases g with
   |nil=>rfl
   |cons f g=>cases d with
    |nil=>rfl
    |cons x d=>exact congrArg ((f,x)::·) (a g d)
 have e:∀(u:Nat) (g:List U_) (d:List VR),(g.drop u).zip (d.drop u)=(g.zip d).drop u:=λu=>by
  induction u with
  |zero=>intro g d;rfl
  |succ u a=>intro g d;cases g with
   |nil=>rfl
   |cons f g=>cases d with
    |nil=>show (g.drop u).zip []=_;rw[Gv];rfl
    |cons x d=>exact a g d
 rw[c,e]
def qK.put{ar:List Int}(h:qK C ar){e:Int}{q:Nat}(m:(cx C.mask e q).j∉C.place.toList)(g:∀a,a<q->(cx C.mask e a).j∈C.place.toList):
  (∀i∈(C.put (cx C.mask e q).j).1.place.toList,i<=C.mask)/\∀u∈(C.put (cx C.mask e q).j).1.place.toList.zip (ar.take (C.put (cx C.mask e q).j).2++e::ar.drop (C.put (cx C.mask e q).j).2),lW C.mask (·∈(C.put (cx C.mask e q).j).1.place.toList) u.2 u.1:=by
 have c:(C.put (cx C.mask e q).j).1.place.toList=C.place.toList.take (C.put (cx C.mask e q).j).2++(cx C.mask e q).j::C.place.toList.drop (C.put (cx C.mask e q).j).2:=w9 _ _ _;rw[c];refine⟨λi d=>?_,λu b=>?_⟩
 ·rcases rF.mp d with rfl|d
  ·exact IZ _ _ _
  ·exact h.le i d
 ·rw[Se (by rw[dk];exact h.len)]at b;rcases rF.mp b with rfl|b
  ·exact⟨q,rfl,λa k=>rF.mpr<|.inr<|g a k⟩
  ·exact (h.nN u b).mono λf l=>rF.mpr (.inr l)
def lK(Vc:Array (Option Nat))(i:Nat):Prop:=((Vc.getD i<|Z 0).isSome=X)
theorem Io{t:Nat}(Vc:Array (Option Nat))(e:Int):∀(fuel p:Nat),(∀a,a<fj t e p->lK Vc (cx t e a).j)->(∃b,p<=b/\b<p+fuel/\¬ lK Vc (c7 t e b).1)->
  ∃i,aV.layClean.free t Vc fuel (c7 t e p).1 (c7 t e p).2=Z i/\i<=t/\¬ lK Vc i/\lW t (lK Vc) e i
 |0,p,_,⟨b,g,d,_⟩=>absurd g ⋯
 |fuel+1,p,f,⟨b,g,d,o⟩=>by
  unfold aV.layClean.free;have le:aV.runEnd t (c7 t e p).1<=t:=ET (yF t e p);have Wd:(c7 t e p).1<=aV.runEnd t (c7 t e p).1:=by unfold aV.runEnd;split<;>lia
  cases h:(range<|aV.runEnd t (c7 t e p).1+1-(c7 t e p).1).find? (λq=>(Vc.getD ((c7 t e p).1+q)<|Z 0).isNone) with
  |some q=>
   dsimp only;rw[List.find?_range_eq_some]at h;let@⟨y,B,m⟩:=h;have n:q<aV.runEnd t (c7 t e p).1+1-(c7 t e p).1:=eT.mp B;refine⟨_,rfl,⋯,?_,fj t e p+q,?_,λa l=>?_⟩
   ·unfold lK;intro k;rw[Option.isNone_iff_eq_none]at y;rw[y]at k;cases k
   ·rw[qF (qb t e p) q ⋯]
   ·rcases gd a (fj t e p) with k|k
    ·exact f a k
    ·have c:a=fj t e p+(a-fj t e p):=⋯
     rw[c,qF (qb t e p) (a-fj t e p) ⋯];have:=m (a-fj t e p) ⋯;show (Vc.getD ((c7 t e p).1+(a-fj t e p))<|Z 0).isSome=X;cases D:Vc.getD ((c7 t e p).1+(a-fj t e p)) (Z 0) with
     |none=>rw[D]at this;cases this
     |some _=>rfl
  |none=>
   dsimp only;rw[List.find?_range_eq_none]at h;have iI:∀q,q<aV.runEnd t (c7 t e p).1+1-(c7 t e p).1->lK Vc ((c7 t e p).1+q):=λq f=>by
    have:=h q f;unfold lK;cases D:Vc.getD ((c7 t e p).1+q) (Z 0) with
    |none=>rw[D]at this;cases this
    |some _=>rfl
   have ne:b≠p:=λc=>o (by rw[c];exact iI 0 ⋯);refine Io Vc e fuel (p+1) (λa l=>?_) ⟨b,⋯,⋯,o⟩;rcases gd a (fj t e p) with k|k
   ·exact f a k
   ·have r:a<fj t e p+(aV.runEnd t (c7 t e p).1-(c7 t e p).1)+1:=l;have c:a=fj t e p+(a-fj t e p):=⋯
    rw[c,qF (qb t e p) (a-fj t e p) ⋯];exact iI _ ⋯
structure lG(t:Nat)(Vc:Array (Option Nat))(U1:List Nat)(ar:List Int):Prop where
 size:Vc.size=t+1
 len:U1.length=ar.length
 aj:U1.Nodup
 le:∀i∈U1,i<=t
 own:∀(i q:Nat),Vc[i]?=Z (Z q)↔U1[q]?=Z i
 nN:∀u∈U1.zip ar,lW t (·∈U1) u.2 u.1
def lG.iI{ar:List Int}(l:lG t Vc U1 ar){i:Nat}(d:i<=t):lK Vc i↔i∈U1:=by
 have b:i<Vc.size:=by rw[l.size];lia
 unfold lK;rw[show Vc.getD i (Z 0)=Vc[i] by simp[Array.getD,b]];have c:Vc[i]?=Z Vc[i]:=iS b;constructor
 ·intro k;let⟨@q,a⟩:=rH.mp k;rw[a]at c;exact gF ((l.own i q).mp c)
 ·intro k;let⟨@q,a⟩:=vp k;have:=(l.own i q).mpr a;rw[c]at this;rw[Option.some.inj this];rfl
def lG.step(F:ix t){Vc:Array (Option Nat)}{U1:List Nat}{ar:List Int}(l:lG t Vc U1 ar)(E:ar.length<=t)(e:Int):
  ∃i,aV.layClean.free t Vc (aV.turns t) (aV.bits e%(t+1)) (aV.bits e)=Z i/\lG t (Vc.setIfInBounds i<|Z ar.length) (U1++[i]) (ar++[e]):=by
 have room:∃f,f<=t/\f∉U1:=by
  refine uQ λo=>?_;have p:=yY (I:=range (t+1)) (t:=U1) nr λf h=>uQ λk=>o ⟨f,sD<|eT.mp h,k⟩;rw[fM,l.len]at p;lia
 let⟨@f,m,w⟩:=room;let⟨@p,G,x⟩:=E_ F e m;let⟨@i,y,n,z,A⟩:=Io (t:=t) Vc e (aV.turns t) 0 (λr j=>absurd j<|lO _) ⟨p,gk _,⋯,by rw[x];exact λk=>w<|(l.iI m).mp k⟩;have s:i∉U1:=λk=>z ((l.iI n).mpr k);have B:i<Vc.size:=by rw[l.size];lia
 refine⟨i,y,by rw[Array.size_setIfInBounds,l.size],by rw[dW,dW,l.len];rfl,?_,?_,λv q=>?_,?_⟩
 ·exact dR.mpr ⟨l.aj,gh _ _,λg a d C c=>s (by rw[<-cN.mp C,<-c];exact a)⟩
 ·intro g a;rcases ed.mp a with a|a
  ·exact l.le g a
  ·rw[cN.mp a];exact n
 ·rw[Array.getElem?_setIfInBounds];by_cases c:i=v
  ·subst c;rw[aK rfl,aK B];constructor
   ·intro k;cases k;rw[<-l.len,kH<|bb _,vx];rfl
   ·intro k;rcases gd q U1.length with D|D
    ·rw[mc D]at k;exact absurd (gF k) s
    ·rw[kH D]at k;have:q-U1.length=0:=by
      have:=(eV.mp k).1;rw[jj]at this;lia
     rw[show q=ar.length by rw[<-l.len];lia]
  ·rw[aL c,l.own v q];rcases gd q U1.length with D|D
   ·rw[mc D]
   ·rw[kH D,sM D];constructor
    ·intro k;cases k
    ·intro k;have:=gF k;exact absurd (cN.mp this) (λk=>c k.symm)
 ·intro u b;rw[DL l.len]at b;rcases ed.mp b with b|b
  ·exact (l.nN u b).mono λf h=>fl _ h
  ·rw[Aw,List.zip_nil_left]at b;rw[cN.mp b];let⟨@q,c,g⟩:=A;exact⟨q,c,λr j=>fl _<|(l.iI<|IZ _ _ _).mp<|g r j⟩
theorem C1{t:Nat}(F:ix t):∀(cB ar:List Int) (Vc:Array (Option Nat)) (U1:List Nat),lG t Vc U1 ar->(ar++cB).length<=t->
  ∃a b,cB.foldl (λ(Vv:Option (Array (Option Nat)×Nat)) e=>do
   let (f,q) <-Vv
   let i <-aV.layClean.free t f (aV.turns t) (aV.bits e%(t+1)) (aV.bits e)
   pure (f.setIfInBounds i<|Z q,q+1)) (Z (Vc,ar.length))=Z (a,(ar++cB).length)/\lG t a b (ar++cB)
 |[],ar,Vc,U1,l,_=>⟨Vc,U1,by rw[b8];rfl,by rw[b8];exact l⟩
 |e::cB,ar,Vc,U1,l,g=>by
  let⟨@i,c,j⟩:=l.step F (by rw[dW]at g;lia) e;let⟨a,@b,d,h⟩:=C1 F cB (ar++[e]) _ _ j (by rw[bq];exact g);rw[bq]at d h;refine⟨a,b,?_,h⟩;rw[lg];rw[show (ar++[e]).length=ar.length+1 from dW]at d;refine Eq.trans (congrArg (λk=>List.foldl _ k cB) ?_) d;show (aV.layClean.free t Vc (aV.turns t) (aV.bits e%(t+1))<|aV.bits e).bind _=_;rw[c];rfl
def KR(F:ix t)(ar:Array Int)(a:ar.size<=t):∃Vc U1,aV.layClean t ar=Z Vc/\lG t Vc U1 ar.toList:=by
 have b:lG t (Array.replicate (t+1) Y) [] []:=by
  refine⟨Array.size_replicate,rfl,g4,λ_ e=>(iZ e).elim,λi q=>⟨λk=>?_,λk=>?_⟩,λ_ e=>(iZ e).elim⟩
  ·have:=(oN.mp k).2;rw[Array.getElem_replicate]at this;cases this
  ·simp at k
 let⟨Vc,@U1,c,l⟩:=C1 F ar.toList [] _ _ b (by rw[lQ,dk];exact a);refine⟨Vc,U1,?_,l⟩;unfold aV.layClean;rw[<-Array.foldl_toList];exact congrArg (Option.map (·.1)) c
def PE{u:Nat×Nat}:u∈(range<|t+1).filterMap (λi=>(Vc.getD i Y).map (i,·))↔u.1<=t/\Vc[u.1]?=Z (Z u.2):=by
 rw[qp];constructor
 ·rintro⟨i,y,B⟩;let⟨@q,a,rfl⟩:=cm.mp B;refine⟨sD<|eT.mp y,?_⟩;show Vc[i]?=Z (Z q);by_cases k:i<Vc.size
  ·rw[show Vc.getD i Y=Vc[i] by simp[Array.getD,k]]at a;rw[iS k,a]
  ·rw[show Vc.getD i Y=Y by simp[Array.getD,k]]at a;cases a
 ·rintro⟨y,B⟩;refine⟨u.1,eT.mpr<|Hd y,?_⟩;let⟨@k,c⟩:=oN.mp B;rw[show Vc.getD u.1 Y=Vc[u.1] by simp[Array.getD,k],c];rfl
theorem CC{U_ VR:Type}:∀{I:List (U_×VR)},(I.map (·.1)).Nodup->(∀g∈I,∀d∈I,g.2=d.2->g.1=d.1)->(I.map (·.2)).Nodup
 |[],_,_=>g4
 |f::I,e,a=>by
  rw[cw]at e ⊢;have S:=gC.mp e;refine gC.mpr ⟨λk=>?_,CC S.2 λg h d i=>a g (.tail _ h) d<|.tail _ i⟩;let⟨@x,b,c⟩:=da.mp k;have:=a x (.tail _ b) f (.head _) c;exact S.1 (by rw[<-this];exact xN b)
theorem EF{U_ VR Wg:Type}(N:U_->VR)(F:U_->Wg):∀I:List U_,(I.map N).zip (I.map F)=I.map λf=>(N f,F f)
 |[]=>rfl
 |f::I=>congrArg (_::·) (EF N F I)
def QO{k:Nat}(F:ix (aV.sizeAbove k-1))(D:T.size*5<(aV.sizeAbove k-1)*3){b:Bool}(q:C.led=b):
  ∃Vd v,C.relaid (T.map (·.1)) k=Z (Vd,v)/\v.toList.Perm (range T.size)/\kR Vd b/\qK Vd ((v.filterMap (T[·]?)).toList.map (·.1)):=by
 let⟨Vc,@U1,c,l⟩:=KR F (T.map (·.1)) (by rw[z3];lia);generalize E:aV.sizeAbove k-1=t at *;have o:C.relaid (T.map (·.1)) k=Z ({mask:=t,place:=(((range<|t+1).filterMap λi=>(Vc.getD i Y).map (i,·)).map (·.1)).toArray,dummies:=#[],finger:=C.finger,led:=C.led,moves:=C.movedTo t,plain:=C.plain},(((range<|t+1).filterMap λi=>(Vc.getD i Y).map (i,·)).map (·.2)).toArray):=by
  unfold aV.relaid aV.laid;rw[E,c];rfl
 have j:=λ(u:Nat×Nat)=>PE (t:=t) (Vc:=Vc) (u:=u);have r:(((range<|t+1).filterMap λi=>(Vc.getD i Y).map (i,·)).map (·.1)).Pairwise (· < ·):=by
  have:=(NL (C:=_) (n:=_) o);exact this.rise
 generalize G:(range<|t+1).filterMap (λi=>(Vc.getD i Y).map (i,·))=VM at o j r;have UZ:∀u∈VM,U1[u.2]?=Z u.1:=λu h=>(l.own _ _).mp ((j u).mp h).2;have lt:∀u∈VM,u.2<T.size:=λu h=>by
  have:=(eV.mp<|UZ u h).1;rw[l.len,dk,z3]at this;exact this
 have w:(VM.map (·.1)).Nodup:=r.imp λe=>cT e;have x:(VM.map (·.2)).Nodup:=CC w λg H d I c=>by
  have y:=UZ g H;have B:=UZ d I;rw[c]at y;exact Option.some.inj (y.symm.trans B)
 have perm:(VM.map (·.2)).Perm (range T.size):=by
  refine (List.perm_ext_iff_of_nodup x nr).mpr λf=>?_;rw[eT];constructor
  ·intro e;let⟨@u,h,rfl⟩:=da.mp e;exact lt u h
  ·intro e;have m:f<U1.length:=by rw[l.len,dk,z3];exact e
   have y:U1[f]?=Z U1[f]:=dy m;exact da.mpr ⟨(U1[f],f),(j _).mpr ⟨l.le _<|vl m,(l.own _ _).mpr y⟩,rfl⟩
 have z:VM.length=T.size:=by
  have:=perm.length_eq
  rwa [bl,fM]at this
 have A:((VM.map (·.2)).filterMap (T[·]?)).map (·.1)=VM.map λu=>(T.getD u.2 (0,.none)).1:=by
  clear j r UZ w x perm z o G;induction VM with
  |nil=>rfl
  |cons u VM J=>
   have h:=lt u (.head _);rw[cw,rR<|iS h,cw,cw,J λp s=>lt p<|.tail _ s];congr 1;simp[Array.getD,h]
 refine⟨_,_,o,?_,⟨?_,rfl,q⟩,⟨F,?_,?_,?_,?_⟩⟩
 ·exact perm
 ·exact r
 ·rw[z8];show (VM.map (·.1)).toArray.size=(((VM.map (·.2)).filterMap (T[·]?)).map (·.1)).length;rw[A,cJ,bl,bl]
 ·show (VM.map (·.1)).toArray.size*5<t*3;rw[cJ,bl,z];exact D
 ·intro i L;let⟨@u,h,rfl⟩:=da.mp L;exact ((j u).mp h).1
 ·rw[z8];show ∀u∈(VM.map (·.1)).zip (((VM.map (·.2)).filterMap (T[·]?)).map (·.1)),lW t (·∈VM.map (·.1)) u.2 u.1;rw[A,EF];intro u h;let⟨@p,s,rfl⟩:=da.mp h;have y:=UZ p s;have B:((T.map (·.1)).toList)[p.2]?=Z (T.getD p.2 (0,.none)).1:=by
   have:=lt p s;rw[eA,Array.getElem?_map,iS this];simp[Array.getD,this]
  have M:(p.1,(T.getD p.2 (0,.none)).1)∈U1.zip (T.map (·.1)).toList:=by
   refine gF (i:=p.2) ?_;rw[tl];exact⟨y,B⟩
  refine (l.nN _ M).mono λf m=>?_;let⟨@q,N⟩:=vp m;exact da.mpr ⟨(f,q),(j _).mpr ⟨l.le f m,(l.own _ _).mpr N⟩,rfl⟩
def RY(F:ix t)(y:s*5<t*3)(B:(s+1)*5 >= t*3)(a:s+1<=300):ix (aV.sizeAbove (aV.grown<|s+1)-1)/\(s+1)*5<(aV.sizeAbove (aV.grown<|s+1)-1)*3/\aV.sizeAbove (aV.grown<|s+1)<=512:=by
 rcases F with rfl|rfl|rfl|rfl
 ·rw[show s=4 by lia];exact⟨.inr (.inl ∅),by decide,by decide⟩
 ·rw[show s=18 by lia];exact⟨.inr (.inr (.inl ∅)),by decide,by decide⟩
 ·rw[show s=76 by lia];exact⟨.inr (.inr (.inr ∅)),by decide,by decide⟩
 ·lia
section
variable{US:bC}{D:bc}
theorem GB:∀(s:Nat) {O:bw}{UH:ab->ai->Prop}{m:ai}{r:V}{v:ab}{A:Bool->ai->Prop},V.key s r=X->de m.heap r v->(∀d,A d m)->wpAny (aR US D) O (tH s v) A UH m
 |s,O,UH,m,.int a,v,A,_,b,e=>by
  let⟨@C,rfl⟩:=b;rw[show tH s (.int a C)=pure X from by cases s<;>rfl];exact aQ (e _)
 |s,O,UH,m,.str a,v,A,_,b,e=>by
  let⟨@C,rfl⟩:=b;rw[show tH s (.str a C)=pure av from by cases s<;>rfl];exact aQ (e _)
 |s+1,O,UH,m,.tup H,v,A,q,b,e=>by
  let⟨g,n,Vj,@t,rfl,h,k,hd,UN⟩:=b;have l:m.TypeIs (.ref g) "tuple" := ⟨n,h,k⟩;unfold tH;refine ao (sT l rX.lookup ?_);show wpAny _ _ (mF (.ref g) >>= _) _ _ m;refine ao (hE h hd ?_);refine ao ?_;show wpAny _ _ (forIn Vj _ _) _ _ m;rw[<-ue];rw[V.key]at q;refine nq _ (λcB j UI=>UI=m/\∃left,V.keys s left=X/\dG m.heap left cB) _ ?_ ?_ _ _ ⟨rfl,H,q,UN⟩
  ·rintro v cB j UI ⟨rfl,left,f,i⟩;cases left with
   |nil=>cases (show v::cB=[] from i)
   |cons r left=>
    let⟨u,@VA,c,y,o⟩:=i;cases c;rw[V.keys,cS]at f;refine ao (GB s f.1 y λd=>?_);cases d
    ·show wpAny _ _ (pure<|ForInStep.done _) _ _ _;exact aQ (aQ<|e _)
    ·show wpAny _ _ (pure<|ForInStep.yield _) _ _ _;exact aQ ⟨rfl,left,f.2,o⟩
  ·rintro⟨p,w⟩ UI ⟨rfl,W⟩;cases p with
   |none=>exact aQ (e _)
   |some d=>exact aQ (e _)
 |_,_,_,_,.aS,_,_,q,_,_=>by cases ‹Nat›<;>cases q
 |_,_,_,_,.aE _,_,_,q,_,_=>by cases ‹Nat›<;>cases q
 |_,_,_,_,.fn _,_,_,q,_,_=>by cases ‹Nat›<;>cases q
 |_,_,_,_,.aT _,_,_,q,_,_=>by cases ‹Nat›<;>cases q
 |_,_,_,_,.fd,_,_,q,_,_=>by cases ‹Nat›<;>cases q
 |0,_,_,_,.tup _,_,_,q,_,_=>by cases q
theorem xf:∀(s:Nat) {O:bw}{UH:ab->ai->Prop}{m:ai}{r:V}{v:ab}{A:Bool->ai->Prop},V.key s r=X->de m.heap r v->A av m->wpAny (aR US D) O (wG s v) A UH m
 |s,O,UH,m,.int a,v,A,_,b,e=>by
  let⟨@C,rfl⟩:=b;rw[show wG s (.int a C)=pure av from by cases s<;>rfl];exact aQ e
 |s,O,UH,m,.str a,v,A,_,b,e=>by
  let⟨@C,rfl⟩:=b;rw[show wG s (.str a C)=pure av from by cases s<;>rfl];exact aQ e
 |s+1,O,UH,m,.tup H,v,A,q,b,e=>by
  let⟨g,n,Vj,@t,rfl,f,i,hd,UN⟩:=b;have k:m.TypeIs (.ref g) "tuple" := ⟨n,f,i⟩;unfold wG;refine ao (zd k ?_);dsimp only;rw[aK (show ("tuple" == "tuple")=X by decide)];refine ao (aQ ?_);simp only[p6,gs,ft];refine ao (hE f hd ?_);dsimp only;refine ao ?_;show wpAny _ _ (forIn Vj _ _) _ _ m;rw[<-ue];rw[V.key]at q;refine nq _ (λcB j UI=>j.1=Y/\UI=m/\∃left,V.keys s left=X/\dG m.heap left cB) _ ?_ ?_ _ _ ⟨rfl,rfl,H,q,UN⟩
  ·rintro v cB j UI ⟨UQ,rfl,left,d,h⟩;cases left with
   |nil=>cases (show v::cB=[] from h)
   |cons r left=>
    let⟨o,@VA,c,y,l⟩:=h;cases c;rw[V.keys,cS]at d;refine ao (xf s d.1 y ?_);simp only[gs,ft];exact aQ ⟨rfl,rfl,left,d.2,l⟩
  ·rintro⟨p,u⟩ UI ⟨UQ,rfl,W⟩;simp only at UQ;subst UQ;exact aQ e
 |_,_,_,_,.aS,_,_,q,_,_=>by cases ‹Nat›<;>cases q
 |_,_,_,_,.aE _,_,_,q,_,_=>by cases ‹Nat›<;>cases q
 |_,_,_,_,.fn _,_,_,q,_,_=>by cases ‹Nat›<;>cases q
 |_,_,_,_,.aT _,_,_,q,_,_=>by cases ‹Nat›<;>cases q
 |_,_,_,_,.fd,_,_,q,_,_=>by cases ‹Nat›<;>cases q
 |0,_,_,_,.tup _,_,_,q,_,_=>by cases q
def Rv{O:bw}{UH:ab->ai->Prop}{f:ah}{A:Bool->ai->Prop}(b:(fs US D).is m.heap q f){U:List ab}(g:∀v∈U,∃d a,v=.ref d/\(fs US D).is m.heap a d)(e:A av m):
  wpAny (aR US D) O (BM (.ref f) U) A UH m:=by
 unfold BM;refine ao ?_;refine nq _ (λcB j UI=>j.1=Y/\UI=m/\∀v∈cB,∃d a,v=.ref d/\(fs US D).is m.heap a d) _ ?_ ?_ _ _ ⟨rfl,rfl,g⟩
 ·rintro v cB j UI ⟨UQ,rfl,h⟩;let⟨d,@a,rfl,c⟩:=h v (.head _);have i:∀v∈cB,∃d a,v=.ref d/\(fs US D).is UI.heap a d:=λv g=>h v (.tail _ g);dsimp only;cases l:(f==d) with
  |true=>
   simp only[Hg,iY];exact aQ ⟨rfl,rfl,i⟩
  |false=>
   simp only[GO];rw[aL (show ¬ ((B2 (ab.ref f)&&B2 (ab.ref d))=X) from λk=>cU k)];refine ao (wC 8 (r:=.tup _) b.1 b.2 ?_);simp only[p6,gs,ft];refine ao (wC 8 (r:=.tup _) c.1 c.2 ?_);simp only[p6,gs,ft];refine ao (xf 8 (r:=.tup _) b.1 b.2 ?_);simp only[gs,ft];refine ao (xf 8 (r:=.tup _) c.1 c.2 ?_);simp only[gs,ft];exact aQ ⟨rfl,rfl,i⟩
 ·rintro⟨n,o⟩ UI ⟨UQ,rfl,W⟩;simp only at UQ;subst UQ;exact aQ e
end
section
variable(D:bc)(UT:List V->ah->Prop)
def tX(k:List V×Int×ab):Prop:=(∃d,k.2.2=.ref d/\k.2.1=dD D (.tup k.1)/\UT k.1 d)
structure l9(T:Array (Int×ab))(C:aV)(b:Bool)(M:List (List V)):Prop where
 qv:∃VG:List (List V×Int×ab),VG.map (·.2)=T.toList/\(VG.map (·.1)).Perm M/\∀k∈VG,tX D UT k
 tab:kR C b
 bP:qK C (T.toList.map (·.1))
 aj:M.Nodup
def fF(e:aZ)(g:ah)(b:Bool)(M:List (List V)):Prop:=(∃n T U9 C,e.get? g=Z n/\n.ExactSet/\n.data=.set T U9 C/\l9 D UT T C b M)
end
section
variable{US:bC}{D:bc}{UT:List V->ah->Prop}{O:bw}{UH:ab->ai->Prop}
def l9.size(w:l9 D UT T C b M):C.place.size=T.size:=by
 rw[w.bP.len,bl,dk]
def l9.fit(w:l9 D UT T C b M):C.fits T.size=X:=by
 have:=w.bP.loose;unfold aV.fits aV.fill;rw[w.tab.qo,w.size,cS,m5,je];rw[w.size]at this;exact⟨rfl,by show T.size+0<=_;lia⟩
def l9.num(w:l9 D UT T C b M):T.size=M.length:=by
 let⟨@VG,y,B,W⟩:=w.qv;rw[<-B.length_eq,bl,<-dk,<-y,bl]
def Ez(j:hN E){a b i:Nat}(g:E[a]?=Z i)(d:E[b]?=Z i):a=b:=by
 rw[<-AE j g,<-AE j d]
def Qd{ay:fH}{o:Bool}{t:dw Bool}{J j:dw U_}{A:U_->ai->Prop}(y:∀a:Bool->ai->Prop,a av m->wpAny ay O t a UH m)(B:wpAny ay O j A UH m):
  wpAny ay O (if o=X then (do let d <-t;if d=X then J else j) else j) A UH m:=by
 cases o
 ·rw[aL cU];exact B
 ·rw[aK rfl];refine ao (y _ ?_);rw[aL cU];exact B
theorem D4{g f:ah}{q:List V}{b:Bool}{M:List (List V)}{n:aX}{T:Array (Int×ab)}{U9:Nat}{C:aV}{m:ai}{A:SetFound->ai->Prop}{VG:List (List V×Int×ab)}(ca:O.units+20<bR)(J:m.heap.get? g=Z n)(hd:n.data=.set T U9 C)(w:l9 D UT T C b M)(N:(fs US D).is m.heap q f)(P:∀p d,UT p d->(fs US D).is m.heap p d)(E:VG.map (·.2)=T.toList)(Q:(VG.map (·.1)).Perm M)(R:∀k∈VG,tX D UT k)(as:q∈M->A (.there Y) m)(a1:q∉M->∀S,(cx C.mask (dD D<|.tup q) S).j∉C.place.toList->(∀e,e<S->(cx C.mask (dD D<|.tup q) e).j∈C.place.toList)->A (.free (cx C.mask (dD D<|.tup q) S).j av) m){s:Nat}(G:(cx C.mask (dD D<|.tup q) s).j∉C.place.toList)(cd:s<10*aV.turns C.mask):
  ∀(fuel h:Nat) (L:Option aV.Probe),L.getD (C.probeStart<|dD D<|.tup q)=cx C.mask (dD D<|.tup q) h->s<h+fuel->(∀e,e<h->(cx C.mask (dD D<|.tup q) e).j∈C.place.toList)->
   (∀(a e:Nat),e<h->C.place[a]?=Z (cx C.mask (dD D<|.tup q) e).j->(VG.map (·.1))[a]?≠Z q)->
   wpAny (aR US D) O (EC g (.ref f) (dD D<|.tup q) X fuel L) A UH m
 |0,h,L,_,ce,H,_=>by
  refine absurd (H s ⋯) G
 |fuel+1,h,L,ch,ce,H,ar=>by
  have ci:h<=s:=by
   rcases gd s h with k|k
   ·exact absurd (H s k) G
   ·exact k
  have cl:VG.length=T.size:=by rw[<-dk,<-E,bl]
  have U:∀(a:Nat) (p:List V),(VG.map (·.1))[a]?=Z p->∃c d,T[a]?=Z c/\c.2=.ref d/\c.1=dD D (.tup p)/\(fs US D).is m.heap p d:=λa p l=>by
   let⟨@k,a2,al⟩:=cm.mp (by rw[dU]at l;exact l);let⟨@d,o,t,x⟩:=R k (gF a2);subst al;refine⟨k.2,d,?_,o,t,P _ _ x⟩;rw[<-eA,<-E,dU,a2];rfl
  unfold EC;refine ao (k8 J hd w.fit ?_);dsimp only;rw[aL (by unfold aV.gaveWay;rw[m5];have:=w.bP.mJ.pos;lia)];rw[ch];unfold aV.probe;let⟨@Vf,f0,bd,co⟩:=Fj w.tab.rise w.tab.qo (λa=>(T[a]?.map (·.1)).getD 0) (dD D<|.tup q) (10*aV.turns C.mask) h ⟨s,ci,⋯,G⟩;have iI:∀e,e<Vf->(cx C.mask (dD D<|.tup q) e).j∈C.place.toList:=λe z=>by
   rcases gd e h with k|k
   ·exact H e k
   ·let⟨@a,y,W⟩:=bd e k z;rw[<-eA]at y;exact gF y
  have be:∀(a e:Nat),e<Vf->C.place[a]?=Z (cx C.mask (dD D<|.tup q) e).j->(VG.map (·.1))[a]?≠Z q:=λa e z r l=>by
   rcases gd e h with k|k
   ·exact ar a e k r l
   ·let⟨@bi,y,B⟩:=bd e k z;have:=Ez w.tab.rise r y;subst this;let⟨c,@d,o,x,t,am⟩:=U a q l;rw[o]at B;exact B t
  generalize bm:aV.probe.go C _ (dD D<|.tup q) _ (cx C.mask (dD D<|.tup q) h)=F;rcases co with ⟨c,an⟩|⟨a,c,al,I,f1⟩
  ·cases bm.symm.trans c;refine aQ (a1 (λcr=>?_) Vf an iI);have cs:=Q.mem_iff.mpr cr;let⟨@a,UN⟩:=vp cs;let⟨c,@d,o,x,t,am⟩:=U a q UN;have u:a<T.size:=(oN.mp o).1;have r:C.place[a]?=Z (C.place[a]'(by rw[w.size];exact u)):=iS (by rw[w.size];exact u);have db:(C.place[a]'(by rw[w.size];exact u),dD D<|.tup q)∈C.place.toList.zip (T.toList.map (·.1)):=by
    refine gF (i:=a) ?_;rw[tl];refine⟨by rw[eA];exact r,?_⟩;rw[dU,eA,o,<-t];rfl
   let⟨@ap,bn,ds⟩:=w.bP.nN _ db;have dL:ap<Vf:=by
    rcases q_ ap Vf with k|k|k
    ·exact k
    ·refine absurd ?_ an;rw[<-k,bn];exact Array.getElem_mem_toList ..
    ·exact absurd (ds Vf k) an
   exact be a ap dL (by rw[r,bn]) UN
  ·cases bm.symm.trans c;have u:a<VG.length:=by rw[cl,<-w.size];exact (oN.mp I).1
   have bs:(VG.map (·.1))[a]?=Z VG[a].1:=by rw[dU,dy u];rfl
   let⟨eq,@d,o,x,t,am⟩:=U a _ bs;dsimp only;refine Qd (λf2 p=>Rv N (λv ev=>?_) p) ?_
   ·let⟨@ex,fd,rfl⟩:=da.mp ev;have bv:ex∈T.toList:=Cy.mpr (Array.mem_filter.mp<|Cy.mp fd).1;rw[<-E]at bv;let⟨@k,fn,rfl⟩:=da.mp bv;let⟨@fr,Vz,W,Vy⟩:=R k fn;exact⟨fr,k.1,Vz,P _ _ Vy⟩
   ·let⟨f4,my⟩:=eq;cases x;rw[o];dsimp only;refine ao (gP ((fs US D).eqBool (show O.units+10<bR by lia) am N ?_));refine ao (k8 J hd w.fit ?_);by_cases l:VG[a].1=q
    ·rw[dQ l,aK<|show (X&&X)=X from rfl];exact aQ (as (Q.mem_iff.mp (by rw[<-l];exact xN (vl u))))
    ·rw[el l,aL ∅];dsimp only;rw[show C.sameMemory C.moves C.mask=Z X by unfold aV.sameMemory;rw[aK (gT _)]];dsimp only;rw[aK rfl,al];dsimp only;rw[o];dsimp only;refine ao (wpAny_isSame_ref_self<|ao<|aQ ?_);rw[aK rfl];dsimp only;rw[aL cU];refine D4 ca J hd w N P E Q R as a1 G cd fuel (Vf+1) _ rfl ⋯ (λe z=>?_) λbi e z r=>?_
     ·rcases gd e Vf with k|k
      ·exact iI e k
      ·rw[show e=Vf by lia];rw[<-eA]at I;exact gF I
     ·rcases gd e Vf with k|k
      ·exact be bi e k r
      ·rw[show e=Vf by lia]at r;have:=Ez w.tab.rise r I;subst this;rw[bs];exact λc=>l (Option.some.inj c)
end
def ir(M:List (List V))(q:List V):List (List V):=(if q∈M then M else M++[q])
section
variable{US:bC}{D:bc}{UT:List V->ah->Prop}{O:bw}{UH:ab->ai->Prop}{m:ai}
structure pF(D:bc)(UT:List V->ah->Prop)(T:Array (Int×ab))(C:aV)(b:Bool)(M:List (List V))(s:Nat):Prop where
 qv:∃VG:List (List V×Int×ab),VG.map (·.2)=T.toList/\(VG.map (·.1)).Perm M/\∀k∈VG,tX D UT k
 tab:kR C b
 mJ:ix C.mask
 len:C.place.size=T.size
 le:∀i∈C.place.toList,i<=C.mask
 nN:∀u∈C.place.toList.zip (T.toList.map (·.1)),lW C.mask (·∈C.place.toList) u.2 u.1
 aj:M.Nodup
 gy:T.size=s+1
 GJ:s*5<C.mask*3
def pF.dI(w:pF D UT T C b M s):C.fits T.size=X:=by
 have:=w.GJ;have:=w.mJ.pos;unfold aV.fits aV.fill;rw[w.tab.qo,w.len,w.gy,cS,m5,je];exact⟨rfl,by show s+1+0<=_;lia⟩
def pF.done(w:pF D UT T C b M s)(a:¬ ((s+1)*5 >= C.mask*3)):l9 D UT T C b M:=
 ⟨w.qv,w.tab,⟨w.mJ,by rw[w.len,bl,dk],by rw[w.len,w.gy];lia,w.le,w.nN⟩,w.aj⟩
def Bj{a:Array (Int×ab)}{Vd:aV}(b:e.get? g=Z n)(hd:n.data=.set T U9 C):
  (e.update g<|aX.putSet a Vd).get? g=Z {n with data:=.set a (U9+1) Vd}:=by
 have:=l6 (aX.putSet a Vd) b (by rw[putSet_of a Vd hd];rfl);rw[putSet_of a Vd hd]at this;exact this
theorem zc{U_ VR:Type}(N:U_->VR)(I:List U_)(t:List VR)(b:I.map N=t):∀is:List Nat,(is.filterMap (I[·]?)).map N=is.filterMap (t[·]?)
 |[]=>rfl
 |a::is=>by
  subst b;rw[sh,sh,dU];cases I[a]? with
  |none=>exact zc N I _ rfl is
  |some f=>exact congrArg (N f::·) (zc N I _ rfl is)
def Dc(I:List U_):(range I.length).filterMap (I[·]?)=I:=by
 have:=FX I.toArray;simpa using this
def xD{T d:Array (Int × ab)}{f:aV}{UG:Bool -> ai -> Prop}(o:m.heap.get? g=Z n)(p:n.ExactSet)(hd:n.data=.set T U9 C)(z:T.size=s)(l:s+1 <= 300)(w:pF D UT d f b M s)(e : ∀S,aZ.SameBut g m.heap S -> fF D UT S g b M -> UG X {m with heap:=S}):
    wpAny (aR US D) O (do
        storeSet g d f
        if (!av&&f.tooFull)=X then do
            setRelay g (aV.grown<|T.size+1)
            pure X
          else pure X) UG UH m:=by
  refine ao (Bq o hd ?_ (by rw [w.gy]; exact df l ∅));have i:=Bj (a:=d) (Vd:=f) o hd;have q:=kQ m.heap g (aX.putSet d f);have r:f.tooFull=decide ((s+1)*5 >= f.mask*3):=by
    unfold aV.tooFull aV.fill;rw [w.tab.qo,w.len,w.gy];rfl
  by_cases j:(s+1)*5 >= f.mask*3
  · rw [r,dQ j,aK<|show (!av&&X)=X from rfl]
    let@⟨A,B,E⟩:=RY w.mJ w.GJ j l;unfold setRelay;refine ao (ao<|k8 i rfl w.dI ?_);dsimp only;rw [z,aL (λk => absurd (d6 k E) ∅)];let⟨Vd, @h,F,u,G,H⟩:=QO (C:=f) (T:=d) (k:=aV.grown (s+1)) A (by rw [w.gy]; exact B) w.tab.led;rw [F];have v:(h.filterMap (d[·]?)).toList=h.toList.filterMap (d.toList[·]?):=by
      rw [z8];simp
    have I:(h.filterMap (d[·]?)).toList.Perm d.toList:=by
      rw [v];refine (u.filterMap _).trans ?_;rw [<-dk,Dc]
    have x:(h.filterMap (d[·]?)).size=d.size:=by rw [<-dk,I.length_eq,dk]
    refine ao (m:=if ((h.filterMap (d[·]?)).size != d.size)=X then _ else _) ?_;rw [x,aL ↥0];refine aQ ?_;dsimp only;refine Bq i rfl ?_ (by rw [x,w.gy]; exact df l ∅);refine aQ (e _ (q.trans<|kQ _ g _) ⟨_,_,_,_,Bj i rfl,p,rfl, ?_,G,H,w.aj⟩);let⟨@VG,y,J,L⟩:=w.qv;refine ⟨h.toList.filterMap (VG[·]?), ?_, ?_,λk N => ?_⟩
    · rw [v]
      exact zc (·.2) VG _ y _
    · refine (AM _ ?_).trans J
      refine (u.filterMap _).trans ?_;rw [show d.size=VG.length by rw [<-dk, <-y,bl],Dc]
    · let⟨@a,W,c⟩:=qp.mp N
      exact L k (gF c)
  · rw [r,el j,aL (show ¬ ((!av&&av)=X) from by decide)]
    refine aQ (e _ q ⟨_,_,_,_,i,p,rfl,w.done j⟩)
def T4{f:ah}{A:Bool->ai->Prop}(L:O.units+20<bR)(UM:fF D UT m.heap g b M)(u:(fs US D).is m.heap q f)(N:UT q f)(P:∀p d,UT p d->(fs US D).is m.heap p d)(Q:M.length+1<=300)(e:∀d S,aZ.SameBut g m.heap S->fF D UT S g b (ir M q)->A d {m with heap:=S}):
  wpAny (aR US D) O (setAddHashed g (.ref f)<|dD D<|.tup q) A UH m:=by
 let⟨n,T,U9,@C,l,s,hd,w⟩:=UM;have be:=w;let⟨@VG,E,F,G⟩:=w.qv;let⟨@bi,H,R⟩:=w.bP.some (dD D<|.tup q);have bm:=w.bP.mJ.pos;unfold setAddHashed setAddHashedIn;refine gP (ao<|k8 l hd w.fit ?_);dsimp only;rw[aL (show ¬ (byScan (ab.ref f) T=X) from λk=>cU k)];unfold setSearch;refine ao (D4 L l hd w u P E F G (λt=>?_) (λt h I U=>?_) R H 100000 0 Y rfl (by unfold aV.turns at H;lia) (λal k=>absurd k<|lO _) λa al k=>absurd k<|lO _)
 ·refine aQ ?_;have c:m={m with heap:=m.heap}:=by cases m;rfl
  rw[c];refine e _ _ (aZ.SameBut.refl g m.heap) ?_;rw[ir,aK t];exact⟨n,T,U9,C,l,s,hd,w⟩
 ·dsimp only;refine ao (k8 l hd w.fit ?_);dsimp only;let@⟨am,VI⟩:=w.bP.put (e:=dD D (.tup q)) I U;have an:¬ (C.place[aV.below C.place (cx C.mask (dD D<|.tup q) h).j]?=Z (cx C.mask (dD D<|.tup q) h).j):=λk=>I (by rw[<-eA]at k;exact gF k);have ap:=w.tab.put an;have v:∀d:Bool,pF D UT (aV.insertAt T (C.put (cx C.mask (dD D<|.tup q) h).j).2 (dD D<|.tup q,.ref f)) { (C.put (cx C.mask (dD D<|.tup q) h).j).1 with plain:=d} b (M++[q]) T.size:=λd=>by
   have y:(aV.insertAt T (C.put (cx C.mask (dD D<|.tup q) h).j).2 (dD D<|.tup q,ab.ref f)).toList=_:=w9 _ _ _;have as:(C.put (cx C.mask (dD D<|.tup q) h).j).1.place.toList=_:=w9 _ _ _;have J:(aV.insertAt T (C.put (cx C.mask (dD D<|.tup q) h).j).2 (dD D<|.tup q,ab.ref f)).size=T.size+1:=by
    rw[<-dk,y,dW,dz,g_,hH,dk];lia
   refine⟨⟨VG.take (C.put (cx C.mask (dD D<|.tup q) h).j).2++(q,dD D<|.tup q,.ref f)::VG.drop (C.put (cx C.mask (dD D<|.tup q) h).j).2,?_,?_,λk o=>?_⟩,ap.Rg d,w.bP.mJ,?_,am,?_,?_,J,?_⟩
   ·rw[y,<-E,gz,cw,j3,kc]
   ·rw[gz,cw,j3,kc];refine List.perm_middle.trans ?_;rw[fq];exact (F.cons q).trans (c8 (l₁:=[q]))
   ·rcases rF.mp o with rfl|o
    ·exact⟨f,rfl,rfl,N⟩
    ·exact G k o
   ·show (C.put (cx C.mask (dD D<|.tup q) h).j).1.place.size=_;rw[J,<-dk,as,dW,dz,g_,hH,dk,w.size];lia
   ·rw[y,gz,cw,j3,kc];exact VI
   ·exact dR.mpr ⟨w.aj,gh _ q,λx a1 k o=>by cases cN.mp o;exact λc=>t<|c ▸ a1⟩
   ·have:=w.bP.loose;rw[w.size]at this;exact this
  have z:∀S,aZ.SameBut g m.heap S->fF D UT S g b (M++[q])->A X {m with heap:=S}:=λS a2 bd=>e X S a2 (by rw[ir,aL t];exact bd);have B:T.size+1<=300:=by rw[w.num];exact Q
  split
  ·refine ao (GB 8 (r:=.tup q) u.1 u.2 λd=>?_);cases d
   ·exact xD l s hd rfl B (v av) z
   ·exact xD l s hd rfl B (v _) z
  ·refine ao (aQ ?_);exact xD l s hd rfl B (v _) z
end
def h6(D:bc):Bool:=(!D.params.followText "set-order")
def lV(b:Bool):aX:=({cls:=.type "set",dict:=Y,data:=.set #[] 0 (.fresh 0 0 b)})
def Ot:isSubtype (.type "tuple") (.type "set")=pure av:=by rw[rV];kernel_rfl
def La:isSubtype (.type "tuple") (.type "frozenset")=pure av:=by rw[rV];kernel_rfl
section
variable{US:bC}{D:bc}{O:bw}{UH:ab->ai->Prop}{m:ai}
def M0(g:ab){a:ab->ai->Prop}(e:a (.ref m.heap.objs.size) {m with heap:=m.heap.push (lV<|h6 D)}):
  codeAny (aR US D) O (.call (.builtin "set.__new__") ⟨[.type "set",g],[]⟩) (wants a UH) m:=by
 refine Jl ?_;show wpAny _ O.in1 (do checkBuiltinCall "set.__new__" ⟨[.type "set",g],[]⟩;again (.builtin "set.__new__" ⟨[.type "set",g],[]⟩)) _ _ m;refine ao (p9 (PySem.F.newCall_set_1 g)<|aQ ⟨ma BZ _,l1 PySem.F.entry_set_new ?_⟩);rw[mP BZ _];unfold br.«set.__new__» br.Frozenset.newClass;have b:=sub_set_self;let⟨c,F,r,Vq,U5⟩:=m;dsimp only
 wp_walk
 refine zO (aQ ?_);dsimp only;simp only[newObj];refine ao (yj<|aQ ?_);exact aQ e
end
def sG:nS "set_iterator" "__next__" "set_iterator.__next__" :=
 .of (owner := "set_iterator") (n := "__next__") (by rw[G8,He];kernel_rfl) (by decide +kernel) (by decide +kernel) (by decide +kernel)
  (by first|exact .inl (by decide +kernel)|exact .inr (by decide +kernel)) (by rw[rV];kernel_rfl)
def NY:r_ rv "set_iterator.__next__" = Z br.«set_iterator.__next__»:=entryFor_of_tree (by kernel_rfl)
def HW:Manifest.owners.lookup (String.ofList ['r','o','t','a','r','e','t','i','_','t','e','s'].reverse)=Z Manifest.sig_set_iterator:=by kernel_rfl
def KU(g:ab):rO "set_iterator.__next__" ⟨[g],[]⟩:=by
 unfold rO;rw[Cp (id := "set_iterator.__next__") (n:=['_','_','t','x','e','n','_','_']) (o:=['r','o','t','a','r','e','t','i','_','t','e','s']) (by kernel_rfl) HW];kernel_rfl
def J3:r_ rv "set.__iter__" = Z br.«frozenset.__iter__»:=
 Bs (id' := "frozenset.__iter__") (by kernel_rfl) rfl (by decide +kernel) (by kernel_rfl)
def FT:nS "set_iterator" "__iter__" "set_iterator.__iter__" :=
 .of (owner := "set_iterator") (n := "__iter__") (by rw[G8,He];kernel_rfl) (by decide +kernel) (by decide +kernel) (by decide +kernel)
  (by first|exact .inl (by decide +kernel)|exact .inr (by decide +kernel)) (by rw[rV];kernel_rfl)
def Tx(g:ab):rO "set_iterator.__iter__" ⟨[g],[]⟩:=by
 unfold rO;rw[Cp (id := "set_iterator.__iter__") (n:=['_','_','r','e','t','i','_','_']) (o:=['r','o','t','a','r','e','t','i','_','t','e','s']) (by kernel_rfl) HW];kernel_rfl
def Kl:r_ rv "set_iterator.__iter__" = Z br.«dict_keyiterator.__iter__»:=
 Bs (id' := "dict_keyiterator.__iter__") (by kernel_rfl) (by first|rfl|decide +kernel|(unfold String.splitOn;simp +decide [String.splitOnAux])) (by decide +kernel) (by kernel_rfl)
def gE(e:aZ)(l:ah)(VS:ab)(a:Nat)(UM:ah)(s U9:Nat):Prop:=(∃n,e.get? l=Z n/\n.cls=.type "set_iterator" /\ n.data=.fields #[VS,.int a 0,.ref UM,.int s 0,.int U9 0])
def iR(e:aZ)(UM:ah)(T:Array (Int×ab))(U9:Nat)(C:aV):Prop:=(∃n,e.get? UM=Z n/\n.ExactSet/\n.data=.set T U9 C)
def gE.go(f:gE e l VS a UM s U9)(q:∀n,e.get? l=Z n->S.get? l=Z n):gE S l VS a UM s U9:=let ⟨n,c,j⟩:=f;⟨n,q n c,j⟩
def iR.go(f:iR e UM T U9 C)(q:∀n,e.get? UM=Z n->S.get? UM=Z n):iR S UM T U9 C:=let ⟨n,c,j⟩:=f;⟨n,q n c,j⟩
section
variable{US:bC}{D:bc}{O:bw}{UH:ab->ai->Prop}{m:ai}
def gE.ty(f:gE m.heap l VS a UM s U9):m.TypeIs (.ref l) "set_iterator" := let ⟨n,c,o,_⟩:=f;⟨n,c,o⟩
def Lp{ay:fH}{b:Source}{A:Nat->ai->Prop}(c:0<s)(e:∀a,a<s->A a {m with drawn:=m.drawn.bump b}):wpAny ay O (choose b s) A UH m:=
 λ_ W W=>⟨hi c,e _<|v9 _ c⟩
theorem zB{U_:Type}:∀(I:List U_) (a:Nat) (e:a<I.length),(I[a]::I.eraseIdx a).Perm I
 |f::E,0,_=>.refl _
 |f::E,a+1,e=>(List.Perm.swap f _ _).trans (List.Perm.cons f<|zB E a<|EO e)
theorem Gd{U_:Type}{ay:fH}:∀(s:Nat) (E:List U_) (m:ai) (A:List U_->ai->Prop),E.length=s->(∀r U0,List.Perm U0 E->A U0 {m with drawn:=r})->wpAny ay O (zi s E) A UH m
 |0,E,m,A,b,e=>by
  have c:E=[]:=lT b;subst c;unfold zi;exact aQ (e m.drawn [] .nil)
 |s+1,[],m,A,b,e=>by cases b
 |s+1,f::E,m,A,b,e=>by
  unfold zi;refine ao (Lp (by rw[b];exact rr _) λa UN=>?_);have c:(f::E)[a]?=Z (f::E)[a]:=dy UN;rw[c];dsimp only;refine ao (Gd s _ _ _ (by rw[D8 UN,b];rfl) λr U0 d=>?_);refine aQ (e r _ ?_);refine (List.Perm.cons _ d).trans ?_;exact zB _ a UN
def uG(b:gE m.heap l VS a UM s U9)(e:wpAny (aR US D) O.in1 (br.«set_iterator.__next__» ⟨[.ref l],[]⟩) (λf UI=>∃v,f=.done (.ret v)/\A (Z v) UI) (λc UI=>wpAny (aR US D) O (do let d <-x_ c (.type "StopIteration");if d=X then pure Y else throw c) A UH UI) m):
  wpAny (aR US D) O (fb<|.ref l) A UH m:=by
 unfold fb;refine ao (lC<|lu (name:=aC.ofString "__next__") b.ty sG<|g7 sG b.ty NY ?k<|KU _)
 case k=>
  refine f7 e (λf UI ⟨v,c,p⟩=>⟨v,c,aQ p⟩) λc UI p=>p
def ud{c:ab}{d:Nat}{A:Unit->ai->Prop}{q:Nat}(g:gE m.heap l VS a UM s U9)(h:q<5)(i:(#[VS,.int a 0,.ref UM,.int s 0,.int U9 0]:Array ab).setIfInBounds q f=#[c,.int d 0,.ref UM,.int s 0,.int U9 0])(p:∀S,gE S l c d UM s U9->aZ.SameBut l m.heap S->A () {m with heap:=S}):wpAny (aR US D) O (ps (.ref l) q f) A UH m:=by
 let⟨@n,e,j,b⟩:=g;refine m8 e b h (p _ ⟨_,l6 _ e<|AF<|pL b _,(w1 ..).trans j,?_⟩<|kQ ..);rw[pL b,i]
def EJ(a:O.handled=Y)(p:∀S,aZ.ExtBut l m.heap S->A Y {m with heap:=S}):
  wpAny (aR US D) O.in1 (mG (.type "StopIteration") [] >>= λf=>(raiseNew f:dw PySem.Fin)) (λb UI=>∃v,b=.done (.ret v)/\A (Z v) UI) (λc UI=>wpAny (aR US D) O (do let d <-x_ c (.type "StopIteration");if d=X then pure Y else throw c) A UH UI) m:=by
 apply ao;simp only[mG,r0];refine ao (gu (ao (m:=m6 _ _) (p9 (a:=ab.none) (by first|rfl|(simp only[m6];rfl)) (gu ?_ (by size_fits)))) (by size_fits));simp only[raiseNew];apply ao;apply uY;rw[show O.in1.handled=Y from a];refine ao (m:=pure _) (aQ<|u6 ?_);apply ao;refine oT (T := "StopIteration") (b:=X) ⟨_,cR _ rfl,rfl⟩ t7 ?_;exact aQ (p _<|λd n W c=>bT _<|bT _ c)
def Bu{next:Nat}(b:gE m.heap l (.int VU 0) a UM s U9)(d:iR m.heap UM T U9 C)(e:C.fits T.size=X)(g:T.size=s)(h:∀(c:Option (ab×Nat)->ai->Prop) (i:ab->ai->Prop),c (Z (f,next)) m->wpAny (aR US D) O.in1 (mH UM VU a U9) c i m)(p:∀S,gE S l (.int next 0) (a+1) UM s U9->aZ.SameBut l m.heap S->A (Z f) {m with heap:=S}):wpAny (aR US D) O (fb<|.ref l) A UH m:=by
 refine uG b ?_;let⟨@n,j,E,k⟩:=id b;let⟨@F,o,G,q⟩:=d;unfold br.«set_iterator.__next__»;refine ao (aQ<|ao<|nx j k ?_);show wpAny _ _ (tk UM >>= _) _ _ _;refine ao (r9 o q e ?_);dsimp only;rw[aL (by rw[g];simp)];refine ao (m:=mH UM _ _ _) (h _ _ ?_);dsimp only;refine ao (ud (c:=.int next 0) (d:=a) b ∅ rfl λy v w=>?_);refine ao (ud (m:={m with heap:=y}) (c:=.int next 0) (d:=a+1) v ∅ rfl λB x z=>?_);exact aQ ⟨_,rfl,p B x<|w.trans z⟩
def H_(i:O.handled=Y)(b:gE m.heap l (.int VU 0) a UM s U9)(j:iR m.heap UM T U9 C)(k:C.fits T.size=X)(o:T.size=s)(q:∀(e:Option (ab×Nat)->ai->Prop) (r:ab->ai->Prop),e Y m->wpAny (aR US D) O.in1 (mH UM VU a U9) e r m)(p:∀S,aZ.ExtBut l m.heap S->A Y {m with heap:=S}):wpAny (aR US D) O (fb<|.ref l) A UH m:=by
 refine uG b ?_;let⟨@n,f,x,g⟩:=id b;let⟨@y,u,z,v⟩:=j;unfold br.«set_iterator.__next__»;refine ao (aQ<|ao<|nx f g ?_);show wpAny _ _ (tk UM >>= _) _ _ _;refine ao (r9 u v k ?_);dsimp only;rw[aL (by rw[o];simp)];refine ao (m:=mH UM _ _ _) (q _ _ ?_);dsimp only;refine ao (m8 f g (show 2<5 by decide) ?_);exact EJ (l:=l) i λS w=>p S λd n h c=>w d n h ((kQ ..).extBut d n h c)
def O_{c:Nat}{Vq:iz}{f:Int×ab}(b:gE m.heap l (.ref VL) a UM s U9)(h:iR m.heap UM T U9 C)(d:C.fits T.size=X)(i:T.size=s)(B:m.heap.get? VL=Z Vo)(Vy:Vo.data=.seq bQ VT)(j:bQ[a]?=Z (.int c Vq))(k:T[c]?=Z f)(p:∀S,gE S l (.ref VL) (a+1) UM s U9->aZ.SameBut l m.heap S->A (Z f.2) {m with heap:=S}):wpAny (aR US D) O (fb<|.ref l) A UH m:=by
 refine uG b ?_;let⟨@n,o,u,q⟩:=id b;let⟨@v,e,w,g⟩:=h;unfold br.«set_iterator.__next__»;refine ao (aQ<|ao<|nx o q ?_);show wpAny _ _ (tk UM >>= _) _ _ _;refine ao (r9 e g d ?_);dsimp only;rw[aL (by rw[i];simp)];show wpAny _ _ (mF (.ref VL) >>= _) _ _ _;refine ao (hE B Vy ?_);dsimp only;rw[kY,j];dsimp only;show wpAny _ _ (setNextDrawn UM _ _ >>= _) _ _ _;unfold setNextDrawn;refine ao (ao<|k8 e g d ?_);dsimp only;rw[aL ↥0,kY,k];dsimp only;refine aQ ?_;refine ao (ud (c:=.ref VL) (d:=a+1) b ∅ rfl λy r t=>?_);exact aQ ⟨_,rfl,p y r t⟩
def Q6(f:O.handled=Y)(b:gE m.heap l (.ref VL) a UM s U9)(g:iR m.heap UM T U9 C)(h:C.fits T.size=X)(i:T.size=s)(B:m.heap.get? VL=Z Vo)(Vy:Vo.data=.seq bQ VT)(j:bQ[a]?=Y)(p:∀S,aZ.ExtBut l m.heap S->A Y {m with heap:=S}):wpAny (aR US D) O (fb<|.ref l) A UH m:=by
 refine uG b ?_;let⟨@n,k,z,o⟩:=id b;let⟨@E,q,F,r⟩:=g;unfold br.«set_iterator.__next__»;refine ao (aQ<|ao<|nx k o ?_);show wpAny _ _ (tk UM >>= _) _ _ _;refine ao (r9 q r h ?_);dsimp only;rw[aL (by rw[i];simp)];show wpAny _ _ (mF (.ref VL) >>= _) _ _ _;refine ao (hE B Vy ?_);dsimp only;rw[kY,j];dsimp only;refine ao (ud (c:=.int 0 0) (d:=a) b ∅ rfl λy t u=>?_);let⟨@Vk,v,I,w⟩:=t;refine ao (m8 (s:={m with heap:=y}) v w (show 2<5 by decide) ?_);exact EJ (l:=l) f λS x=>p S λd n e c=>x d n e ((kQ ..).extBut d n e<|u.extBut d n e c)
end
def i7(val:Nat->List V):Nat->List (List V)
 |0=>[]
 |a+1=>ir (i7 val a) (val a)
def fF.fresh(b:Bool):fF D UT (e.push<|lV b) e.objs.size b []:=
 ⟨_,#[],0,_,cR _ rfl,⟨rfl,rfl,rfl⟩,rfl,⟨[],rfl,.nil,λk a=>(iZ a).elim⟩,⟨List.Pairwise.nil,rfl,rfl⟩,⟨.inl rfl,rfl,show 0*5<7*3 by decide,λi c=>(iZ c).elim,λu d=>(iZ d).elim⟩,g4⟩
def fF.at(UM:fF D UT e g b M)(q:∀n,e.get? g=Z n->S.get? g=Z n):fF D UT S g b M:=by
 let⟨n,T,U9,@C,a,j⟩:=UM;exact⟨n,T,U9,C,q n a,j⟩
section
variable{US:bC}{D:bc}{UT:List V->ah->Prop}{O:bw}{UH:ab->ai->Prop}{m:ai}
def Kx{UG:rU->ai->Prop}{cc x:List ah}{H:Nat->ab->Prop}{a7:Nat->aZ->Prop}{i:aZ}(be:O.units+25<bR)(W:kU US D O.in1 l cc x s H a7)(I:UM∉cc)(val:Nat->List V)(P:∀a v,H a v->∃d,v=.ref d/\UT (val a) d)(L:∀p d,UT p d->(fs US D).is i p d)(g:∀d n,i.get? d=Z n->d∉x)(Q:∀J Vj t,i.get? UM=Z J->J.data=.seq Vj t->False)(R:∀a,a<s->(i7 val a).length+1<=300):
  ∀(q a:Nat) (m:ai),s-a=q->a<=s->wM i m.heap->a7 a m.heap->fF D UT m.heap UM b (i7 val a)->
   (∀S Vq,(∀d n,d≠UM->d∉x->m.heap.get? d=Z n->S.get? d=Z n)->fF D UT S UM b (i7 val s)->UG (.ok<|.ret .none) {m with heap:=S,toks:=Vq})->
   codeAny (aR US D) O (.builtin "set.update.loop" ⟨[.ref UM,.ref l],[]⟩) UG m:=by
 have M:UM∉x:=λe=>I (W.sub _ e);intro q;induction q with
 |zero=>
  intro a m T UN UO u w z;have U:a=s:=⋯
  subst U;refine l1 E8 ?_;rw[mP xi _];show wpAny _ O.in1 (fb (.ref l) >>= _) _ _ m;refine ao (W.done m _ _ u λS Vq h=>?_);show wpAny _ O.in1 (ret ab.none) _ _ _;exact aQ (z S Vq (λd n K g c=>h d n g c)<|w.at λn c=>h UM n M c)
 |succ q al=>
  intro a m T UN UO u w z;have A:a<s:=⋯
  refine l1 E8 ?_;rw[mP xi _];show wpAny _ O.in1 (fb (.ref l) >>= _) _ _ m;refine ao (W.item a m _ _ A u λv y bi am an h=>?_);let⟨@f,rfl,C⟩:=P a v am;have N:wM i y:=λd n Vj t j E o=>h d n (g d n j) (UO d n Vj t j E o);have F:∀p d,UT p d->(fs US D).is y p d:=λp d k=>⟨(L p d k).1,(L p d k).2.keep N⟩;show wpAny _ O.in1 (holding [ab.ref f] (setAdd UM<|.ref f) >>= _) _ _ _;refine ao (gP ?_);unfold setAdd;refine gP ?_;refine ao ((fs US D).pyHash (k:=val a) (show O.units+1+10<bR by lia) (F _ _ C) ?_);refine T4 (m:={m with heap:=y,toks:=_}) (show O.units+1+20<bR by lia) (w.at λn c=>h UM n M c) (F _ _ C) C F (R a A) λd B G ap=>?_;refine aQ ⟨ma xi _,al (a+1) _ ⋯ A (λd n Vj t j E o=>?_) (W.frame _ y B an λd r n c=>?_) ap λas a1 a2 bd=>?_⟩
  ·show B.get? d=Z n;rw[G.2 d (λe:d=UM=>Q n Vj t (e ▸ j) o)];exact N d n Vj t j E o
  ·rw[G.2 d (λe:d=UM=>I (by rw[<-e];exact r))];exact c
  ·refine z as a1 (λd n r g c=>a2 d n r g ?_) bd;show B.get? d=Z n;rw[G.2 d r];exact h d n g c
variable{A:ab->ai->Prop}
def JG(r:O.handled=Y)(i:m.heap.get? I=Z n)(k:n.cls=.type "tuple")(l:n.data=.seq Vj We)(H:O.units+28<bR)(UN:∀a v,Vj[a]?=Z v->∃d,v=.ref d/\UT (M.getD a []) d)(s:∀p d,UT p d->(fs US D).is m.heap p d)(g:∀a,a<Vj.size->(i7 (λa=>M.getD a []) a).length+1<=300)(u:I≠UM)(h:m.heap.get? UM=Z (lV b))(w:fF D UT m.heap UM b [])(e:∀S Vq,fF D UT S UM b (i7 (λa=>M.getD a []) Vj.size)->(∀d n,d≠UM->m.heap.get? d=Z n->S.get? d=Z n)->A .none {m with heap:=S,toks:=Vq}):
  wpAny (aR US D) O (br.«set.__init__» ⟨[.ref UM,.ref I],[]⟩) (λx UI=>∃j,x=.done (.ret j)/\A j UI) UH m:=by
 let⟨L,N,P,Q⟩:=n;simp only at k l;subst k;subst l;have R:=Ot;have T:=La;have U:(ab.type "tuple" == ab.type "dict")=av:=by decide
 unfold lV at h;have o:m.heap.IsTuple I Vj:=⟨_,i,rfl,We,rfl⟩;unfold br.«set.__init__» noKeywords br.Frozenset.updateFrom;generalize y:mZ=jb
 wp_walk
 subst y;refine wpAny_pyIter_tuple o ?_;refine ao (BF ?_);have z:I<m.heap.objs.size:=bW i;have B:UM<m.heap.objs.size:=bW h;have C:O.in1.handled=Y:=by simp[r]
 refine Kx (b:=b) (UT:=UT) (i:=m.heap) (show O.units+25<bR by lia) (kU.tuple C _ I (cT z) Vj) ?_ (λa=>M.getD a []) UN s ?_ ?_ g (Vj.size-0) 0 _ ⋯ (gk _) ?_ ⟨⟨_,cR _ rfl,rfl,rfl⟩,?_⟩ ?_ λS Vq E F=>?_
 ·simp only[b9,iZ,lH,not_or];exact⟨cT B,λc=>u c.symm⟩
 ·intro d n c;rw[cN];exact cT (bW c)
 ·intro J Vj t f q;rw[h]at f;cases f;cases q
 ·intro d n Vj t f q am;exact bT _ f
 ·let⟨@n,G,j⟩:=o;exact⟨n,bT _ G,j⟩
 ·exact w.at λn c=>bT _ c
 ·show wpAny _ _ _ _ _ _;refine aQ ?_;show wpAny _ _ (ret ab.none) _ _ _;refine aQ ⟨_,rfl,e S Vq F λd n g c=>E d n g ?_<|bT _ c⟩;rw[cN];exact cT (bW c)
def NH(t:O.handled=Y)(i:m.heap.get? I=Z n)(u:n.cls=.type "tuple")(w:n.data=.seq Vj We)(J:O.units+30<bR)(UN:∀a v,Vj[a]?=Z v->∃d,v=.ref d/\UT (M.getD a []) d)(l:∀p d,UT p d->(fs US D).is m.heap p d)(x:∀a,a<Vj.size->(i7 (λa=>M.getD a []) a).length+1<=300)(e:∀S Vq,fF D UT S m.heap.objs.size (h6 D) (i7 (λa=>M.getD a []) Vj.size)->(∀d n,m.heap.get? d=Z n->S.get? d=Z n)->A (.ref m.heap.objs.size) {m with heap:=S,toks:=Vq}):
  wpAny (aR US D) O (call (.type "set") [.ref I]) A UH m:=by
 let⟨o,@Wf,L⟩:=ml.mro;have N:=ml.made;have Q:=ml.sub;refine zg (Jl ?_);show wpAny _ _ (callAny (.type "set") _) _ _ _;refine aQ ⟨Code.quiet_builtin _ (by decide +kernel),l1 F.entry_type_call ?_⟩;rw[bw.under_plain (weight_type_call_type "set" [.ref I] []) rfl];have y:=ml.notType;have B:=ml.canCreate;have R:=PySem.F.typeCall_set_1 (.ref I);repeat (any_goals (first|assumption|wp_step))
 refine td (M0 (.ref I) (UH:=UH) (a:=λq r=>q=.ref m.heap.objs.size/\r={m with heap:=m.heap.push (lV<|h6 D)}) ⟨rfl,rfl⟩) λj r UQ=>?_;cases j with
 |error c=>exact UQ
 |ok aT=>
  cases aT with
  |ret q=>
   let@⟨rfl,rfl⟩:=UQ;have s:(m.heap.push<|lV<|h6 D).get? m.heap.objs.size=Z (lV<|h6 D):=cR _ rfl;have z:ai.TypeIs {m with heap:=m.heap.push (lV<|h6 D)} (.ref m.heap.objs.size) "set" := ⟨_,s,rfl⟩;have U:=ml.init.lookup;have al:=ml.init.bind (.ref m.heap.objs.size);repeat (any_goals (first|assumption|wp_step))
   refine td (codeAny_call_builtin (R:=wants (λj b=>j=.none/\∃S Vq,b={m with heap:=S,toks:=Vq}/\
     fF D UT S m.heap.objs.size (h6 D) (i7 (λa=>M.getD a []) Vj.size)/\(∀d n,m.heap.get? d=Z n->S.get? d=Z n)) UH) ml.init.plain PySem.F.entry_set_init<|check_set_init_1 z ?_) λC b f=>?_
   ·refine f7 (JG (m:={m with heap:=m.heap.push (lV<|h6 D)}) (by simp[t]) (bT _ i) u w (by show O.in1.in1.units+28<bR;show O.units+1+1+28<bR;omega) UN (λp d k=>⟨(l p d k).1,(l p d k).2.keep λd n W W c W W=>bT _ c⟩) x (cT<|bW i) s (fF.fresh _) (A:=λj b=>j=.none/\∃S Vq,b={m with heap:=S,toks:=Vq}/\
     fF D UT S m.heap.objs.size (h6 D) (i7 (λa=>M.getD a []) Vj.size)/\(∀d n,m.heap.get? d=Z n->S.get? d=Z n)) λS Vq g E=>⟨rfl,S,Vq,rfl,g,λd n c=>E d n (cT<|bW c)<|bT _ c⟩) (λam UI h=>?_) λ_ W c=>c;let⟨@j,rfl,h⟩:=h;exact h
   ·cases C with
    |error c=>exact f
    |ok G=>
     cases G with
     |ret j=>
      let@⟨rfl,⟨S,@Vq,rfl,g,H⟩⟩:=f;repeat (any_goals (first|assumption|wp_step))
      exact e _ _ g H
     |_=>exact f.elim
  |_=>exact UQ.elim
end
section
variable{US:bC}{D:bc}{O:bw}{UH:ab->ai->Prop}{m:ai}
theorem F7{U_:Type}(next:Nat->Nat):∀(fuel q:Nat) (left:List U_) (out:Array U_),left.length=fuel->(jB.go next fuel q left out).toList.Perm (out.toList++left)
 |0,q,left,out,e=>by
  have c:left=[]:=lT e;subst c;unfold jB.go;rw[b8]
 |fuel+1,q,left,out,e=>by
  unfold jB.go;have UN:next q%left.length<left.length:=v9 _ (by rw[e];exact rr _)
  rw[dy UN];dsimp only;refine (F7 next fuel (q+1) _ _ (by rw[D8 UN,e];rfl)).trans ?_;rw[zP,bq];exact dO _ (zB _ _ UN)
def TF(next:Nat->Nat)(E:Array U_):(jB next E).toList.Perm E.toList:=F7 next E.size 0 E.toList #[] (by rw[dk])
def u1{A:Bool->ai->Prop}(e:A (D.params.followText "set-order") m):wpAny (aR US D) O setsByText A UH m:=by
 unfold setsByText;exact ao (zO<|aQ e)
variable{A:Option (ab×Nat)->ai->Prop}
def FU(c:iR m.heap UM T U9 C)(d:C.fits T.size=X)(e:D.params.followText "set-order" = av)(g:(!C.plain&&decide (T.size>1))=av)(h:C.led=X)(j:aV.below C.place VU=a)(p:A (match T[a]?,C.place[a]? with|some (_,f),Z i=>Z (f,i+1)|_,_=>Y) m):wpAny (aR US D) O (mH UM VU F U9) A UH m:=by
 let⟨@n,k,o,l⟩:=c;unfold mH;refine ao (k8 k l d ?_);dsimp only;refine ao (u1 ?_);rw[e,aL cU];show wpAny _ _ (if (!C.plain&&decide (T.size>1))=X then _ else _) _ _ _;rw[g,aL cU];show wpAny _ _ ((if (!C.led && !T.isEmpty)=X then (unsupported "set:maker-not-led" : dw Unit) else pure ()) >>= _) _ _ _;rw[h];refine ao (m:=pure ()) (aQ ?_);rw[j];exact aQ p
def DR(f:iR m.heap UM T U9 C)(a:C.fits T.size=X)(b:D.params.followText "set-order" = X)(p:A (((jB (D.params.setOrder UM U9) T)[F]?).map λc=>(c.2,VU)) m):wpAny (aR US D) O (mH UM VU F U9) A UH m:=by
 let⟨@n,d,g,e⟩:=f;unfold mH;refine ao (k8 d e a ?_);dsimp only;refine ao (u1 ?_);rw[b,aK rfl,aL ↥0];unfold setWalk;refine ao (ao<|k8 d e a ?_);dsimp only;refine ao (u1 ?_);rw[b,aK rfl];exact ao (zO<|aQ<|aQ p)
def xA{A:ab->ai->Prop}(b:gE m.heap l VS a UM s U9)(p:A (.ref l) m):wpAny (aR US D) O (mZ<|.ref l) A UH m:=by
 refine wU b.ty FT (g7 FT b.ty Kl ?_<|Tx _);show wpAny _ _ (ret<|.ref l) _ _ m;exact aQ ⟨_,rfl,"set_iterator",_,b.ty,sG.lookup,p⟩
def zW(b:Array Nat):Nat->Nat
 |0=>0
 |a+1=>b.getD a 0+1
theorem B3{b:Array Nat}(j:hN b):∀{a:Nat},a<=b.size->aV.below b (zW b a)=a
 |0,_=>Jr j
 |a+1,e=>by
  have c:b[a]?=Z (b.getD a 0):=by simp[Array.getD,show a<b.size from e]
  exact Og j c
def kX(T:Array (Int×ab)):List ab:=(T.toList.map (·.2))
def u0(T:Array (Int×ab)):(kX T).length=T.size:=by rw[kX,bl,dk]
theorem Ru(w:O.handled=Y)(ne:UM≠l)(h:C.fits T.size=X)(r:D.params.followText "set-order" = av)(s:(!C.plain&&decide (T.size>1))=av)(t:C.led=X)(j:hN C.place):
  kU US D O l [l,UM] [l] (kX T).length (λa v=>(kX T)[a]?=Z v) (λa e=>gE e l (.int (zW C.place a) 0) a UM T.size U9/\iR e UM T U9 C) where
 sub:=λd x=>by
  have:d=l:=by simpa using x
  simp[this]
 frame:=λa e S L q=>⟨L.1.go (q l ↥0),L.2.go (q UM ↥0)⟩
 item:=λa m A UH UN L i=>by
  rw[u0]at UN;have y:C.place.size=T.size:=by
   simp only[aV.fits,cS,m5]at h;exact h.1
  have u:T[a]?=Z T[a]:=iS UN;have z:C.place[a]?=Z (C.place.getD a 0):=by simp[Array.getD,show a<C.place.size by lia]
  have B:(kX T)[a]?=Z T[a].2:=by rw[kX,dU,eA,u];rfl
  refine Bu (next:=zW C.place (a+1)) (f:=T[a].2) L.1 L.2 h rfl (λE F p=>FU L.2 h r s t (B3 j ⋯) ?_) λS g d=>i _ S m.toks B ⟨g,L.2.go λn c=>d.extBut UM n ne c⟩ λo n k c=>d.extBut o n ⇑k c;rw[u,z];exact p
 done:=λm A UH L i=>by
  rw[u0]at L;have y:C.place.size=T.size:=by
   simp only[aV.fits,cS,m5]at h;exact h.1
  refine H_ w L.1 L.2 h rfl (λE F p=>FU L.2 h r s t (B3 j ⋯) ?_) λS d=>i S m.toks λo n k c=>d o n ⇑k c;rw[wF (bb _)];exact p
 self:=λa m A UH L i=>xA L.1 i
theorem QN(r:O.handled=Y)(ne:UM≠l)(h:C.fits T.size=X)(j:D.params.followText "set-order" = X):
  kU US D O l [l,UM] [l] (kX<|jB (D.params.setOrder UM U9) T).length (λa v=>(kX<|jB (D.params.setOrder UM U9) T)[a]?=Z v) (λa e=>gE e l (.int (0:Nat) 0) a UM T.size U9/\iR e UM T U9 C) where
 sub:=λd s=>by
  have:d=l:=by simpa using s
  simp[this]
 frame:=λa e S L q=>⟨L.1.go (q l ↥0),L.2.go (q UM ↥0)⟩
 item:=λa m A UH UN L b=>by
  rw[u0]at UN;have k:(jB (D.params.setOrder UM U9) T)[a]?=Z (jB (D.params.setOrder UM U9) T)[a]:=iS UN;have t:(kX<|jB (D.params.setOrder UM U9) T)[a]?=Z (jB (D.params.setOrder UM U9) T)[a].2:=by rw[kX,dU,eA,k];rfl
  refine Bu (next:=0) (f:=(jB (D.params.setOrder UM U9) T)[a].2) L.1 L.2 h rfl (λu w p=>DR L.2 h j ?_) λS g d=>b _ S m.toks t ⟨g,L.2.go λn c=>d.extBut UM n ne c⟩ λo n i c=>d.extBut o n ⇑i c;rw[k];exact p
 done:=λm A UH L b=>by
  rw[u0]at L;refine H_ r L.1 L.2 h rfl (λu w p=>DR L.2 h j ?_) λS d=>b S m.toks λo n i c=>d o n ⇑i c;rw[wF (bb _)];exact p
 self:=λa m A UH L b=>xA L.1 b
def n9(U1:List Nat):List ab:=(U1.map λ(a:Nat)=>cP a)
def kk(T:Array (Int×ab))(U1:List Nat):List ab:=(U1.filterMap λa=>T[a]?.map (·.2))
theorem H2{T:Array (Int×ab)}:∀{U1:List Nat},(∀u∈U1,u<T.size)->∀(a:Nat) (e:a<U1.length),∃f,T[U1[a]]?=Z f/\(kk T U1)[a]?=Z f.2
 |[],_,a,e=>by cases e
 |u::U1,b,a,e=>by
  have g:u<T.size:=b u (.head _);have c:T[u]?=Z T[u]:=iS g;have h:kk T (u::U1)=T[u].2::kk T U1:=by rw[kk,rR (b:=T[u].2) (by rw[c];rfl)];rfl
  rw[h];cases a with
  |zero=>exact⟨T[u],c,rfl⟩
  |succ a=>
   let⟨@f,y,B⟩:=H2 (λu e=>b u<|.tail _ e) a (EO e);exact⟨f,y,B⟩
theorem xY{T:Array (Int×ab)}:∀{U1:List Nat},(∀u∈U1,u<T.size)->(kk T U1).length=U1.length
 |[],_=>rfl
 |u::U1,a=>by
  have b:u<T.size:=a u (.head _);have c:T[u]?=Z T[u]:=iS b;rw[kk,rR (b:=T[u].2) (by rw[c];rfl),dz,dz];exact congrArg (·+1) (xY λu e=>a u<|.tail _ e)
theorem JF(s:O.handled=Y)(ne:UM≠l)(t:VL≠l)(r:C.fits T.size=X)(i:∀u∈U1,u<T.size):
  kU US D O l [l,UM,VL] [l] (kk T U1).length (λa v=>(kk T U1)[a]?=Z v) (λa e=>gE e l (.ref VL) a UM T.size U9/\iR e UM T U9 C/\∃n,e.get? VL=Z n/\n.data=.seq (n9 U1).toArray VT) where
 sub:=λd w=>by
  have:d=l:=by simpa using w
  simp[this]
 frame:=λa e S L q=>⟨L.1.go (q l ↥0),L.2.1.go (q UM ↥0),let ⟨n,c,j⟩:=L.2.2;⟨n,q VL ↥0 n c,j⟩⟩
 item:=λa m A UH UN L b=>by
  let@⟨k,h,⟨@n,c,j⟩⟩:=L;rw[xY i]at UN;let⟨@f,y,B⟩:=H2 i a UN;refine O_ (f:=f) (c:=U1[a]) (Vq:=0) k h r rfl c j ?_ y λS g d=>b _ S m.toks B ⟨g,h.go λn c=>d.extBut UM n ne c,n,d.extBut VL n t c,j⟩ λo n p c=>d.extBut o n ⇑p c;rw[za,n9,dU,dy UN];rfl
 done:=λm A UH L b=>by
  let@⟨k,h,⟨@n,c,j⟩⟩:=L;refine Q6 s k h r rfl c j ?_ λS d=>b S m.toks λo n p c=>d o n ⇑p c;rw[za,n9,dU,sM (by rw[xY i];exact bb _)];rfl
 self:=λa m A UH L b=>xA L.1 b
end
section
variable{US:bC}{D:bc}{O:bw}{UH:ab->ai->Prop}{m:ai}
def NR{j:ah}{A:Bool->ai->Prop}(a:m.TypeIs (.ref j) "set")(e:A av m):wpAny (aR US D) O (br.List.listLengthHint<|.ref j) A UH m:=by
 unfold br.List.listLengthHint;refine ao (sT a PySem.F.slot_set_len.lookup ?_);generalize c:("set.__len__" : String)=f
 wp_delta
 rw[show splitId f=Z ("set","__len__") from by subst c;decide +kernel];subst c;refine ao (oT (T := "set") (b:=X) a (by rw[rV];kernel_rfl) ?_);refine zT (λb=>absurd b ∅) (λ_=>?_);refine zT (λ_=>?_) (λb=>absurd (by decide +kernel) b);refine ao (zd a ?_);exact aQ e
def Lc(b:U1.Perm (range T.size)):kk T U1=(U1.filterMap λa=>T[a]?).map (·.2)/\(U1.filterMap λa=>T[a]?).Perm T.toList:=by
 refine⟨?_,(b.filterMap _).trans (by rw[FX])⟩;rw[FJ];rfl
end
def LY{N:U_->VR}:∀{b I:List VR},b.Perm I->∀VG:List U_,VG.map N=I->∃a:List U_,a.Perm VG/\a.map N=b:=by
 intro b I u;induction u with
 |nil=>intro VG c;cases List.map_eq_nil_iff.mp c;exact⟨[],.nil,rfl⟩
 |cons f u k=>
  intro VG c;let⟨g,@j,rfl,rfl,e⟩:=zQ.mp c;let⟨@a,h,VI⟩:=k j e;exact⟨g::a,h.cons g,by rw[cw,VI]⟩
 |swap f x I=>
  intro VG c;let⟨g,@j,rfl,rfl,e⟩:=zQ.mp c;let⟨d,@i,rfl,rfl,l⟩:=zQ.mp e;exact⟨d::g::i,.swap g d i,by rw[cw,cw,l]⟩
 |trans h VI m n=>
  intro VG c;let⟨@o,p,q⟩:=n VG c;let⟨@r,s,t⟩:=m o q;exact⟨r,s.trans p,t⟩
theorem Ep{D:bc}{UT:List V->ah->Prop}:∀VG:List (List V×Int×ab),(∀k∈VG,tX D UT k)->∃a:List (List V×ah),VG.map (λk=>k.2.2)=a.map (λk=>ab.ref k.2)/\a.map (·.1)=VG.map (·.1)/\∀k∈a,UT k.1 k.2
 |[],_=>⟨[],rfl,rfl,λ_ e=>(iZ e).elim⟩
 |k::VG,e=>by
  let⟨@d,c,l,f⟩:=e k (.head _);let⟨@a,g,h,i⟩:=Ep VG λk j=>e k (.tail _ j);refine⟨(k.1,d)::a,by rw[cw,cw,g,c],by rw[cw,cw,h],λx b=>?_⟩;rcases b9.mp b with rfl|b
  ·exact f
  ·exact i x b
section
variable{US:bC}{D:bc}{UT:List V->ah->Prop}{O:bw}{UH:ab->ai->Prop}{m:ai}
def Rc{A:ab->ai->Prop}(B:O.handled=Y)(S:fF D UT m.heap UM (h6 D) M)(E:M.length<=300)(e:∀(y:aZ) (r:_) (l:ah) (cc:List ah) (U:List ab) (f:List (List V×ah)) (a7:Nat->aZ->Prop),(∀d n,m.heap.get? d=Z n->y.get? d=Z n)->m.heap.objs.size<=l->(∀d∈cc,d=UM\/m.heap.objs.size<=d)->
   kU US D O l cc [l] U.length (λa v=>U[a]?=Z v) a7->a7 0 y->U=f.map (λk=>ab.ref k.2)->(f.map (·.1)).Perm M->(∀k∈f,UT k.1 k.2)->A (.ref l) {m with heap:=y,drawn:=r}):
  wpAny (aR US D) O (mZ<|.ref UM) A UH m:=by
 let⟨n,T,U9,@C,h,G,s,w⟩:=S;have ty:m.TypeIs (.ref UM) "set" := ⟨n,h,G.1⟩;have H:UM<m.heap.objs.size:=bW h;have al:T.size<=sizeLine:=by rw[w.num];exact df E ∅
 have J:∀I:List (Int×ab),I.Perm T.toList->∃f:List (List V×ah),I.map (·.2)=f.map (λk=>ab.ref k.2)/\(f.map (·.1)).Perm M/\∀k∈f,UT k.1 k.2:=λI bQ=>by
  let⟨@VG,am,an,ap⟩:=w.qv;let⟨@as,L,VI⟩:=LY bQ VG am;let⟨@f,i,o,q⟩:=Ep (D:=D) (UT:=UT) as λk E=>ap k (L.mem_iff.mp E);refine⟨f,?_,?_,q⟩
  ·rw[<-VI,e7];exact i
  ·rw[o];exact (L.map _).trans an
 refine wU ty Dh (g7 Dh ty J3 ?k<|PySem.F.args_set_iter_1 _)
 case k=>
  unfold br.«frozenset.__iter__» br.Frozenset.slot0 br.Frozenset.addrOf br.Frozenset.sizeOf;refine ao (ao<|aQ<|aQ ?_);refine ao (ao<|r9 h s w.fit<|aQ ?_);refine ao ?_;unfold setDrawn;refine ao (k8 h s w.fit ?_);dsimp only;refine ao (u1<|aQ ?_);have a1:D.params.followText "set-order" = X\/(!C.plain&&decide (T.size>1))=av->
    wpAny (aR US D) O.in1 (do let U9 <-setEpoch UM;let j <-newFields "set_iterator" [cP 0,cP 0,.ref UM,cP T.size,cP U9];ret j) (λa2 UI=>∃j,a2=PySem.Fin.done (.ret j)/\∃N p,UI.TypeIs j N/\typeLookup (.type N) "__next__" = pure (Z p)/\A j UI) UH m:=by
   intro bd;refine ao (CS h s w.fit<|ao<|gu<|aQ ⟨_,rfl,"set_iterator",_,⟨_,cR _ rfl,rfl⟩,sG.lookup,?_⟩);have dE:∀d n,m.heap.get? d=Z n->(m.heap.push {cls:=.type "set_iterator",dict:=Y,data:=.fields [cP 0,cP 0,.ref UM,cP T.size,cP U9].toArray}).get? d=Z n:=λd n c=>bT _ c;have Q:gE (m.heap.push {cls:=.type "set_iterator",dict:=Y,data:=.fields [cP 0,cP 0,.ref UM,cP T.size,cP U9].toArray}) m.heap.objs.size (.int (0:Nat) 0) 0 UM T.size U9:=⟨_,cR _ rfl,rfl,rfl⟩;have R:iR (m.heap.push {cls:=.type "set_iterator",dict:=Y,data:=.fields [cP 0,cP 0,.ref UM,cP T.size,cP U9].toArray}) UM T U9 C:=⟨n,dE _ _ h,G,s⟩;have cc:∀d∈[m.heap.objs.size,UM],d=UM\/m.heap.objs.size<=d:=λd g=>by
    rcases b9.mp g with rfl|g
    ·exact .inr (bb _)
    ·exact .inl (cN.mp g)
   cases x:D.params.followText "set-order" with
   |true=>
    have z:=TF (D.params.setOrder UM U9) T;let⟨@f,i,o,q⟩:=J _ z;exact e _ m.drawn _ _ _ _ _ dE (bb _) cc (QN B (cT H) w.fit x) ⟨Q,R⟩ i o q
   |false=>
    have be:=bd.resolve_left (by rw[x];exact cU);let⟨@f,i,o,q⟩:=J _ (.refl _);exact e _ m.drawn _ _ _ _ _ dE (bb _) cc (Ru B (cT H) w.fit x be (by rw[w.tab.led,h6,x];rfl) w.tab.rise) ⟨Q,R⟩ i o q
  show wpAny _ _ (if (!D.params.followText "set-order" && (!C.plain&&decide (T.size>1)))=X then _ else _) _ _ _;cases hd:(!D.params.followText "set-order" && (!C.plain&&decide (T.size>1))) with
  |false=>
   rw[aL cU];refine ao (m:=pure (cP 0)) (aQ<|a1 ?_);cases x:D.params.followText "set-order" with
   |true=>exact .inl rfl
   |false=>rw[x]at hd;exact .inr hd
  |true=>
   rw[aK rfl];refine ao (Gd T.size (range T.size) m _ fM λr U1 z=>?_);have bi:∀u∈U1,u<T.size:=λu e=>eT.mp (z.mem_iff.mp e);have bm:U1.length=T.size:=by rw[z.length_eq,fM]
   refine ao (m:=newObj (.type "tuple") (.seq (n9 U1).toArray)) (gu ?_ (show (n9 U1).toArray.size<=sizeLine by rw[cJ,n9,bl,bm];exact al));refine ao (CS (bT _ h) s w.fit<|ao<|gu<|aQ ⟨_,rfl,"set_iterator",_,⟨_,cR _ rfl,rfl⟩,sG.lookup,?_⟩);let@⟨bn,bs⟩:=Lc z;let⟨@f,i,o,q⟩:=J _ bs;have ef:({m with heap:=m.heap.push {cls:=.type "tuple",dict:=Y,data:=.seq (n9 U1).toArray},drawn:=r}:ai).heap.objs.size=m.heap.objs.size+1:=hD ..;refine e _ r _ [_,UM,m.heap.objs.size] (kk T U1) f _ (λd n c=>bT _<|bT _ c) ?_ ?_ (JF (U9:=U9) (C:=C) (VT:=0) B ?_ ?_ w.fit bi) ⟨⟨_,cR _ rfl,rfl,rfl⟩,⟨n,bT _<|bT _ h,G,s⟩,⟨_,bT _<|cR _ rfl,rfl⟩⟩ (bn.trans i) o q
   ·exact l5 (by rw[hD];exact oL _)
   ·intro d g;rcases b9.mp g with rfl|g
    ·exact .inr (by rw[hD];exact Ex _)
    ·rcases b9.mp g with rfl|g
     ·exact .inl rfl
     ·exact .inr (by rw[cN.mp g];exact bb _)
   ·rw[hD];exact cT (Nat.lt_succ_of_lt H)
   ·rw[hD];exact cT (oL _)
def TL{A:List ab->ai->Prop}(ap:O.handled=Y)(u:fF D UT m.heap UM (h6 D) M)(v:M.length<=300)(e:∀(S:aZ) (Vq:Nat) (r:_) (b:List (List V×ah)),(∀d n,m.heap.get? d=Z n->S.get? d=Z n)->(b.map (·.1)).Perm M->(∀k∈b,UT k.1 k.2)->A (b.map λk=>ab.ref k.2) {m with heap:=S,toks:=Vq,drawn:=r}):
  wpAny (aR US D) O (collect<|.ref UM) A UH m:=by
 have w:UM<m.heap.objs.size:=let ⟨_,_,_,_,c,_⟩:=u;bW c
 unfold collect;refine ao (BF<|l1 entry_proto_collect' ?_);rw[mP PySem.F.plain_proto_collect _];show wpAny _ O.in1 (oo [] >>= λI=>again<|.builtin "list.__iadd__" ⟨[I,.ref UM],[]⟩) _ _ m;refine ao (gu ?_);refine aQ ⟨ma CQ _,l1 entry_list_iadd' ?_⟩;rw[mP CQ _];generalize x:m.heap.push {cls:=.type "list",dict:=Y,data:=.seq ([]:List ab).toArray}=UP;have z:∀d n,m.heap.get? d=Z n->UP.get? d=Z n:=λd n c=>by rw[<-x];exact bT _ c
 have C:UP.get? m.heap.objs.size=Z {cls:=.type "list",dict:=Y,data:=.seq #[]}:=by rw[<-x];exact cR _ rfl
 have E:m.heap.objs.size<UP.objs.size:=bW C;have H:fF D UT UP UM (h6 D) M:=u.at λn c=>z UM n c;have ty:ai.TypeIs {m with heap:=UP} (.ref UM) "set" := let ⟨n,_,_,_,c,f,_⟩:=H;⟨n,c,f.1⟩
 show wpAny _ O.in1 (br.List.listExtendWith (.ref m.heap.objs.size) (.ref UM)<|.ref m.heap.objs.size) _ _ _;unfold br.List.listExtendWith;refine ao (zd (T := "set") ty ?_);have y:br.List.listSameRef (.ref m.heap.objs.size) (.ref UM)=av:=by simp[br.List.listSameRef,hi w]
 have B:(ab.type "set" == ab.type "list")=av:=by decide
 have as:(ab.type "set" == ab.type "tuple")=av:=by decide
 simp only[y,B,as,Bool.or_false,gs,ft];refine ao (Rc (m:={m with heap:=UP}) ap H v λB r l cc U b a7 Vt ef a1 W L my Vr J=>?_);have a2:U.length<=sizeLine:=by rw[my,bl,<-bl (f:=(·.1)),Vr.length_eq];exact df v ∅
 have Q:m.heap.objs.size∉cc:=λi=>by
  rcases a1 _ i with c|c
  ·exact absurd c (hi w)
  ·exact absurd E (pw.mpr c)
 have p:B.get? m.heap.objs.size=Z {cls:=.type "list",dict:=Y,data:=.seq #[]}:=Vt _ _ C;have bd:ai.TypeIs {m with heap:=B,drawn:=r} (.ref UM) "set" := let ⟨n,c,o⟩:=ty;⟨n,Vt _ _ c,o⟩
 have G:∀(g:aZ) (o:Nat) (UG:rU->ai->Prop),a7 0 g->(∀d n,d≠m.heap.objs.size->B.get? d=Z n->g.get? d=Z n)->g.get? m.heap.objs.size=Z {cls:=.type "list",dict:=Y,data:=.seq #[] o}->
   (∀(S:aZ) (Vq:Nat) (h:Nat),(∀d n,m.heap.get? d=Z n->S.get? d=Z n)->S.get? m.heap.objs.size=Z {cls:=.type "list",dict:=Y,data:=.seq U.toArray h}->UG (.ok<|.ret<|.ref m.heap.objs.size) {m with heap:=S,toks:=Vq,drawn:=r})->
   codeAny (aR US D) O (.builtin "list.extend.loop" ⟨[.ref m.heap.objs.size,.ref l,.ref m.heap.objs.size],[]⟩) UG {m with heap:=g,drawn:=r}:=λg o UG L dE be bi=>
  codeAny_extend_loopS W.toS a2 m.heap.objs.size Q (.ref m.heap.objs.size) U.length 0 _ #[] o rfl (gk _) L be (ItemsOf.nil _) λUI Vv h i R T=>by
   rw[show UI={m with heap:=UI.heap,toks:=UI.toks,drawn:=r} from by let⟨P,bm,bn,bs,P⟩:=i;cases UI;cases bm;cases bn;cases bs;rfl];have bv:Vv=U.toArray:=by
    apply B8.mp;apply z2
    ·rw[dk];exact T.1
    ·intro a ca cd;have:=T.2 a Vv.toList[a] (by rw[<-eA];exact dy ca);have this:U[a]?=Z Vv.toList[a]:=this;rw[dy cd]at this;exact (Option.some.inj this).symm
   rw[bv]at R;refine bi UI.heap UI.toks h (λd n c=>i.heap d n (λq=>?_)<|dE d n (cT<|bW c)<|Vt d n<|z d n c) R;rcases b9.mp q with ce|q
   ·exact absurd (bW c) (by rw[ce];exact gI _)
   ·have al:=bW c;rw[cN.mp q]at al;have:m.heap.objs.size<=l:=df (l5 E) ef;exact absurd al (pw.mpr this)
 refine ao (gP<|NR (m:={m with heap:=B,drawn:=r}) bd ?_);refine zT (λ_=>?_) (λ_=>aQ ⟨ma F9 _,G _ 0 _ L (λd n P c=>c) p λS Vq h s t=>ao (xt t (aQ (by rw[my];exact e S Vq r b s Vr J)))⟩);refine ao (i_ ?_);refine ao ?_;show wpAny _ _ (v3 m.heap.objs.size (·.push .none) >>= λ_=>v3 m.heap.objs.size (·.pop)) _ _ _;refine ao (rk (s:={m with heap:=B,drawn:=r}) p rfl ?_);have am:=l6 (aX.mapSeq (·.push ab.none)) p rfl;refine rk (hz:=by seq_fits) am rfl ?_;have ch:=l6 (aX.mapSeq (·.pop)) am rfl;refine aQ ⟨ma F9 _,G _ _ _ ?_ (λd n j c=>?_) ch λS Vq h s t=>ao (xt t (aQ (by rw[my];exact e S Vq r b s Vr J)))⟩
 ·refine W.frame 0 _ _ L λd j n c=>?_;have an:d≠m.heap.objs.size:=λe=>Q (e ▸ j);exact (gJ _ _<|Ne.symm an).trans ((gJ _ _<|Ne.symm an).trans c)
 ·exact (gJ _ _<|Ne.symm j).trans ((gJ _ _<|Ne.symm j).trans c)
end
end L2
namespace L2
open Spec PyProof.Rows PySem.W
section
variable{b:aO}{R:List (ah×aX)}{z:a7}{h:ax}{m:ai}
def aF.T3(l:aF b R z h m)(r:Drawn):aF b R z h {m with drawn:=r}:=⟨l.ok,l.os,l.bare,l.base,l.loc,l.cell,l.free,l.hF,l.pin,l.aY,l.len⟩
end
variable{Wh UZ VI u:Pos}{g:bh}{M:List (List V)}
def ie.perm{H T:List V}(n:ie H)(u:T.Perm H):ie T:=
 ⟨⟨by rw[u.length_eq];exact n.ord.dI,λg a d b=>n.ord.hL g (u.mem_iff.mp a) d<|u.mem_iff.mp b,u.nodup_iff.mpr n.ord.aj⟩,n.fst.imp (λe r hd=>e r<|u.mem_iff.mp hd) λe r hd=>e r<|u.mem_iff.mp hd⟩
theorem C0{h:ax}:∀{a:List (List V×ah)},(∀k∈a,cf h (.tup k.1)<|.ref k.2)->bI h ((a.map (·.1)).map .tup) (a.map λk=>ak.ref k.2)
 |[],_=>rfl
 |k::a,e=>⟨_,_,rfl,e k<|.head _,C0 λx b=>e x<|.tail _ b⟩
theorem Ap:∀a:List (List V×ah),cp (a.map λk=>ak.ref k.2) (a.map λk=>ab.ref k.2)
 |[]=>.nil
 |k::a=>.cons rfl (Ap a)
section
variable{b:aO}{R:List (ah×aX)}{z:a7}{h:ax}{m:ai}{UT:List V->ah->Prop}
def Qo(ap:b.calm=X)(co:b.A.units+20<bR){UM:ah}{M:List (List V)}{A:cL}(l:aF b R z h m)(as:fF b.w UT m.heap UM (h6 b.w) M)(a1:∀q d,UT q d->cf h (.tup q) (.ref d))(n:ie (M.map .tup))(C:M.length<=300)(p:∀I VG,h I=Y->bI h (fy bp<|M.map .tup) VG->A (.ref I) (upd h I<|.lst VG)):
  wpAny (aR b.prog b.w) b.A (call (.builtin "sorted") [.ref UM]) (ec b R z A) b.cF m:=by
 refine yd we vF uO (A3 _) ?k
 case k=>
  unfold br.«sorted»;refine ao (m:=t_ "sorted" 1 1 _) (aQ<|ao<|TL (O:=b.A.in1) (l.ok.hd ap) as C λS Vq r g a2 Vr bd=>?_);have E:aF b R z h {m with heap:=S,toks:=Vq,drawn:=r}:=(l.T3 r).kept (Vd:=Vq) a2;have UN:bI h ((g.map (·.1)).map .tup) (g.map λk=>ak.ref k.2):=C0 λk C=>a1 _ _ (bd k C);have o:dG S ((g.map (·.1)).map .tup) (g.map λk=>ab.ref k.2):=UN.e8 E.aY (Ap g);have F:((g.map (·.1)).map V.tup).Perm (M.map .tup):=Vr.map _;have Vo:=n.perm F;have be:g.length<=300:=by rw[<-bl (f:=(·.1)),Vr.length_eq];exact C
  generalize cr:(g.map (·.1)).map V.tup=H at UN o F Vo;generalize bi:g.map (λk=>ak.ref k.2)=U0 at UN;have G:cp U0 (g.map λk=>ab.ref k.2):=bi ▸ Ap g;generalize bm:g.map (λk=>ab.ref k.2)=UW at o G ⊢;have T:UW.length=H.length:=o.length.symm;have bn:UW.length<=300:=by rw[<-bm,bl];exact be
  show wpAny _ _ (oo UW >>= _) _ _ _;refine ao (o4 ?_ (df bn ∅));have U:(S.push<|dg "list" UW.toArray 0).get? S.objs.size=Z (dg "list" UW.toArray 0):=cR _ rfl;refine ao (gP<|g7 tJ ⟨_,U,rfl⟩ wJ ?x<|Ac _)
  case x=>
   have L:∀i:aZ,(∀d Vl,d≠S.objs.size->(S.push<|dg "list" UW.toArray 0).get? d=Z Vl->i.get? d=Z Vl)->∀d Vl,S.get? d=Z Vl->i.get? d=Z Vl:=λi s d Vl c=>s d Vl (cT<|bW c) (bT _ c);refine xr (m:={m with heap:=S.push (dg "list" UW.toArray 0),toks:=Vq,drawn:=r}) (kW H) (ou<|decide (∀r∈H,hO r=X)) U (λB i s A bs=>tE (e:=i) (m:={m with heap:=i,toks:=Vq,drawn:=r}) Vo.w B (o.pZ<|L i s) _ _ A bs) (λi s=>?_) (.inl ⋯) ⋯ λu B j al Vt ⟨bv,ca⟩=>⟨_,rfl,aQ ⟨_,rfl,?_⟩⟩
   ·refine v7 (m:={m with heap:=i,toks:=Vq,drawn:=r}) Vo.w.ord (o.pZ<|L i s) Vo.w.tup (λcd=>fY cd) (by show b.A.units+1+1+9<bR;lia)
   ·have ce:h S.objs.size=Y:=E.aY.fresh (bb _);rw[T]at j al;have ch:(u.toList.map λa=>H.getD a .aS)=fy bp (M.map .tup):=uV n.w.ord ((sj j).trans F) (uS Vo.w.ord j al);have am:=UN.pick (u:=u.toList) λq P=>eT.mp (j.mem_iff.mp P);rw[ch]at am;refine⟨.ref S.objs.size,upd h S.objs.size<|.lst<|u.toList.map λa=>U0.getD a .aS,?_,rfl,p _ _ ce am⟩;refine E.laid (Vd:=Vq) (λd J c=>L B Vt d J c) (bb _) ⟨?_,_,bv,?_,ca⟩
    ·rw[bl,dk,j.size];exact df (by lia:H.length<=300) ∅
    ·refine tb ↥0 λa v J y B=>?_;rw[dU]at y B;cases Q:u.toList[a]? with
     |none=>rw[Q]at y;cases y
     |some q=>
      rw[Q]at y B;cases y;cases B;have P:q<H.length:=eT.mp (j.mem_iff.mp<|gF Q);have an:q<U0.length:=by rw[G.length,T];exact P
      let⟨@J,ci,cl⟩:=G.get (a:=q) (f:=U0[q]) (dy an);show bY (U0.getD q .aS) (UW.getD q .none);rw[cA,dy an,cA,ci];exact cl
def hp(M:List (List V)):List (List V):=(M.foldl ir [])
theorem x6(M:List (List V)):∀a,a<=M.length->i7 (λa=>M.getD a []) a=(M.take a).foldl ir []
 |0,_=>by rw[zI];rfl
 |a+1,e=>by
  rw[List.take_succ_eq_append_getElem (show a<M.length from e),Iq,<-x6 M a (Nat.le_of_succ_le e)];show ir _ (M.getD a [])=ir _ M[a];rw[cA,dy<|show a<M.length from e];rfl
def Sm(I:List (List V)):∀Vv:List (List V),Vv.length<=(I.foldl ir Vv).length:=by
 induction I with
 |nil=>intro Vv;exact bb _
 |cons q j a=>
  intro Vv;refine df ?_ (a _);unfold ir;split
  ·exact bb _
  ·rw[dW];exact mQ _ _
def Sw{a:Nat}(e:a<=M.length):(i7 (λa=>M.getD a []) a).length<=(hp M).length:=by
 rw[x6 M a e];have c:hp M=(M.drop a).foldl ir ((M.take a).foldl ir []):=by
  rw[hp,<-Iq,fq]
 rw[c];exact Sm _ _
def RZ(M:List (List V)):i7 (λa=>M.getD a []) M.length=hp M:=by
 rw[x6 M _ (bb _),tp];rfl
def M8(VC:eZ):cb:=(λz h A=>VC z h λU UP=>∃(g:ah) (M:List (List V)) (U0:List ak),U=[.ref g]/\UP g=Z (.tup U0)/\bI UP (M.map .tup) U0/\(∀q∈M,V.keys 7 q=X)/\ie ((hp M).map .tup)/\(hp M).length<300/\
 ∀I VG,UP I=Y->bI UP (fy bp<|(hp M).map .tup) VG->A (.ref I) (upd UP I<|.lst VG))
theorem bI.at{h:ax}:∀{H:List V}{U:List ak}{a:Nat}{v:ak},bI h H U->U[a]?=Z v->∃r,H[a]?=Z r/\cf h r v
 |[],U,a,v,e,c=>by rw[show U=[] from e]at c;simp at c
 |r::H,U,0,v,e,c=>by
  let⟨J,@j,rfl,y,B⟩:=e;cases c;exact⟨r,rfl,y⟩
 |r::H,U,a+1,v,e,c=>by
  let⟨J,@j,rfl,y,B⟩:=e;let⟨@VD,b,d⟩:=bI.at (a:=a) B ⇑c;exact⟨VD,by simpa using b,d⟩
def RM(C:b.calm=X)(F:b.A.units+30<bR){I:ah}{M:List (List V)}{U0:List ak}{A:ab->ai->Prop}(l:aF b R z h m)(G:h I=Z (.tup U0))(UN:bI h (M.map .tup) U0)(H:∀q∈M,V.keys 7 q=X)(U:(hp M).length<300)(e:∀S Vq UM,aF b R z h {m with heap:=S,toks:=Vq}->fF b.w (λq d=>V.keys 7 q=X/\cf h (.tup q) (.ref d)) S UM (h6 b.w) (hp M)->A (.ref UM) {m with heap:=S,toks:=Vq}):
  wpAny (aR b.prog b.w) b.A (call (.type "set") [.ref I]) A b.cF m:=by
 let@⟨k,⟨@UW,c,⟨@n,L,N,⟨@s,P⟩⟩⟩⟩:=l.aY I _ G;have Q:UW.length=M.length:=by rw[<-c.length,<-UN.length,bl]
 have j:UW.toArray.size=M.length:=by rw[cJ,Q]
 refine NH (UT:=λq d=>V.keys 7 q=X/\cf h (.tup q) (.ref d)) (Vj:=UW.toArray) (M:=M) (l.ok.hd C) L (Prod.mk.inj N).1 P F (λa v g=>?_) (λp d k=>⟨k.1,k.2.e8 l.aY rfl⟩) (λa UN=>?_) λS Vq o dE=>?_
 ·rw[za]at g;have t:a<U0.length:=by rw[c.length];exact (eV.mp g).1
  let⟨@J,u,x⟩:=c.get (a:=a) (f:=U0[a]) (dy t);rw[g]at u;cases u;let⟨@r,y,i⟩:=UN.at (a:=a) (v:=U0[a]) (dy t);rw[dU]at y;let⟨@q,B,rfl⟩:=cm.mp y;let⟨d,@E,T,al,am⟩:=id i;rw[T]at x i;refine⟨d,x,?_⟩;rw[cA,B];exact⟨H q<|gF B,i⟩
 ·rw[j]at UN;have:=Sw (M:=M) (l5 UN);lia
 ·rw[j,RZ]at o;exact e S Vq _ (l.kept (Vd:=Vq) dE) o
def Oo{VC:eZ}(a:b.calm=X)(c:b.A.units+30<bR)(f:eM b "sorted")(i:b.aM "sorted" = Y)(j:eM b "set")(n:b.aM "set" = Y)(o:hz b [g] VC)(ar:bS [g] b.env=[(av,b7 g b.env)]:=by rfl):
  bD b (.Call (.Name "sorted" VI) [.Call (.Name "set" u) [g] [] UZ] [] Wh) (M8 VC):=by
 intro R m z h A l e;refine rQ (m3 l f i (show e9 "sorted" = Z (.builtin "sorted") by decide +kernel) (Hu ?_ rfl rfl) ∅ ∅);refine z0 ?_;refine Call_ (m3 l j n (show e9 "set" = Z (.type "set") by decide +kernel)<|uA (bZ (o UZ R m z h _ l e) λVa E ⟨U,UP,r,s,t⟩=>?_) ar rfl);let⟨I,M,@U0,rfl,v,UN,w,x,y,p⟩:=t;let⟨@J,rfl,B⟩:=iM s;cases B;exact RM a c r v UN w y λS Vq UM C D=>yP (Qo a ⋯ C D (λq d k=>k.2) x ⋯ p)
end
def pd:List V->Option (List<|List V)
 |[]=>Z []
 |.tup g::j=>(pd j).map (g::·)
 |_=>Y
theorem I2:∀{f:List V}{M:List (List V)},pd f=Z M->f=M.map .tup
 |[],M,e=>by cases e;rfl
 |.tup g::j,M,e=>by
  let⟨@q,y,rfl⟩:=cm.mp e;rw[I2 y];rfl
 |.aS::_,_,e=>by cases e
 |.aE _::_,_,e=>by cases e
 |.int _::_,_,e=>by cases e
 |.str _::_,_,e=>by cases e
 |.fn _::_,_,e=>by cases e
 |.aT _::_,_,e=>by cases e
 |.fd::_,_,e=>by cases e
theorem DE:∀M:List (List V),pd (M.map .tup)=Z M
 |[]=>rfl
 |q::M=>by
  show (pd<|M.map .tup).map (q::·)=_;rw[DE M];rfl
def uU(M:List (List V)):Bool:=(M.all (V.keys 7)&&decide ((hp M).length<300))
def lY(F:ay (List bJ)):ay ag:=(λw=>(F w).bind λu=>(gw u.2 u.1).bind λH=>match H with
 |[.im (.tup f)]=>(pd f).bind λM=>if uU M=X/\pg ((hp M).map .tup)=X then Z (.lst<|fy bp<|(hp M).map .tup,u.2) else Y
 |_=>Y)
def FD:uU M=X↔(∀q∈M,V.keys 7 q=X)/\(hp M).length<300:=by
 unfold uU;rw[cS,kg,je]
section
variable{b:aO}
def E7{F:ay (List bJ)}(o:b.A.units+30<bR)(q:eM b "sorted")(r:b.aM "sorted" = Y)(s:eM b "set")(t:b.aM "set" = Y)(e:fA b [g] F)(ar:bS [g] b.env=[(av,b7 g b.env)]:=by rfl)(x:b.calm=X:=by rfl):
  b5 b (.Call (.Name "sorted" VI) [.Call (.Name "set" u) [g] [] UZ] [] Wh) (lY F):=by
 refine eh (Oo x o q r s t e ar) λz h A C=>?_;let⟨w,P,j,@U4,L,aj,D,p⟩:=C;let⟨@⟨U5,UR⟩,y,B⟩:=bN.mp D;let⟨@H,G,i⟩:=bN.mp B;refine⟨w,P,U5,UR,L,aj,y,λU UP U3 al k J N=>?_⟩;have Q:=J.read k G;split at i
 ·rename_i f;let⟨@M,R,l⟩:=bN.mp i;split at l
  ·rename_i m;cases l;let⟨@v,rfl,c⟩:=y0 Q;let⟨d,@E,rfl,S,UN⟩:=(show ∃g E,v=ak.ref g/\UP g=Z (.tup E)/\bI UP f E from c);cases I2 R;let@⟨Vf,Vt⟩:=FD.mp m.1;refine⟨d,M,E,rfl,S,UN,Vf,n3.mp m.2,Vt,λI VG aT T=>?_⟩;have a:bV UP (upd UP I<|.lst VG):=(bV.refl UP).upd aT;exact p _ _ U3 [I] (k.mono a.tupS λg W n c=>a g n c) ⟨I,_,rfl,dp,T.mono a.tupS.tup,rfl⟩ (N.new a (gh _ _) (λg e=>by rw[cN.mp e];exact aT) k.chg)
  ·cases l
 ·cases i
end
end L2
namespace L2
open Spec PyProof.Rows
section
variable{b:aO}
def PY{U2:eO}{own:List aC}{Vh:List Nat}(e:t4 b.env.scope b.N U2 Vh=X):hK b U2 own Vh:=nv _ _ e rfl rfl
end
variable{e VH M:ay bJ}{d g c:bh}{T:List bh}{UZ u:Pos}{t q s:Nat}{F:ay (List bJ)}{Vg:List Nat}{Vb U1:List aC}{N:ah}{L:cM}{VN f:aC}{UK:Φ}{UU:dA}
def s9:List (ah×aX)->Bool
 |[]=>X
 | (_,n)::j=>(match n.data with
  |.seq _ _=>(match n.cls with | .type s=>s != "list" |_=>X)
  |_=>X)&&s9 j
def N7{UK:List (ah×aX)}{g:ah}{n:aX}{UW:Array ab}(e:s9 UK=X)(c:UK.lookup g=Z n)(a:n.cls=.type "list")(hd:n.data=.seq UW s):False:=by
 induction UK with
 |nil=>cases c
 |cons u j b=>
  let⟨d,f⟩:=u;rw[s9,cS]at e;simp only[List.lookup]at c;split at c
  ·cases c;have y:=e.1;rw[hd]at y;dsimp only at y;rw[a]at y;exact absurd y ∅
  ·exact b e.2 c
theorem Co{h:ax}:∀U8:List Int,bI h (U8.map .int) (U8.map ak.int)
 |[]=>rfl
 |s::j=>⟨.int s,_,rfl,rfl,Co j⟩
def JH(a:s9 UK=X)(h:ax)(g:ah)(U8:List Int)(b:qS h)(d:c9 UK h g (U8.map ak.int))(bP:∃l,UU [.c2 (U8.map .int)]=Z (.im<|.aE X,l)){UH:fO}:jY 1 UU [.ref g] h (λv W=>v=.aE X) UH:=by
 let⟨@l,bP⟩:=bP;have f:∃n,h g=Z (.b6 n<|.lst<|U8.map ak.int):=by
  rcases d with (e|e)|⟨n,UW,s,y,B,k,i,_⟩
  ·rcases b g with c|⟨n,E,c⟩|⟨E,c⟩|c
   ·rw[c]at e;cases e
   ·rw[c]at e;cases e
   ·rw[c]at e;cases e
   ·rw[c]at e;cases e
  ·exact e
  ·exact (N7 a y B i).elim
 let⟨@n,j⟩:=f;refine⟨rfl,[.c2 (U8.map .int)],[],.im<|.aE X,l,⟨_,_,[],[],rfl,⟨g,_,n,rfl,j,Co U8,rfl⟩,⟨rfl,rfl⟩,rfl⟩,g4,bP,λv Q UG m e W W=>?_⟩;exact e.1
def kS{Va:List ab}(e:Va.length=s+1):∃g j,Va=g::j/\j.length=s:=by
 cases Va with
 |nil=>cases e
 |cons g j=>exact⟨g,j,rfl,Nat.succ.inj e⟩
def fT.RS{fd:gG}(P:fT UK f VN L N fd)(e:∀(cv i Vr:ab) (w:Option ah) (k ct:ab) (g:ab),jx (Ξ f VN (iJ L) (fL L) (dm L) .none cv i Vr w k ct) ⟨[g],[]⟩=pure (U1.zip [g]))(b:U1.length=1:=by rfl):jg UK fd U1 []:=
 P.binds λcv i Vr w k ct Va a=>by
  replace a:=a.trans b;let⟨g,@c,rfl,y⟩:=kS a;obtain rfl:=lT y;exact e cv i Vr w k ct g
def fT.Nc{fd:gG}(P:fT UK f VN L N fd)(e:∀(cv i Vr:ab) (w:Option ah) (k ct:ab) (g d:ab),jx (Ξ f VN (iJ L) (fL L) (dm L) .none cv i Vr w k ct) ⟨[g,d],[]⟩=pure (U1.zip [g,d]))(b:U1.length=2:=by rfl):jg UK fd U1 []:=
 P.binds λcv i Vr w k ct Va a=>by
  replace a:=a.trans b;let⟨g,@c,rfl,y⟩:=kS a;let⟨d,@h,rfl,B⟩:=kS y;obtain rfl:=lT B;exact e cv i Vr w k ct g d
def fT.S0{fd:gG}(P:fT UK f VN L N fd)(e:∀(cv i Vr:ab) (w:Option ah) (k ct:ab) (g d o:ab),jx (Ξ f VN (iJ L) (fL L) (dm L) .none cv i Vr w k ct) ⟨[g,d,o],[]⟩=pure (U1.zip [g,d,o]))(b:U1.length=3:=by rfl):jg UK fd U1 []:=
 P.binds λcv i Vr w k ct Va a=>by
  replace a:=a.trans b;let⟨g,@h,rfl,y⟩:=kS a;let⟨d,@j,rfl,B⟩:=kS y;let⟨o,@l,rfl,c⟩:=kS B;obtain rfl:=lT c;exact e cv i Vr w k ct g d o
def fT.M4{fd:gG}(P:fT UK f VN L N fd)(e:∀(cv i Vr:ab) (w:Option ah) (k ct:ab) (g d o r:ab),jx (Ξ f VN (iJ L) (fL L) (dm L) .none cv i Vr w k ct) ⟨[g,d,o,r],[]⟩=pure (U1.zip [g,d,o,r]))(b:U1.length=4:=by rfl):jg UK fd U1 []:=
 P.binds λcv i Vr w k ct Va a=>by
  replace a:=a.trans b;let⟨g,@j,rfl,y⟩:=kS a;let⟨d,@l,rfl,B⟩:=kS y;let⟨o,@m,rfl,c⟩:=kS B;let⟨r,@n,rfl,h⟩:=kS c;obtain rfl:=lT h;exact e cv i Vr w k ct g d o r
structure fi where
 P:bC
 w:bc
 K:Φ
 aM:aC->Option ab
 base:aZ
def d4(UK:Φ)(f:aC)(L:cM)(N:ah):Prop:=(∃fd,fT UK f f L N fd/\Ψ UK dx f=Z (Z<|.ref N))
def ey(UK:Φ)(aM:aC->Option ab)(f:aC)(L:cM)(N:ah)(U1:List aC):Prop:=(∃fd,fT UK f f L N fd/\jg UK fd U1 []/\aM f=Z (.ref N))
def jZ(UT:bC)(D:bc)(UK:Φ)(aM:aC->Option ab)(UY:aZ)(q:Nat)(f:aC)(L:cM)(N:ah)(U1:List aC)(s:Nat)(UU:dA):Prop:=(∃fd,fT UK f f L N fd/\jg UK fd U1 []/\aM f=Z (.ref N)/\h5 UT D UK aM UY gB q N fd U1 (jY s UU))
abbrev fE(o:fi):=jZ o.P o.w o.K o.aM o.base
def Ga{G:ab}{V2 w:Option ah}{y:Array (Option ab)}{cv i Vr k ct:ab}(g:Ψ UK dx f=Z (Z<|.ref N))(I:UK.lookup N=Z ⟨G,V2,.func<|Ξ f f (iJ L) (fL L) (dm L) .none cv i Vr w k ct,y⟩)(o:Φa UK k f=X)(q:Γ UK (.ref N)=X):d4 UK f L N:=⟨_,Ml I o q,g⟩
section
variable{UT:bC}{D:bc}{UK:Φ}{aM:aC->Option ab}{UY e:aZ}{q s:Nat}{f:aC}{L:cM}{N:ah}{U1:List aC}{UU:dA}
def d4.c5(j:d4 UK f L N)(b:UK.In e)(c:e.Ns dx aM)(d:∀(cv i Vr:ab) (w:Option ah) (k ct g:ab),jx (Ξ f f (iJ L) (fL L) (dm L) .none cv i Vr w k ct) ⟨[g],[]⟩=pure (U1.zip [g]):=by intros;rfl)(h:U1.length=1:=by rfl):ey UK aM f L N U1:=
 have ⟨_,a,g⟩:=j
 ⟨_,a,a.RS d h,oq b c g⟩
def d4.dM(j:d4 UK f L N)(b:UK.In e)(c:e.Ns dx aM)(h:∀(cv i Vr:ab) (w:Option ah) (k ct g d:ab),jx (Ξ f f (iJ L) (fL L) (dm L) .none cv i Vr w k ct) ⟨[g,d],[]⟩=pure (U1.zip [g,d]):=by intros;rfl)(l:U1.length=2:=by rfl):ey UK aM f L N U1:=
 have ⟨_,a,g⟩:=j
 ⟨_,a,a.Nc h l,oq b c g⟩
def d4.jA(j:d4 UK f L N)(b:UK.In e)(c:e.Ns dx aM)(h:∀(cv i Vr:ab) (w:Option ah) (k ct g d o:ab),jx (Ξ f f (iJ L) (fL L) (dm L) .none cv i Vr w k ct) ⟨[g,d,o],[]⟩=pure (U1.zip [g,d,o]):=by intros;rfl)(l:U1.length=3:=by rfl):ey UK aM f L N U1:=
 have ⟨_,a,g⟩:=j
 ⟨_,a,a.S0 h l,oq b c g⟩
def d4.jm(j:d4 UK f L N)(b:UK.In e)(c:e.Ns dx aM)(h:∀(cv i Vr:ab) (w:Option ah) (k ct g d o r:ab),jx (Ξ f f (iJ L) (fL L) (dm L) .none cv i Vr w k ct) ⟨[g,d,o,r],[]⟩=pure (U1.zip [g,d,o,r]):=by intros;rfl)(l:U1.length=4:=by rfl):ey UK aM f L N U1:=
 have ⟨_,a,g⟩:=j
 ⟨_,a,a.M4 h l,oq b c g⟩
def jZ.fd{fd:gG}(aN:jZ UT D UK aM UY q f L N U1 s UU)(b:fT UK f f L N fd):h5 UT D UK aM UY gB q N fd U1 (jY s UU):=by
 let⟨@e,d,W,W,F⟩:=aN;let⟨G,V2,cv,i,Vr,w,k,ct,@y,c,I,W⟩:=b.ex;let⟨g,h,j,l,m,n,o,p,@r,t,a,W⟩:=d.ex;rw[I]at a;cases a;exact F
def NB(j:d4 UK f L N)(b:UK.In e)(h:e.Ns dx aM){a:ah}(l:aM f=Z (.ref a)){u:aC}(n:∀(cv i Vr:ab) (w:Option ah) (k ct:ab) (m:ai) (v:ab),nu m (Ξ f f (iJ L) (fL L) (dm L) .none cv i Vr w k ct) ⟨[v],[]⟩ [(u,v)])(aN:∀UY,jZ UT D UK aM UY q f L N [u] s UU):
  ∃fd:gG,(∀(m:ai) (v:ab),nu m fd ⟨[v],[]⟩ [(u,v)])/\∀UY:aZ,UK.In UY->UY.Ns dx aM->h5 UT D UK aM UY gB q a fd [u] (jY s UU):=by
 let⟨@fd,c,g⟩:=j;cases l.symm.trans (oq b h g);refine⟨fd,?_,λd U U=>(aN d).fd c⟩;let⟨G,V2,cv,i,Vr,w,k,ct,@y,rfl,I,U⟩:=c.ex;exact n cv i Vr w k ct
def P8{F:bO}(P:ey UK aM f L N U1)(UM:ks Vb U1 (dm L))(c:U1.length=s)(e:∀a∈Vg,a<s)(g:Vb.Nodup->∀(k:ab) (O:bw) (VF:List eu) (m:ai) (h:ax) (UH:fO),dB q (O.deeper<|h3 f (dm L) m.heap.objs.size N k)->h7 (ja gB UT D UK aM UY Vb f (dm L) N k O VF m h UH).jN Vg (fL L) F):
  jZ UT D UK aM UY (q+1) f L N U1 s (dF s Vb.length Vg F):=
 have ⟨_,b,d,t⟩:=P
 ⟨_,b,d,t,P_ b UM c e<|g UM.aj⟩
end
section
variable{b:aO}
def HV(aN:jZ b.prog b.w b.K b.aM b.base q f L N U1 s UU)(UQ:dB t b.A)(a:eM b f)(e:fA b (c::T) F)(g:q<=t:=by decide)(h:(f==("__debug__" : aC))=av:=by decide)(i:bS (c::T) b.env=(av,b7 c b.env)::bS T b.env:=by rfl)(j:(e5 UZ<|bS T b.env).any (·.1)=av:=by rfl):
  b5 b (.Call (.Name f u) (c::T) [] UZ) (bL s UU F):=
 have ⟨_,k,d,t,P⟩:=aN
 Su P (UQ.mono g) a t k.dE d e h i j
def bu{a:Int}{i UZ}:dN b (.Constant (.int a) i UZ) (ae<|az<|.int a):=a_ j8
def aI(a:Nat){f:aC}{UZ:Pos}(c:b.N[a]?=Z f:=by rfl)(d:oU b.env.scope f:=by first|exact Or.inl rfl|exact Or.inr (Or.inl rfl)|exact Or.inr (Or.inr rfl))(hd:(f==("__debug__" : aC))=av:=by decide)(e:(f==("__classdict__" : aC))=av:=by decide):dN b (.Name f UZ) (au a):=KS (Gu c d hd e)
def cq{F:ay bJ}(a:dN b c F)(ar:bS [c] b.env=(av,b7 c b.env)::bS [] b.env:=by rfl):fA b [c] (aq F aG):=nI a o8 ar
def k7(UQ:dB t b.A)(a:dN b g M)(c:dN b d VH)(ar:mD d:=by exact λ_ W=>rfl):b5 b (.Subscript g d UZ) (aD bH M VH):=C_ (PM (by have:=UQ.un;lia)) a c ar
def cK{N:bh}{F:ay bJ}(a:dN b c F)(d:dN b N e)(ar:bS [c,N] b.env=(av,b7 c b.env)::bS [N] b.env:=by rfl)(B:bS [N] b.env=(av,b7 N b.env)::bS [] b.env:=by rfl):fA b [c,N] (aq F<|aq e aG):=nI a (cq d B) ar
def h9{N r:bh}{F q:ay bJ}(a:dN b c F)(d:dN b N e)(hd:dN b r q)(ar:bS [c,N,r] b.env=(av,b7 c b.env)::bS [N,r] b.env:=by rfl)(y:bS [N,r] b.env=(av,b7 N b.env)::bS [r] b.env:=by rfl)(B:bS [r] b.env=(av,b7 r b.env)::bS [] b.env:=by rfl):fA b [c,N,r] (aq F<|aq e<|aq q aG):=nI a (cK d hd y B) ar
def eP(a:Nat){f:aC}{c:bh}{F:ay ag}{UZ V5:Pos}(d:b.N.Nodup)(e:b5 b c F)(UN:b.N[a]?=Z f:=by rfl)(g:hc b.env.scope f:=by exact Or.inl rfl)(h:a∉Vg:=by decide)(ar:oj c (Z<|.Name f V5) UZ.line b.env=pure av:=by rfl)(i:b.fn f=X\/b.env.scope.names.lookup f=Z .local:=by first|exact .inl rfl|exact .inr rfl|assumption):iw b Vg (.Assign [.Name f V5] c UZ) (cD a F):=mB d UN g e h ar i
def gU(a:Nat){f:aC}{UZ:Pos}(c:b.N.Nodup)(UN:b.N[a]?=Z f:=by rfl)(d:hc b.env.scope f:=by exact Or.inl rfl)(e:a∉Vg:=by decide)(g:b.fn f=X\/b.env.scope.names.lookup f=Z .local:=by first|exact .inl rfl|exact .inr rfl|assumption):hY b Vg (.Name f UZ) (bG a):=rf c UN d e g
def uo:List aC->Bool
 |[]=>X
 |f::I=>!I.contains f&&uo I
theorem I5:∀{I:List aC},uo I=X->I.Nodup
 |[],_=>g4
 |f::I,e=>by
  rw[uo,cS,nL]at e;refine gC.mpr ⟨λk=>?_,I5 e.2⟩;rw[List.contains_iff_mem.mpr k]at e;cases e.1
def gq(a:Nat){f:aC}{UZ:Pos}(UN:b.N[a]?=Z f:=by rfl)(c:uo b.N=X:=by kernel_rfl)(d:hc b.env.scope f:=by exact Or.inl rfl)(e:a∉Vg:=by decide)(g:b.fn f=X\/b.env.scope.names.lookup f=Z .local:=by first|exact .inl rfl|exact .inr rfl|assumption):hY b Vg (.Name f UZ) (bG a):=rf (I5 c) UN d e g
def l_{Ve VQ V8:bh}{U2:eO}(own:List aC)(Vh:List Nat){C:iP}{x:fh}{Wd:ay ag}(UN:kz b Ve VQ C)(c:∀a,hY (b.fK (fP b own Vh) U2 a) (qt own.length Vh.length) Ve x)(d:∀a,b5 (b.fK (fP b own Vh) U2 a) V8 Wd)(UM:t4 b.env.scope b.N U2 Vh=X:=by kernel_rfl)(e:b.calm=X:=by rfl)(aj:Vh.Nodup:=by decide)(ar:∀f,mW VQ b.env f=pure f:=by intro W;rfl):b5 b (.ListComp V8 [⟨Ve,VQ,[],0⟩] U2 UZ) (dh own.length Vh C x et Wd):=
 s_ e (nv _ _ UM rfl rfl) aj UN c (λ_=>tO) d ar
def oE{F e:fh}{a}(c:hY b Vg g F)(f:hY b Vg d e)(h:b.calm=X:=by rfl)(y:(fm [g,d] b.env).map (·.2)=hr g b.env::(fm [d] b.env).map (·.2):=by rfl)(B:(fm [d] b.env).map (·.2)=hr d b.env::(fm [] b.env).map (·.2):=by rfl)(i:(fm [g,d] b.env).length=2:=by rfl)(j:(fm [g,d] b.env).findIdx? (·.1)=Y:=by rfl):hY b Vg (.Tuple [g,d] a UZ) (g0 2<|d2 F<|d2 e hh):=IQ h (sF c (sF f A8 B) y) i j
def fD{id:String}{Vw:List ag->Option ag}(a:hI b (.builtin id) Vw)(d:b.aM f=Y)(e:e9 f=Z (.builtin id))(g:fA b (c::T) F)(h:eM b f:=by rfl)(i:f ≠ "__name__" := by decide)(j:(f==("__debug__" : aC))=av:=by decide)(k:bS (c::T) b.env=(av,b7 c b.env)::bS T b.env:=by rfl)(l:(e5 UZ<|bS T b.env).any (·.1)=av:=by rfl):
  b5 b (.Call (.Name f u) (c::T) [] UZ) (cH Vw F):=N0 a h d e g i j k l
def c_(aN:jZ b.prog b.w b.K b.aM b.base q f L N U1 s UU)(UQ:dB t b.A)(a:fA b (c::T) F)(d:eM b f:=by rfl)(e:q<=t:=by decide)(g:(f==("__debug__" : aC))=av:=by decide)(h:bS (c::T) b.env=(av,b7 c b.env)::bS T b.env:=by rfl)(i:(e5 UZ<|bS T b.env).any (·.1)=av:=by rfl):
  b5 b (.Call (.Name f u) (c::T) [] UZ) (bL s UU F):=HV aN UQ d a e g h i
def ep(UQ:dB t b.A)(a:dN b g M)(c:dN b d VH)(ar:mD d:=by exact λ_ W=>rfl):dN b (.Subscript g d UZ) (ae<|aD bH M VH):=a_ (k7 UQ a c ar)
def di{Vw:qg}{N:ag->ag->Option ag}(a:fe b (gi Vw) N)(c:dN b g M)(e:dN b d VH):dN b (.BinOp g Vw d UZ) (ae<|aD N M VH):=a_ (mm a c e)
def iQ{a}(e:fA b T F):dN b (.Tuple T a UZ) (ae<|cV F):=a_ (h1 e)
end
section
variable{UT:bC}{D:bc}{UK:Φ}{aM:aC->Option ab}{UY e:aZ}{q s:Nat}{f:aC}{L:cM}{N:ah}{U1:List aC}{UU:dA}
def Bk{UT:List aC}{l:eO}(g:l.kind=.function:=by rfl)(d:l.isCoroutine=av:=by rfl)(o:l.isGenerator=av:=by rfl)(r:Vb.Nodup:=by decide +kernel)(c:Vb.take UT.length=UT:=by rfl)(N:∀f∈UT,l.names.lookup f=Z .local\/l.names.lookup f=Z .cell:=by decide +kernel)(F:∀x∈l.names,x.2≠.free:=by decide +kernel):ks Vb UT l:=⟨g,d,o,r,c,N,F⟩
def gc{F:bO}(Vb:List aC)(P:ey UK aM f L N U1)(b:Vb.Nodup->∀(k:ab) (O:bw) (VF:List eu) (m:ai) (h:ax) (UH:fO),dB q (O.deeper<|h3 f (dm L) m.heap.objs.size N k)->h7 (ja gB UT D UK aM UY Vb f (dm L) N k O VF m h UH).jN Vg (fL L) F)(UM:ks Vb U1 (dm L):=by exact Bk)(c:U1.length=s:=by rfl)(d:∀a∈Vg,a<s:=by decide):jZ UT D UK aM UY (q+1) f L N U1 s (dF s Vb.length Vg F):=P8 P UM c d b
end
end L2
namespace L2
open Spec PyProof.Rows PySem.W
section
variable{b:aO}
variable{s q:Nat}{N:ah}{L:cM}{U1:List aC}{f:aC}
def Rn{t:Nat}{UU:dA}{u UZ:Pos}{c:bh}{T:List bh}{F:ay (List bJ)}(aN:jZ b.prog b.w b.K b.aM b.base q f L N U1 s UU)(UQ:dB t b.A)(a:q<=t)(d:fA b (c::T) F)(e:eM b f:=by rfl)(g:(f==("__debug__" : aC))=av:=by decide)(h:bS (c::T) b.env=(av,b7 c b.env)::bS T b.env:=by rfl)(i:(e5 UZ<|bS T b.env).any (·.1)=av:=by rfl):
  b5 b (.Call (.Name f u) (c::T) [] UZ) (bL s UU F):=HV aN UQ e d a g h i
def Tb{UT:bC}{D:bc}{UK:Φ}{aM:aC->Option ab}{UY:aZ}(P:ey UK aM f L N U1)(a:U1.length=s:=by rfl):jZ UT D UK aM UY q f L N U1 s λ_=>Y:=
 have ⟨_,b,d,t⟩:=P
 ⟨_,b,d,t,⟨λU h A UH e=>e.1.trans a.symm,λO VF m h args Va U A UH UQ g i j e=>absurd e.2 (by rintro⟨T,T,T,T,T,T,c,T⟩;cases c)⟩⟩
end
end L2
namespace G
open L2
def rb:bO:=((eX (az<|.aE X)<|g9 1 (dS 2) gH))
def FL:bO:=((bE (cD 1 oA)<|bE (g8 (dC<|au 0) (bG 2) G.rb)<|dd<|dS 1))
def ru:dA:=(dF 1 3 [0] FL)
end G
namespace n8
variable{ak:Type}[DecidableEq ak]
variable{P:List ak}{b:ak->ak->Prop}{g d:ak}{N:ak->ak}{T:List ak}{UM:ak->Bool->Prop}
def af(N:ak->ak):Nat->ak->ak
 |0,o=>o
 |s+1,o=>af N s (N o)
end n8
namespace n8
variable{ak:Type}[DecidableEq ak]{P:List ak}{b:ak->ak->Prop}{g d:ak}{N F:ak->ak}{T:List ak}
variable{q:Nat}{o r:Nat->ak}
end n8
namespace n8
variable{ak:Type}[DecidableEq ak]{P:List ak}{b:ak->ak->Prop}{g d:ak}{N F:ak->ak}{T:List ak}
def MO(N:ak->ak)(b:ak->ak->Prop)(u m:ak×Bool):Prop:=((u.2=av/\m=(N u.1,X))\/(u.2=X/\m.2=av/\(m.1=u.1\/b u.1 m.1)))
structure lj(N:ak->ak)(b:ak->ak->Prop)(g:ak)(VM:List ((ak×Bool)×Option (ak×Bool))):Prop where
 aj:(VM.map (·.1)).Nodup
 par:∀(a:Nat) (m u:ak×Bool),VM[a]?=Z (m,Z u)->∃i<a,∃p,VM[i]?=Z (u,p)/\MO N b u m
 root:∀(a:Nat) (m:ak×Bool),VM[a]?=Z (m,Y)->m=(g,X)
variable{VM:List ((ak×Bool)×Option (ak×Bool))}
end n8
namespace n8
variable{ak:Type}[DecidableEq ak]{P:List ak}{b:ak->ak->Prop}{g d:ak}{N F:ak->ak}{T:List ak}
def sL(N:ak->ak)(I:ak)(s:Nat):List ak:=((range<|s+1).map λa=>af N a I)
end n8
namespace G
open L2
variable{U_:Type}{w:a4}
abbrev jR:=a0×Bool
def r5{F:ay ag}{a:Nat}{UR:a4}{o b r:ag}{q:V}(d:F w=Z (.im q,w))(c:w[a]?=Z (Z o))(e:gH o (.im q) r=Z b)(f:w.set a (Z b)=UR):g9 a F gH r w=Z UR:=by
 unfold g9;rw[c];show (F w).bind _=_;rw[d];show (match w[a]? with|some (Z o)=>(gH o (.im q) r).map λb=>w.set a (Z b)|_=>Y)=_;rw[c];show (gH o (.im q) r).map _=_;rw[e,<-f];rfl
def S4{s t:Nat}{Vg:List Nat}{F:bO}{H l:List ag}(a:H.length=s)(c:F (H.map Z++List.replicate (t-s) Y)=Z (.bz,w))(b:ia Vg H w 0=l):dF s t Vg F H=Z (.im .aS,l):=by
 unfold dF;rw[aK a,c,<-b]
def kn{VR:Type}{F:U_->VR}{I:List U_}(inj:∀f∈I,∀x∈I,F f=F x->f=x)(aj:I.Nodup):(I.map F).Nodup:=by
 rw[GP,nU];exact aj.imp_of_mem λ{f x} a b e c=>e (inj f a x b c)
abbrev mw:=List a0
def Ij(D:mw):V:=(.tup (D.map aH))
def Ln(a:List mw):Prop:=(a.Pairwise λg d=>bp (Ij g) (Ij d)=X)
open Classical in
def Mz(I:List a0)(o:a0):g5 (.im<|aH o) (cn I)=Z (.im<|.aE<|!decide (o∈I)):=by
 show (gW (aH o)<|cn I).map (λj=>ag.im<|.aE<|!j)=_;rw[Ei];rfl
def CN(I:List a0)(o:a0):hP (.im<|aH o) (a3 I)=Z (.im<|.aE<|decide (o∈I)):=by
 show (gW (aH o)<|a3 I).map (λj=>ag.im<|.aE j)=_;rw[Pl];rfl
def RL(I:List a0)(o:a0):hP (.im<|aH o) (cn I)=Z (.im<|.aE<|decide (o∈I)):=by
 show (gW (aH o)<|cn I).map (λj=>ag.im<|.aE j)=_;rw[Ei];rfl
theorem EM{U_:Type}(N:U_->Bool):∀E:List U_,kG (E.map λj=>.aE<|N j)=Z (E.map N)
 |[]=>rfl
 |f::E=>by
  show (kG<|E.map λj=>.aE<|N j).map _=_;rw[EM N E];rfl
def TK(N:U_->Bool)(E:List U_):k_ [.lst (E.map λj=>.aE<|N j)]=Z (.im<|.aE<|E.all N):=by
 show (kG _).map _=_;rw[EM,Eu,Ai];rfl
def Nk(D:mw):Bool:=((D.zip<|D.drop 1).all λu=>decide (u.2∈HU u.1))
theorem uX(E:List U_):k_ [.lst (E.map λ_=>.aE X)]=Z (.im<|.aE X):=(TK (λ_=>X) E).trans (by rw[kg.mpr λ_ W=>rfl])
def z_(D:mw):mw:=((D.drop 1).dropLast)
def TH(U:List a0):fo [a3 U]=Z (aA (U.length:Int)):=by
 show Z (ag.im<|.int ((U.map aH).length:Int))=_;rw[bl]
abbrev hd(r m C:Int):ag:=.lst [.int r,.int m,.int C]
abbrev k6(d:Bool):ag:=.im (.aE d)
def jX(M:List (Int×Int))(o:Int×Int):List (Int×Int):=(if o∈M then M else M++[o])
def O3(M:List (Int×Int))(o:Int×Int):jQ (cj M) (ee o) (.aE X)=cj (jX M o):=by
 unfold jX;by_cases e:o∈M
 ·rw[aK e];unfold jQ;rw[aK (by rw[yG];simpa using e)];unfold cj;rw[e7];refine oI λf W=>?_;show (if ee f=ee o then (ee f,V.aE X) else (ee f,V.aE X))=_;split<;>rfl
 ·rw[aL e];exact PS e
def i8(U:List (Int×Int)):Prop:=(U.Pairwise λg d=>bp (aH g) (aH d)=X)
abbrev z5:=Int×Int
theorem BR(a:Option ag):∀(U M:List z5) (Vo:Option ag),M.length+U.length<100000->∃b,en (bG 2) rb (U.map aH) [a,Z<|.aJ<|cj M,Vo]=Z (.bz,[a,Z<|.aJ<|cj<|U.foldl jX M,b])
 |[],M,Vo,_=>⟨Vo,rfl⟩
 |o::U,M,Vo,d=>by
  have e:gH (.aJ<|cj M) (.im<|.tup<|ee o) (k6 X)=Z (.aJ<|cj<|jX M o):=by
   rw[<-O3];exact aK ⟨rfl,by unfold cj;rw[bl];rw[dz]at d;lia⟩
  have aB:(jX M o).length<=M.length+1:=by
   unfold jX;split
   ·lia
   ·rw[dW];exact bb _
  let⟨@b,f⟩:=BR a U (jX M o) (Z<|.im<|aH o) (by rw[dz]at d;lia);refine⟨b,?_⟩;have c:rb [a,Z<|.aJ<|cj M,Z<|.im<|aH o]=Z (.bz,[a,Z<|.aJ<|cj<|jX M o,Z<|.im<|aH o]):=by
   unfold rb;refine i1 rfl ?_;show (gH (.aJ<|cj M) (.im<|.tup<|ee o)<|k6 X).map _=_;rw[e];rfl
  rw[cw,en];show (rb [a,Z<|.aJ<|cj M,Z<|.im<|aH o]).bind _=_;rw[c];exact f
def Nj(M:List z5)(o:z5):hP (.im<|aH o) (.aJ<|cj M)=Z (k6<|decide (o∈M)):=by
 rw[<-GX];rfl
theorem I8{U_:Type}(N:U_->Bool):∀E:List U_,kG (E.map λj=>.aE<|N j)=Z (E.map N)
 |[]=>rfl
 |f::j=>by rw[cw,kG,I8 N j];rfl
def Tu(N:U_->Bool)(E:List U_):k_ [.lst (E.map λj=>.aE<|N j)]=Z (k6<|E.all N):=by
 show (kG _).map _=_;rw[I8,Eu,Ai];rfl
def LV:V->Bool
 |.int a=>decide (0<=a)&&decide (a<31)
 |_=>av
end G
namespace l2
def my{U_:Type}:List U_->List U_
 |[]=>[]
 |[g]=>[g]
 |g::_::j=>g::my j
open Spec PyProof.Rows
end l2
namespace L2
open Spec PyProof.Rows
end L2
namespace G
open L2
end G
namespace L2
open Spec PySem.Calls PyProof.Rows
end L2
namespace L2
open Spec PyProof.Rows
section
open PySem.SeqAt
open PySem.AutoSeq1 (wpAny_loadPart')
open PySem.MeetsSeq PySem.MeetsSeq2 PySem.MeetsSeq3
end
end L2
namespace G
open L2
def A4:bO:=((bE (dP (b1<|aD h8 (au 1)<|ae<|cH fo<|aq (au 0) aG) (dd<|aD bH (au 0)<|au 1) eD)<|dd<|az<|.int 0))
def sS:dA:=(dF 2 2 [0,1] A4)
def EV:bO:=((bE (cD 2<|bL 2 G.sS<|aq (au 0)<|aq (au 1) aG)<|bE (cD 3<|aD es (ae<|aD es (ae<|aD mr (ae<|az<|.int 10)<|ae<|az<|.int 60)<|ae<|aD mr (ae<|az<|.int 10)<|ae<|az<|.int 60)<|ae<|aD mr (ae<|az<|.int 10)<|ae<|az<|.int 60)<|bE (cD 4<|aD fU (ae<|aD es (ae<|aD dJ (ae<|aD dJ (ae<|aD fU (au 2)<|ae<|az<|.int 2147483629)<|ae<|aD es (ae<|aD es (ae<|az<|.int 7919)<|au 1)<|au 1)<|ae<|az<|.int 11)<|ae<|az<|.int 48271)<|ae<|az<|.int 2147483647)<|dd<|f_<|aq (ae<|aD es (ae<|aD fU (au 2)<|au 3)<|ae<|cH vInt<|aq (ae<|aD Fp (au 2)<|ae<|aD mr (ae<|az<|.int 10)<|ae<|az<|.int 18) aG)<|aq (au 4)<|aq (ae<|az<|.int 0) aG))
def vv:dA:=(dF 2 5 [0,1] EV)
def zu:bO:=((bE (dP (b1<|aD ot (ae<|aD bH (au 0)<|ae<|az<|.int 0)<|ae<|az<|.int 0) (bE (cD 2<|aD fU (ae<|aD bH (au 0)<|ae<|az<|.int 0)<|au 1)<|bE (eX (aD nd (ae<|aD bH (au 0)<|ae<|az<|.int 0)<|au 1)<|g9 0 (az<|.int 0) lF)<|dd<|dS 2) eD)<|bE (eX (aD dJ (ae<|aD bH (au 0)<|ae<|az<|.int 2)<|ae<|az<|.int 1)<|g9 0 (az<|.int 2) lF)<|bE (eX (aD fU (ae<|aD dJ (ae<|aD dJ (ae<|aD es (ae<|aD bH (au 0)<|ae<|az<|.int 1)<|ae<|az<|.int 48271)<|ae<|az<|.int 12345)<|ae<|aD es (ae<|az<|.int 7919)<|ae<|aD bH (au 0)<|ae<|az<|.int 2)<|ae<|az<|.int 2147483647)<|g9 0 (az<|.int 1) lF)<|dd<|aD fU (ae<|aD nd (ae<|aD fU (ae<|aD es (ae<|aD bH (au 0)<|ae<|az<|.int 1)<|ae<|aD bH (au 0)<|ae<|az<|.int 1)<|ae<|az<|.int 1999999973)<|ae<|az<|.int 31)<|au 1))
def dX:dA:=(dF 2 3 [0,1] zu)
def A9(a:dA):ay ag:=((bL 2 a<|aq (au 0)<|aq (au 1) aG))
def zL(a:dA):bO:=((bE (dP (gX<|ae<|kB "tuple"<|au 1) (bE (dP (iO (hB<|gX<|ae<|kB "tuple"<|au 0)<|b1<|aD jd (ae<|cH fo<|aq (au 0) aG)<|ae<|cH fo<|aq (au 1) aG) (dd<|az<|.aE av) eD)<|dd<|cH k_<|aq (ae<|dh 2 [] (AG<|aq (au 0)<|aq (au 1) aG) (g0 2<|d2 (bG 0)<|d2 (bG 1) hh) et<|G.A9 a) aG) eD)<|bE (dP (gX<|ae<|kB "str"<|au 1) (dd<|ij<|gf (b1<|kB "str"<|au 0)<|b1<|aD e3 (au 0)<|au 1) eD)<|dd<|ij<|gf (b1<|kB "int"<|au 0)<|gf (b1<|ij<|hB<|b1<|kB "bool"<|au 0)<|b1<|aD e3 (au 0)<|au 1))
def i4:Nat->dA
 |0=>λ_=>Y
 |q+1=>dF 2 2 [0,1] (zL<|i4 q)
theorem F4{U_:Type}{a:List U_->U_->List U_}(e:∀I f,(f∈I->a I f=I)/\(f∉I->a I f=I++[f])):∀(I Vv:List U_),(I.foldl a Vv).length<=Vv.length+I.length
 |[],Vv=>by rw[List.foldl_nil,iW];exact bb _
 |f::I,Vv=>by
  rw[lg,dz];refine df (F4 e I<|a Vv f) ?_;by_cases b:f∈Vv
  ·rw[(e Vv f).1 b];lia
  ·rw[(e Vv f).2 b,dW,jj];lia
theorem Gr{U_:Type}{a:List U_->U_->List U_}(e:∀I f,(f∈I->a I f=I)/\(f∉I->a I f=I++[f])):∀(I Vv:List U_),Vv.Nodup->(I.foldl a Vv).Nodup
 |[],Vv,aj=>aj
 |f::I,Vv,aj=>by
  rw[lg];refine Gr e I _ ?_;by_cases b:f∈Vv
  ·rw[(e Vv f).1 b];exact aj
  ·rw[(e Vv f).2 b];exact dR.mpr ⟨aj,gh _ _,λx d k g c=>by rw[cN.mp g]at c;exact b (c ▸ d)⟩
theorem xm{U_:Type}{a:List U_->U_->List U_}(e:∀I f,(f∈I->a I f=I)/\(f∉I->a I f=I++[f])):∀(I Vv:List U_),(Vv++I).Nodup->I.foldl a Vv=Vv++I
 |[],Vv,_=>(b8 Vv).symm
 |f::I,Vv,aj=>by
  have b:f∉Vv:=λk=>(dR.mp aj).2.2 f k f (.head _) rfl;rw[lg,(e Vv f).2 b,xm e I (Vv++[f]) (by rw[bq];exact aj),bq];rfl
def Ky(I:List a0)(f:a0):(f∈I->jX I f=I)/\(f∉I->jX I f=I++[f]):=⟨λe=>aK e,λe=>aL e⟩
theorem Cc:∀b a:List a0,eY (b.map aH) (a.map aH)=decide (b=a)
 |[],[]=>rfl
 |[],_::_=>rfl
 |_::_,[]=>rfl
 |f::b,x::a=>by
  rw[cw,cw,eY,r4,Cc b a,qJ,cS,je,je,je,x1]
def JY(g d:a0)(D:mw):Prop:=(∃t,D=g::(t++[d]))
structure LK(g d:a0)(UO:List mw):Prop where
 ch:∀D∈UO,Nk D=X
 up:Ln UO
 jP:∀D∈UO,JY g d D
 aj:(UO.flatMap z_).Nodup
 na:g∉UO.flatMap z_
 nb:d∉UO.flatMap z_
structure hu(aa:List a0)(g d:a0)(b:List a0)(UO:List mw):Prop where
 up:qZ b
 na:g∉b
 nb:d∉b
 Um:¬ ur (aa.filter λo=>!decide (o∈b)) g d
 w:LK g d UO
 n:UO.length=b.length
def Rq{b:List a0}(c:b.length<10000):ru [a3 b]=Z (.aJ<|cj<|b.foldl jX [],[a3 b]):=by
 let⟨n,a⟩:=BR (Z<|a3 b) b [] Y (by show 0+_<_;lia);unfold ru FL;exact fG (w:=[Z (a3 b),Z .cQ,n]) rfl (bM (UR:=[Z (a3 b),Z<|.aJ [],Y]) rfl<|bM (jO (n:=Y) rfl a rfl) rfl) rfl
def K2(M:List a0)(o:a0):g5 (.im<|aH o) (.aJ<|cj M)=Z (.im<|.aE<|!decide (o∈M)):=by
 show (gW (.tup<|ee o)<|.aJ<|cj M).map (λj=>ag.im<|.aE<|!j)=_;rw[w7,aK<|uv o,GX];rfl
section
variable{UK ak:Type}[DecidableEq UK]
def aW(i:UK->List V)(l:ak->V)(M:List UK)(N:UK->ak):List (List V×V):=(M.map λq=>(i q,l<|N q))
def fz(N:UK->ak)(q:UK)(v:ak):UK->ak:=(λf=>if f=q then v else N f)
def ez(M:List UK)(q:UK):List UK:=(if q∈M then M else M++[q])
def ny(I:List UK)(f:UK):(f∈I->ez I f=I)/\(f∉I->ez I f=I++[f]):=⟨λe=>aK e,λe=>aL e⟩
def kD{I:List UK}{f x:UK}:x∈ez I f↔x=f\/x∈I:=by
 by_cases e:f∈I
 ·rw[(ny I f).1 e];exact⟨.inr,λk=>k.elim (λc=>c ▸ e) id⟩
 ·rw[(ny I f).2 e,ed,cN];exact or_comm
def tL(N:UK->ak)(q:UK)(v:ak):fz N q v q=v:=aK rfl
def uH(N:UK->ak){q f:UK}(v:ak)(e:f≠q):fz N q v f=N f:=aL e
def Gt(i:UK->List V)(l:ak->V)(M:List UK)(N:UK->ak):(aW i l M N).length=M.length:=bl ..
variable{i:UK->List V}{l:ak->V}{M:List UK}{N:UK->ak}{q:UK}
def zY(inj:∀g d,i g=i d->g=d)(e:q∈M):d9 (aW i l M N) (i q)=Z (l<|N q):=by
 induction M with
 |nil=>cases e
 |cons f j a=>
  unfold d9 aW;rw[cw,kN];by_cases c:f=q
  ·subst c;simp
  ·have:decide (i f=i q)=av:=el λk=>c (inj _ _ k);rw[this];exact a ((b9.mp e).resolve_left λk=>c k.symm)
def D9(inj:∀g d,i g=i d->g=d):((aW i l M N).any λu=>decide (u.1=i q))=decide (q∈M):=by
 rw[qJ,ve,je];constructor
 ·rintro⟨u,a,c⟩;let⟨f,b,rfl⟩:=da.mp a;exact inj _ _ (fY c) ▸ b
 ·exact λe=>⟨_,da.mpr ⟨q,e,rfl⟩,dQ rfl⟩
def y4(inj:∀g d,i g=i d->g=d):(d9 (aW i l M N)<|i q).isSome=decide (q∈M):=by rw[F6,D9 inj]
def Pp(inj:∀g d,i g=i d->g=d)(e:q∉M):d9 (aW i l M N) (i q)=Y:=by
 have:=y4 (l:=l) (N:=N) (M:=M) (q:=q) inj;rw[el e]at this;exact Option.not_isSome_iff_eq_none.mp (by rw[this];exact cU)
def O9(inj:∀g d,i g=i d->g=d)(v:ak):jQ (aW i l M N) (i q) (l v)=aW i l (ez M q) (fz N q v):=by
 unfold jQ;rw[D9 inj];by_cases e:q∈M
 ·rw[aK (dQ e),(ny M q).1 e];unfold aW;rw[e7];refine oI λf W=>?_;show (if i f=i q then (i f,l v) else (i f,l<|N f))=(i f,l<|fz N q v f);by_cases c:f=q
  ·rw[aK (by rw[c]),c,tL]
  ·rw[aL λk=>c<|inj _ _ k,uH _ _ c]
 ·rw[aL (by rw[el e];exact cU),(ny M q).2 e];unfold aW;rw[gz];refine congr (congrArg _<|oI λf a=>?_) ?_
  ·rw[uH N v (show f≠q from λc=>e<|c ▸ a)]
  ·show [(i q,l v)]=[(i q,l<|fz N q v q)];rw[tL]
def BD(inj:∀g d,i g=i d->g=d)(ok:V.keys 7 (i q)=X):hP (.im<|.tup<|i q) (.aJ<|aW i l M N)=Z (.im<|.aE<|decide (q∈M)):=by
 show (gW (.tup<|i q)<|.aJ<|aW i l M N).map (λj=>ag.im<|.aE j)=_;rw[w7,aK ok,y4 inj];rfl
def B4(inj:∀g d,i g=i d->g=d)(ok:V.keys 7 (i q)=X):g5 (.im<|.tup<|i q) (.aJ<|aW i l M N)=Z (.im<|.aE<|!decide (q∈M)):=by
 show (gW (.tup<|i q)<|.aJ<|aW i l M N).map (λj=>ag.im<|.aE<|!j)=_;rw[w7,aK ok,y4 inj];rfl
def JL(inj:∀g d,i g=i d->g=d)(ok:V.keys 7 (i q)=X)(e:q∈M):hP (.im<|.tup<|i q) (.aJ<|aW i l M N)=Z (.im<|.aE X):=by rw[BD inj ok,dQ e]
def J2(inj:∀g d,i g=i d->g=d)(ok:V.keys 7 (i q)=X)(e:q∉M):hP (.im<|.tup<|i q) (.aJ<|aW i l M N)=Z (.im<|.aE av):=by rw[BD inj ok,el e]
def Ah(inj:∀g d,i g=i d->g=d)(ok:V.keys 7 (i q)=X)(e:q∈M):g5 (.im<|.tup<|i q) (.aJ<|aW i l M N)=Z (.im<|.aE av):=by rw[B4 inj ok,dQ e];rfl
def w2(inj:∀g d,i g=i d->g=d)(ok:V.keys 7 (i q)=X)(e:q∉M):g5 (.im<|.tup<|i q) (.aJ<|aW i l M N)=Z (.im<|.aE X):=by rw[B4 inj ok,el e];rfl
def yS(inj:∀g d,i g=i d->g=d)(ok:V.keys 7 (i q)=X)(e:q∈M):bH (.aJ<|aW i l M N) (.im<|.tup<|i q)=Z (.im<|l<|N q):=by
 show (if V.keys 7 (i q)=X then (d9 (aW i l M N)<|i q).map ag.im else Y)=_;rw[aK ok,zY inj e];rfl
def Lq(inj:∀g d,i g=i d->g=d)(ok:V.keys 7 (i q)=X)(e:q∈M):bH (.e_<|aW i l M N) (.im<|.tup<|i q)=Z (.im<|l<|N q):=by
 show (if V.keys 7 (i q)=X then (d9 (aW i l M N)<|i q).map ag.im else Y)=_;rw[aK ok,zY inj e];rfl
def sZ(inj:∀g d,i g=i d->g=d)(ok:V.keys 7 (i q)=X)(v:ak)(a:M.length<100000):gH (.aJ<|aW i l M N) (.im<|.tup<|i q) (.im<|l v)=Z (.aJ<|aW i l (ez M q)<|fz N q v):=by
 show (if V.keys 7 (i q)=X/\(aW i l M N).length<100000 then Z (ag.aJ<|jQ (aW i l M N) (i q)<|l v) else Y)=_;rw[aK ⟨ok,by rw[Gt];exact a⟩,O9 inj]
end
end G
namespace L2
open Spec PyProof.Rows PySem.W
section
variable{b:aO}
def ef(a:Int):Int:=(hashInt a)
def Ib(o:Int×Int):Int:=(w8 (br.Tuple.tupleHashOf [ef o.1,ef o.2]))
def nA(o:Int×Int):List V:=([.int o.1,.int o.2])
end
end L2
namespace L2
open Spec PyProof.Rows
abbrev N6:=(Int×Int)×(Int×Int)
def AO(I:N6):List V:=([.tup (nA I.1),.tup<|nA I.2])
end L2
namespace G
open L2
end G
namespace L2
open Spec PyProof.Rows
variable{a:Nat}
theorem c0.take{h:ax}:∀{H:List ag}{E:List ak}{P:List ah}{i:Nat}{r:ag},c0 h H E P->H[i]?=Z r->∃f UG UU,E[i]?=Z f/\b2 h r f UG/\c0 h (H.set i .cQ) E UU/\(UU++UG).Perm P
 |[],E,P,i,r,e,c=>by simp at c
 |o::H,E,P,0,r,e,c=>by
  let⟨v,j,U3,G,rfl,y,B,rfl⟩:=e;simp at c;subst c;exact⟨v,U3,G,rfl,y,⟨v,j,[],G,rfl,rfl,B,rfl⟩,c8⟩
 |o::H,E,P,i+1,r,e,c=>by
  let⟨v,j,U3,G,rfl,y,B,rfl⟩:=e;let⟨f,UG,UU,a,b,d,g⟩:=c0.take (i:=i) B ⇑c;refine⟨f,UG,U3++UU,by simpa using a,b,⟨v,j,U3,UU,rfl,y,d,rfl⟩,?_⟩;rw[bq];exact g.append_left U3
@[simp] def mE(a i:Nat):ay ag:=λw=>match w[a]? with
 |some (Z<|.ej H)=>match H[i]? with
  |some r=>if r.c4=X then Z (r,w) else Z (r,w.set a<|Z<|.ej<|H.set i .cQ)
  |none=>Y
 |_=>Y
section
variable{b:aO}
def ph{i:Nat}{s:Int}{g d:bh}{UZ:Pos}(l:bD b g (iH a))(m:bD b d (mC<|.int s))(ar:mD d:=by exact λ_ W=>rfl)(n:s=i:=by decide):b5 b (.Subscript g d UZ) (mE a i):=by
 subst n;refine eh (sH EK l m ar) λz h A o=>?_;let⟨w,P,j,U4,L,aj,c,p⟩:=o;unfold mE at c;split at c
 ·rename_i H hd;split at c
  ·rename_i r q;let⟨v,U3,G,y,B,t,x⟩:=L.out hd;let⟨u,E,rfl,k,C⟩:=B;let⟨f,UG,UU,F,e,I,J⟩:=C.take q;refine⟨_,y,u,E,i,f,rfl,rfl,.of k,F2 F,?_⟩;split at c
   ·rename_i M;cases c;obtain rfl:=e.c4 M;exact p f h P [] L e (by rw[b8];exact a9.perm aj (List.Perm.refl _))
   ·cases c;have D:b2 h (.ej<|H.set i .cQ) (.ref u) UU:=⟨u,E,rfl,k,I⟩;let⟨O,Vx,Vf,Vt⟩:=t.back D y;rw[pH]at Vf;refine p f h O UG Vf e ((a9.perm aj<|List.Perm.refl _).less (aN:=Vx) ?_);refine .trans ?_ x;refine .trans ?_ (J.append_left G);rw[<-bq];refine .trans ?_ (Vt.append_right UG);rw[bq,bq];exact c8.append_left O
  ·cases c
 ·cases c
@[simp] def vd(a:Nat)(b:ay ag):ay ag:=λw=>match w[a]? with
 |some (Z c)=>if CP c=X then (b w).bind λu=>match u.2[a]?,u.1 with
   |some (Z<|.dn UX),.im q=>(qB q).map λd=>(.im<|(d9 UX d).getD .aS,u.2)
   |some (Z<|.aJ UX),.im (.tup q)=>if V.keys 7 q=X then Z (.im<|(d9 UX q).getD .aS,u.2) else Y
   |_,_=>Y
  else Y
 |_=>Y
def TC{n q:bh}{B:ay ag}{V6 M:Pos}(F:b.A.units+20<bR)(G:bD b n (iH a))(H:b5 b q B)(t:CD b n "get" V6 q M:=by exact⟨rfl,rfl,rfl,rfl⟩):
  b5 b (.Call (.Attribute n "get" V6) [q] [] M) (vd a B):=by
 refine eh (SX F G H t) λz h A I=>?_;let⟨w,P,j,U4,L,aj,e,p⟩:=I;unfold vd at e;split at e
 ·rename_i bd J;split at e
  ·rename_i N;let⟨be,bi,bm,l,Q,W,W⟩:=L.out J;let⟨g,rfl,R⟩:=RK Q N;let⟨⟨Vz,UR⟩,y,c⟩:=bN.mp e;refine⟨_,l,g,rfl,R,w,P,Vz,UR,L,aj,y,λx UP U3 bn k C D=>?_⟩;dsimp only at c;split at c
   ·rename_i UX S m;let⟨T,U,al⟩:=cm.mp c;cases al;let⟨o,rfl⟩:=C;let⟨am,UG,an,f,r,ap,as⟩:=k.out m;rw[l]at f;cases f;let⟨a1,i,s,u,v,W⟩:=r;cases s;exact⟨_,.inl ⟨i,T,.inl u,Jn o U,rfl⟩,p _ UP U3 [] k ⟨HZ v (rfl:cf UP .aS .aS),rfl⟩ D⟩
   ·rename_i UX S m;split at c
    ·rename_i a2;cases c;let⟨o,rfl⟩:=C;let⟨am,UG,an,f,r,ap,as⟩:=k.out m;rw[l]at f;cases f;let⟨a1,i,s,u,v,W⟩:=r;cases s;let⟨d,E,rfl,Vf,Vt⟩:=o;exact⟨_,.inr ⟨i,_,d,.inl u,rfl,⟨a2,d,E,rfl,Vf,Vt⟩,rfl⟩,p _ UP U3 [] k ⟨HZ v (rfl:cf UP .aS .aS),rfl⟩ D⟩
    ·cases c
   ·cases c
  ·cases e
 ·cases e
end
end L2
namespace L2
end L2
namespace L2
open Spec PyProof.Rows
variable{U1 M V6:Pos}{V9:Nat}{T:List bh}{F:ay bJ}{t:cb}{n Ve:bh}{i:List (List V×ak)}{UX:List (List V×V)}{Vl:aX}{g:ah}{h:ax}{UK:Φ}{D:bc}{UT:bC}
def xS(g:ah)(Vl:aX)(UX:List (List V×ak)):ig:=(
 ⟨λa h=>h g=Z (.b6 Vl<|.aJ UX)/\a<UX.length,
  λa h v Q=>Q=h/\∃d u,v=.ref d/\UX[a]?=Z u/\iE h u.1 d,
  λa h=>h g=Z (.b6 Vl<|.aJ UX)/\UX.length<=a⟩)
theorem Rz(g af:ah)(Vl:aX)(UX:List (List V×ak))(H:Array tY)(U9:Nat)(B:Vl.data=.dict H U9):
  oF UT D UK Ve (xS g Vl UX) [af] af (λa e=>e.IsKeyIter af g a UX.length U9) where
 mem:=by simp
 obj:=λa e L o C=>by
  cases cN.mp C;let⟨@n,c,o,r⟩:=L;exact⟨n,c,λv k=>by rw[r]at k;cases k⟩
 keep:=λa e S L q=>let ⟨n,c,j⟩:=L;⟨n,q af ↥0 n c,j⟩
 item:=by
  intro b I J M C a R m z h UH l F L N;subst I J M;let@⟨P,UN⟩:=N;let@⟨i,k,hd,⟨@E,rel,⟨Vo,bd,@be,s,Q,t,T,bi⟩⟩⟩:=(show m.heap.get? g=Z Vl/\d0 b.prog b.w h m.heap g (.aJ UX) from l.aY g _ P);rw[i]at s;cases s;rw[B]at t;cases t;let@⟨U,al,bm,am,an,ap⟩:=F af ↥0;have as:=eg.length rel;have V9:H.toList.map (·.key)=E.map λf=>ab.ref f.2.1:=by rw[T,e7];rfl
  have a1:hy m.heap g (E.map λf=>ab.ref f.2.1) U9:=⟨_,_,i,Q,B,V9⟩;let⟨u,@p,bn,VI,cd,bs,ce⟩:=sQ rel a UN;have x:(E.map λf=>ab.ref f.2.1).length=UX.length:=by rw[bl,as]
  refine Ct (by rw[x];exact L) a1 (v:=.ref p.2.1) (by rw[dU,VI];rfl) λS a2 cz=>?_;have bv:aF b R z h {m with heap:=S}:=l.turned (Vd:=m.toks) (λd n y c=>cz.extBut d n y c) U al am an ap;rw[x]at a2;let⟨@n,c,o,r⟩:=id a2;exact⟨_,rfl,vg (m:={m with heap:=S}) c o r ∅ ⟨.ref p.2.1,h,bv,rfl,⟨rfl,_,u,rfl,bn,bs⟩,a2,λd y=>(F d y).1⟩⟩
 done:=by
  intro b I J M C a R m z h UH l F L N;subst I J M;let@⟨P,UN⟩:=N;let@⟨i,k,hd,⟨@E,rel,⟨Vo,bd,@be,s,Q,t,T,bi⟩⟩⟩:=(show m.heap.get? g=Z Vl/\d0 b.prog b.w h m.heap g (.aJ UX) from l.aY g _ P);rw[i]at s;cases s;rw[B]at t;cases t;let@⟨U,al,bm,am,an,ap⟩:=F af ↥0;have as:=eg.length rel;have V9:H.toList.map (·.key)=E.map λf=>ab.ref f.2.1:=by rw[T,e7];rfl
  have a1:hy m.heap g (E.map λf=>ab.ref f.2.1) U9:=⟨_,_,i,Q,B,V9⟩;have x:(E.map λf=>ab.ref f.2.1).length=UX.length:=by rw[bl,as]
  exact Bh (l.ok.hd C) (by rw[x];exact L) a1 (by rw[x];exact UN) λS ca=>⟨rfl,l.turned (Vd:=m.toks) (λd n y c=>ca d n y c) U al am an ap⟩
 self:=λO a m A UH L e=>Gs L e
section
variable{b:aO}
theorem Oz(e:h g=Z (.b6 Vl<|.aJ i))(hd:eL h UX i):kZ (xS g Vl i) h [] (UX.map λl=>.tup l.1) where
 go:=λQ C q a r c=>by
  rw[dU]at c;let⟨@⟨w,VD⟩,b,rfl⟩:=cm.mp c;have UN:a<UX.length:=(eV.mp b).1;have m:a<i.length:=by rw[<-hd.length];exact UN
  refine⟨⟨C.b6 _ _ _ e,m⟩,λk x ⟨n,d,u,o,s,t⟩=>?_⟩;subst o n;let⟨y,@p,f,j,v,z⟩:=sQ hd a UN;rw[b]at f;cases f;rw[s]at j;cases j;cases v;exact⟨bV.refl _,t.2⟩
 stop:=λQ C q=>⟨C.b6 _ _ _ e,by rw[bl,hd.length];exact bb _⟩
end
def MR:ag->ag
 |.aJ UX=>.e_ UX
 |r=>r
@[simp] def zR(F:ay ag):ay ag:=λw=>(F w).map λu=>(MR u.1,u.2)
section
variable{b:aO}
def Fv{c:bh}{F:ay ag}(e:b5 b c F):b5 b c (zR F):=by
 intro R m z h A l a;let⟨w,P,j,U4,L,aj,H,p⟩:=a;let⟨⟨f,UR⟩,y,B⟩:=cm.mp H;cases B;refine bZ (@e R m z h (λv UP=>∃U3 UG,bx UP UR z U3/\b2 UP f v UG/\a9 h P UP (U3++UG)) l ⟨w,P,f,UR,L,aj,y,λv UP U3 UG g d o=>⟨U3,UG,g,d,o⟩⟩) λJ u a=>?_;let⟨v,UP,q,x,⟨U3,UG,D,Vc,G⟩⟩:=a;cases f with
 |aJ UX=>
  let⟨g,i,rfl,Vf,Vt,I⟩:=Vc;cases x;let⟨k,UJ,E,M,n,T,U9,s,N,O,Q,U⟩:=q.aY g _ Vf;have eF:=tB (Vl:=n) Vf (λ_ c=>by cases c) (λ_ W c=>by cases c);refine zA (Vl:=n) (r:=.e_ UX) D G Vf (λ_ c=>by cases c) (λ_ W c=>by cases c) I (q.write (S:=u.heap) (Vd:=u.toks) (c:=g) (by rw[Vf];trivial) (.inl rfl) (λd J W c=>c) ⟨_,s⟩ ⟨s,k,UJ,E,hQ.keeps M λd U0 c=>eF.tup.t d U0 c,n,T,U9,s,N,O,Q,U⟩) (λeF=>⟨g,i,_,rfl,dp,Vt.mono eF.tup,rfl⟩) p
 |_=>exact⟨v,UP,q,x,p v UP U3 UG D Vc G⟩
def My(t:cb):c1:=(λz h UG=>t z h λf UP=>∃g Vl UX,f=.ref g/\UP g=Z (.b6 Vl<|.aJ UX)/\UG (xS g Vl UX) UP)
def LJ(u:bD b n t):jb b Ve n (My t):=by
 intro R m z h UG l e;refine bZ (u R m z h _ l e) λJ a v=>?_;let⟨f,UP,i,x,⟨g,Vl,UX,Vs,y,p⟩⟩:=v;subst Vs;obtain rfl:J=ab.ref g:=x;let⟨j,k,hd,E,A,Vo,q,U9,r,B,s,C,M⟩:=(show a.heap.get? g=Z Vl/\d0 b.prog b.w UP a.heap g (.aJ UX) from i.aY g _ y);rw[j]at r;cases r;have F:=eg.length A;have V9:q.toList.map (·.key)=E.map λf=>ab.ref f.2.1:=by rw[C,e7];rfl
 have H:(E.map λf=>ab.ref f.2.1).length=UX.length:=by rw[bl,F]
 have I:hy a.heap g (E.map λf=>ab.ref f.2.1) U9:=⟨_,_,j,B,s,V9⟩;refine Ip hd I ?_;rw[H];refine⟨_,_,_,_,_,rfl,i.kept (Vd:=a.toks)<|λd n c=>bT _ c,Rz g _ Vl UX q U9 s,⟨_,cR _ rfl,rfl,rfl⟩,λo L=>?_,p⟩;cases cN.mp L;exact i.qc (bb _) (i.aY.fresh<|bb _)
@[simp] def sm(F:ay bJ):iP:=λw=>(F w).bind λu=>match d7 u.2 u.1 with
 |some (.e_ UX)=>Z ((UX.map λa=>.tup a.1,Y),u.2)
 |_=>Y
def Qh(e:dN b n F):kz b Ve n (sm F):=by
 refine sN (LJ e) λz h q c=>?_;let⟨w,P,j,U4,L,aj,k,p⟩:=c;let⟨⟨f,UR⟩,y,B⟩:=bN.mp k;refine⟨w,P,f,UR,L,aj,y,λv UP U3 UG a l m=>?_⟩;dsimp only at B;split at B
 ·rename_i UX UQ;cases B;let⟨W,g,i,Vl,rfl,Vf,Vt,W⟩:=l.read a UQ;exact⟨g,Vl,i,rfl,Vf,p _ _ U3 [] a (Oz Vf Vt) trivial (λd o=>nomatch o) (m.less (aN:=UG) (by rw[b8]))⟩
 ·cases B
def yB(g:ah)(Vl:aX)(UX:List (List V×ak)):ig:=(
 ⟨λa h=>h g=Z (.b6 Vl<|.aJ UX)/\a<UX.length,
  λa h v Q=>∃UO d u,h UO=Y/\v=.ref UO/\Q=upd h UO (.tup [.ref d,u.2])/\UX[a]?=Z u/\iE h u.1 d,
  λa h=>h g=Z (.b6 Vl<|.aJ UX)/\UX.length<=a⟩)
theorem SE{UZ:Pos}(g af:ah)(Vl:aX)(UX:List (List V×ak))(j:Array tY)(U9:Nat)(x:Vl.data=.dict j U9)(ne:g≠af):
  oF UT D UK (.Tuple T V9 UZ) (yB g Vl UX) [af] af (λa e=>∃ok i,IsItemIter e af g a UX.length U9 ok i) where
 mem:=by simp
 obj:=λa e ⟨ok,i,L⟩ o d=>by
  cases cN.mp d;exact⟨_,L,λv c=>by cases c⟩
 keep:=λa e S ⟨ok,i,L⟩ q=>⟨ok,i,q af ↥0 _ L⟩
 item:=by
  intro b H I J d a R m z h UH l y ⟨ok,i,L⟩ M;subst H I J;let⟨N,UN⟩:=M;let⟨p,k,hd,E,C,Vo,al,am,r,an,s,F,ap⟩:=(show m.heap.get? g=Z Vl/\d0 b.prog b.w h m.heap g (.aJ UX) from l.aY g _ N);rw[p]at r;cases r;rw[x]at s;cases s;have as:=eg.length C;have t:j.size=UX.length:=by rw[xa F,as]
  have U:a<j.size:=by rw[t];exact UN
  let⟨u,f,a1,a2,bs,bd,be⟩:=sQ C a UN;have bi:j[a]=entryOfKey (fs b.prog b.w) f:=by
   have:=entry_at F a;rw[a2,iS U]at this;exact Option.some.inj this
  rw[<-t]at L;have lt:af<m.heap.objs.size:=bW L;refine Pq (O:=b.A) ⟨_,_,_,_,L,.inl rfl⟩ p x U λS K P G bv Q=>?_;let⟨ca,cd,P⟩:=P ⟨ok,i,L⟩;rw[bi]at G;replace G:gK S m.heap.objs.size (.ref f.2.1) f.2.2:=G;refine⟨_,rfl,wpAny_letOwnedTupleGo_items P λB bm cz=>?_⟩;have dE:∀o n,o∉[af]->m.heap.get? o=Z n->B.get? o=Z n:=λo n d c=>by
   have d:o≠af:=by simpa using d
   exact cz.extBut _ _ d (Q o n d c)
  have bn:h m.heap.objs.size=Y:=l.aY.fresh (bb _);refine⟨.ref m.heap.objs.size,upd h m.heap.objs.size<|.tup [.ref f.2.1,u.2],l.Ft (Vd:=m.toks) y dE (bb _) ⟨by show 2<=sizeLine;decide,[.ref f.2.1,f.2.2],.cons rfl<|.cons be .nil,?_⟩,rfl,⟨_,_,u,bn,rfl,rfl,a1,bd⟩,⟨_,_,by rw[<-t];exact bm⟩,λo d=>?_⟩
  ·exact⟨_,cz.extBut _ _ (hi lt) G,rfl,0,rfl⟩
  ·cases cN.mp d;rw[b0 (cT lt)];exact (y af d).1
 done:=by
  intro b H I J d a R m z h UH l y ⟨ok,i,L⟩ M;subst H I J;let⟨N,UN⟩:=M;let⟨p,k,hd,E,C,Vo,al,am,r,an,s,F,ap⟩:=(show m.heap.get? g=Z Vl/\d0 b.prog b.w h m.heap g (.aJ UX) from l.aY g _ N);rw[p]at r;cases r;rw[x]at s;cases s;have t:j.size=UX.length:=by rw[xa F,eg.length C]
  rw[<-t]at L UN;exact Tg (O:=b.A) (l.ok.hd d) ⟨_,_,_,_,L,.inl rfl⟩ p x UN λS Q=>⟨rfl,l.E2 (Vd:=m.toks) y λo n d c=>Q o n ⇑d c⟩
 self:=λO a m A UH ⟨ok,i,L⟩ e=>by
  exact PySem.W.kcp_self L e
def Ti(t:cb):c1:=(λz h UG=>t z h λf UP=>∃g Vl UX,f=.ref g/\UP g=Z (.b6 Vl<|.aJ UX)/\UG (yB g Vl UX) UP)
def J5(y:bD b n t)(A:mY n "items" b.env (b7 n b.env)=b7 n b.env:=by rfl)(B:(V6.endLine==M.line)=X:=by rfl):
  jb b (.Tuple T V9 U1) (.Call (.Attribute n "items" V6) [] [] M) (Ti t):=by
 intro R m z h UG l e;refine F5 (T := "dict") (id := "dict.items") A rfl B F.plainAttrs_dict Ho F.type_dict_items (bZ (y R m z h _ l e) λJ a ⟨f,UP,r,C,g,Vl,UX,Vs,G,p⟩=>?_);subst Vs;obtain rfl:J=ab.ref g:=C;let⟨i,k,hd,E,H,Vo,s,U9,u,v,x,I,O⟩:=(show a.heap.get? g=Z Vl/\d0 b.prog b.w UP a.heap g (.aJ UX) from r.aY g _ G);rw[i]at u;cases u;have j:a.TypeIs (.ref g) "dict" := ⟨Vl,i,v.1⟩;refine⟨j,λd c=>?_,?_⟩
 ·cases c;exact⟨Vl,i,v.2.1⟩
 ·refine method_meetsIn Ho F.entry_dict_items rfl (Gf ⟨rfl,j,F.args_dict_items_1 _,_,OB g hd,j,?_⟩);have q:aF b R z UP {a with heap:=a.heap.push {cls:=.type "dict_items",data:=.fields #[.ref g]} }:=r.kept (Vd:=a.toks) λd n c=>bT _ c;have L:s.size=UX.length:=by rw[xa I,eg.length H]
  have lt:g<a.heap.objs.size:=bW i;refine TV (m:={a with heap:=a.heap.push {cls:=.type "dict_items",data:=.fields #[.ref g]} }) ⟨_,cR _ rfl,rfl,rfl⟩ (bT _ i) x ?_;rw[L];refine⟨_,_,_,_,_,rfl,q.kept (Vd:=a.toks)<|λd n c=>bT _ c,SE g _ Vl UX s U9 x (cT (d6 lt (by rw[hD];lia))),⟨_,_,cR _ rfl⟩,λo N=>?_,p⟩;cases cN.mp N;exact q.qc (bb _) (q.aY.fresh<|bb _)
@[simp] def qx(F:ay bJ):iP:=λw=>(F w).bind λu=>match d7 u.2 u.1 with
 |some (.e_ UX)=>Z ((UX.map λa=>.tup [.tup a.1,a.2],Y),u.2)
 |_=>Y
theorem Mk(e:h g=Z (.b6 Vl<|.aJ i))(hd:eL h UX i):kZ (yB g Vl i) h [] (UX.map λb=>.tup [.tup b.1,b.2]) where
 go:=λQ C q a r c=>by
  rw[dU]at c;let⟨⟨y,VD⟩,f,rfl⟩:=cm.mp c;have UN:a<UX.length:=(eV.mp f).1;have n:a<i.length:=by rw[<-hd.length];exact UN
  refine⟨⟨C.b6 _ _ _ e,n⟩,λk z ⟨UO,d,u,N,o,s,t,v⟩=>?_⟩;subst o s;let⟨A,p,j,l,w,x⟩:=sQ hd a UN;rw[f]at j;cases j;rw[t]at l;cases l;cases w;have m:bV Q (L2.upd Q UO<|.tup [.ref d,u.2]):=(bV.refl Q).upd N;exact⟨m,UO,[.ref d,u.2],rfl,dp,⟨.ref d,[u.2],rfl,v.2.mono m.tupS.tup,u.2,[],rfl,(x.mono C.tup).mono m.tupS.tup,rfl⟩⟩
 stop:=λQ C q=>⟨C.b6 _ _ _ e,by rw[bl,hd.length];exact bb _⟩
def CJ(e:dN b n F)(a:mY n "items" b.env (b7 n b.env)=b7 n b.env:=by rfl)(k:(V6.endLine==M.line)=X:=by rfl):
  kz b (.Tuple T V9 U1) (.Call (.Attribute n "items" V6) [] [] M) (qx F):=by
 refine sN (J5 e a k) λz h r l=>?_;let⟨w,P,j,U4,L,aj,m,p⟩:=l;let⟨⟨f,UR⟩,y,B⟩:=bN.mp m;refine⟨w,P,f,UR,L,aj,y,λv UP U3 UG c o q=>?_⟩;dsimp only at B;split at B
 ·rename_i UX UQ;cases B;let⟨W,g,i,Vl,rfl,Vf,Vt,W⟩:=o.read c UQ;exact⟨g,Vl,i,rfl,Vf,p _ _ U3 [] c (Mk Vf Vt) trivial (λd a=>nomatch a) (q.less (aN:=UG) (by rw[b8]))⟩
 ·cases B
end
end L2
namespace G
open L2
def Qn:bO:=((bE (dP (b1<|aD e3 (au 0)<|ae<|az<|.str "down") (dd<|cV<|aq (ae<|aD dJ (ae<|aD bH (au 1)<|ae<|az<|.int 0)<|au 2)<|aq (ae<|aD bH (au 1)<|ae<|az<|.int 1) aG) eD)<|dd<|cV<|aq (ae<|aD bH (au 1)<|ae<|az<|.int 0)<|aq (ae<|aD dJ (ae<|aD bH (au 1)<|ae<|az<|.int 1)<|au 2) aG))
def o6:dA:=(dF 3 3 [0,1,2] Qn)
def zz:ay Bool:=((b1<|aD hP (ae<|bL 3 G.o6<|aq (au 1)<|aq (au 2)<|aq (au 3) aG)<|au 0))
def I6:bO:=((x8 3 (λa i=>a+i)<|az<|.int 1))
def Dv:bO:=((bE (cD 3<|az<|.int 1)<|bE (fB G.zz G.I6 1000000)<|dd<|cV<|aq (au 1)<|aq (au 2)<|aq (au 3) aG))
def rd:dA:=(dF 3 4 [0,1,2] Dv)
def IK:ay ag:=((bL 3 G.rd<|aq (au 2)<|aq (au 1)<|aq (au 0) aG))
def Jc:ay Bool:=((b1<|aD g5 (ae<|bL 3 G.o6<|aq (au 1)<|aq (au 0)<|aq (ae<|k9<|az<|.int 1) aG)<|au 2))
def I0:bO:=((bE (cD 2<|bL 1 G.ru<|aq (au 0) aG)<|dd<|dh 1 [1,2] (dC<|au 0) (bG 0) G.Jc G.IK))
def lA:dA:=(dF 2 3 [0,1] I0)
def Cm:bO:=((dd<|cH mh<|aq (ae<|cH iK<|aq (ae<|aD dJ (ae<|bL 2 G.lA<|aq (au 0)<|aq (ae<|az<|.str "down") aG)<|ae<|bL 2 G.lA<|aq (au 0)<|aq (ae<|az<|.str "right") aG) aG) aG))
def Cg:dA:=(dF 1 1 [0] Cm)
def GC:ay ag:=((bL 3 G.o6<|aq (ae<|aD bH (au 1)<|ae<|az<|.int 0)<|aq (ae<|aD bH (au 1)<|ae<|az<|.int 1)<|aq (au 0) aG))
def GZ:bO:=((dd<|dh 1 [0] (ha<|aq (ae<|aD bH (au 0)<|ae<|az<|.int 2) aG) (bG 0) et G.GC))
def nj:dA:=(dF 1 1 [0] GZ)
def C4:bO:=((eX (dS 2)<|g9 1 (dS 3) gH))
def zX:bO:=((g8 (dC<|ae<|bL 1 G.nj<|aq (au 2) aG) (bG 3) G.C4))
def B5:ay ag:=((aD bH (au 1)<|au 0))
def yA:bO:=((eX (wD<|dh 1 [1] (dC<|ae<|bL 1 G.nj<|aq (au 5) aG) (bG 0) et G.B5)<|g9 4 (dS 5) gH))
def Jb:bO:=((bE (cD 1 oA)<|bE (g8 (dC<|ae<|bL 2 G.lA<|aq (au 0)<|aq (ae<|az<|.str "right") aG) (bG 2) G.zX)<|bE (cD 4 oA)<|bE (g8 (dC<|ae<|bL 2 G.lA<|aq (au 0)<|aq (ae<|az<|.str "down") aG) (bG 5) G.yA)<|dd<|zR<|dS 4))
def vr:dA:=(dF 1 6 [0] Jb)
def ng:bO:=((dP (b1<|aD g5 (au 6)<|au 3) (bE (eX (dS 5)<|g9 3 (dS 6) gH)<|bE (dP (b1<|aD g5 (au 6)<|au 1) (dd<|cV<|aq (au 3)<|aq (au 6) aG) eD)<|j_<|iy lE 4 kb<|aq (ae<|aD bH (au 1)<|au 6) aG) eD))
def vQ:ay Bool:=((gX<|au 4))
def r8:bO:=((bE (cD 5<|iy lE 4 ua aG)<|g8 (dC<|ae<|ry<|aD bH (au 0)<|au 5) (bG 6) G.ng))
def yb:bO:=((bE (cD 3 oA)<|bE (cD 4<|cH tf<|aq (au 2) aG)<|bE (fB G.vQ G.r8 1000000)<|dd<|cV<|aq (au 3)<|aq (ae<|az .aS) aG))
def oi:dA:=(dF 3 7 [0,1,2] yb)
def yc:ay Bool:=((b1<|aD (qw X) (au 4)<|ae<|az .aS))
def vE:bO:=((bE (cD 5<|aD bH (au 2)<|au 4)<|bE (cD 6<|vd 1<|dS 5)<|bE (eX (dS 5)<|g9 0 (dS 4) gH)<|bE (eX (dS 4)<|g9 1 (dS 5) gH)<|cD 4<|dS 6))
def By:bO:=((bE (cD 4<|dS 3)<|fB G.yc G.vE 1000000))
def tK:dA:=(dF 4 7 [0,1,2,3] By)
def z4:ay ag:=((dS 0))
def Ab:ay Bool:=((b1<|aD g5 (au 0)<|au 1))
def CK:ay Bool:=((gX<|ae<|az<|.aE X))
def AA:bO:=((bE (cD 3<|bL 3 G.oi<|aq (au 0)<|aq (au 1)<|aq (ae<|dh 1 [2] (sm<|au 0) (bG 0) G.Ab G.z4) aG)<|bE (dP (b1<|aD (qw av) (ae<|mE 3 1)<|ae<|az .aS) (dd<|cV<|aq (au 1)<|aq (ae<|mE 3 0) aG) eD)<|j_<|bL 4 G.tK<|aq (au 1)<|aq (au 2)<|aq (ae<|mE 3 0)<|aq (ae<|mE 3 1) aG))
def CT:bO:=((bE (cD 1 oA)<|bE (cD 2 oA)<|fB G.CK G.AA 1000000))
def vi:dA:=(dF 1 4 [0] CT)
def Al:ay ag:=((pe (b1<|aD hP (au 0)<|au 2) (dS 0)<|dS 1))
def Bi:ay ag:=((cV<|aq (ae<|aD bH (ae<|aD bH (au 0)<|ae<|az<|.int 1)<|ae<|az<|.int 0)<|aq (ae<|aD bH (ae<|aD bH (au 1)<|ae<|az<|.int 1)<|ae<|az<|.int 1) aG))
def I7:bO:=((bE (cD 1<|bL 1 G.vi<|aq (ae<|bL 1 G.vr<|aq (au 0) aG) aG)<|bE (cD 2<|zR<|mE 1 0)<|bE (cD 3<|mE 1 1)<|bE (cD 4<|dh 2 [3] (qx<|au 2) (g0 2<|d2 (bG 0)<|d2 (bG 1) hh) et G.Al)<|bE (cD 5<|dh 2 [] (qx<|au 2) (g0 2<|d2 (bG 0)<|d2 (bG 1) hh) et G.Bi)<|dd<|cV<|aq (ae<|cH mh<|aq (ae<|cH iK<|aq (au 4) aG) aG)<|aq (ae<|cH mh<|aq (ae<|cH iK<|aq (au 5) aG) aG) aG))
def oa:dA:=(dF 1 6 [0] I7)
def uC:bO:=((bE (eX (aD bH (au 2)<|ae<|bL 2 G.dX<|aq (au 0)<|aq (ae<|cH fo<|aq (au 2) aG) aG)<|g0 2<|d2 (bG 4)<|d2 (bG 5) hh)<|bE (dP (b1<|aD e3 (ae<|bL 2 G.dX<|aq (au 0)<|aq (ae<|az<|.int 2) aG)<|ae<|az<|.int 0) (eX (aD bH (au 2)<|ae<|k9<|az<|.int 1)<|g0 2<|d2 (bG 4)<|d2 (bG 5) hh) eD)<|bE (eX (aD bH (ae<|f_<|aq (ae<|cV<|aq (ae<|az<|.int 0)<|aq (ae<|az<|.int 1) aG)<|aq (ae<|cV<|aq (ae<|az<|.int 1)<|aq (ae<|az<|.int 0) aG)<|aq (ae<|cV<|aq (ae<|az<|.int 0)<|aq (ae<|k9<|az<|.int 1) aG)<|aq (ae<|cV<|aq (ae<|k9<|az<|.int 1)<|aq (ae<|az<|.int 0) aG) aG)<|ae<|bL 2 G.dX<|aq (au 0)<|aq (ae<|az<|.int 4) aG)<|g0 2<|d2 (bG 6)<|d2 (bG 7) hh)<|bE (cD 8<|cV<|aq (ae<|aD dJ (au 4)<|au 6)<|aq (ae<|aD dJ (au 5)<|au 7) aG)<|dP (gf (b1<|aD g5 (au 8)<|au 2)<|gf (b1<|aD h8 (ae<|cH fo<|aq (au 2) aG)<|au 1)<|gf (b1<|jf gv gv (ae<|az<|.int 0) (ae<|aD bH (au 8)<|ae<|az<|.int 0)<|ae<|az<|.int 30)<|b1<|jf gv gv (ae<|az<|.int 0) (ae<|aD bH (au 8)<|ae<|az<|.int 1)<|ae<|az<|.int 30) (j_<|iy lE 2 kb<|aq (au 8) aG) eD))
def E9:bO:=((bE (cD 2<|f_<|aq (ae<|cV<|aq (ae<|bL 2 G.dX<|aq (au 0)<|aq (ae<|az<|.int 31) aG)<|aq (ae<|bL 2 G.dX<|aq (au 0)<|aq (ae<|az<|.int 31) aG) aG) aG)<|bE (g8 (ha<|aq (ae<|aD es (ae<|az<|.int 2)<|au 1) aG) (bG 3) G.uC)<|dd<|cH mh<|aq (ae<|cH iK<|aq (au 2) aG) aG))
def tg:dA:=(dF 2 9 [0,1] E9)
def zZ:ay ag:=((cV<|aq (ae<|aD dJ (au 1)<|ae<|aD nd (au 0)<|au 2)<|aq (ae<|aD dJ (au 3)<|ae<|aD fU (au 0)<|au 2) aG))
def Bg:ay ag:=((dS 0))
def Ax:ay Bool:=((b1<|aD ot (ae<|bL 2 G.dX<|aq (au 1)<|aq (au 2) aG)<|ae<|az<|.int 0))
def HO:bO:=((bE (cD 1<|bL 2 G.dX<|aq (au 0)<|aq (ae<|az<|.int 8) aG)<|bE (oH 2 3<|aq (ae<|aD dJ (ae<|az<|.int 1)<|ae<|bL 2 G.dX<|aq (au 0)<|aq (ae<|az<|.int 8) aG)<|aq (ae<|aD dJ (ae<|az<|.int 1)<|ae<|bL 2 G.dX<|aq (au 0)<|aq (ae<|az<|.int 8) aG) aG)<|bE (dP (b1<|aD e3 (ae<|bL 2 G.dX<|aq (au 0)<|aq (ae<|az<|.int 8) aG)<|ae<|az<|.int 0) (eX (aD bH (ae<|f_<|aq (ae<|cV<|aq (ae<|az<|.int 1)<|aq (ae<|az<|.int 31) aG)<|aq (ae<|cV<|aq (ae<|az<|.int 31)<|aq (ae<|az<|.int 1) aG)<|aq (ae<|cV<|aq (ae<|az<|.int 2)<|aq (ae<|az<|.int 31) aG)<|aq (ae<|cV<|aq (ae<|az<|.int 31)<|aq (ae<|az<|.int 2) aG) aG)<|ae<|bL 2 G.dX<|aq (au 0)<|aq (ae<|az<|.int 4) aG)<|g0 2<|d2 (bG 2)<|d2 (bG 3) hh) eD)<|bE (oH 4 5<|aq (ae<|bL 2 G.dX<|aq (au 0)<|aq (ae<|aD jT (ae<|az<|.int 32)<|au 2) aG)<|aq (ae<|bL 2 G.dX<|aq (au 0)<|aq (ae<|aD jT (ae<|az<|.int 32)<|au 3) aG) aG)<|bE (cD 6<|dh 1 [4,3,5] (ha<|aq (ae<|aD es (au 2)<|au 3) aG) (bG 0) et G.zZ)<|bE (dP (b1<|aD h8 (au 1)<|ae<|az<|.int 2) (dd<|cH mh<|aq (au 6) aG) eD)<|bE (dP (b1<|aD h8 (au 1)<|ae<|az<|.int 6) (bE (cD 7<|aD bH (ae<|f_<|aq (ae<|az<|.int 2)<|aq (ae<|az<|.int 3)<|aq (ae<|az<|.int 4)<|aq (ae<|az<|.int 8) aG)<|ae<|bL 2 G.dX<|aq (au 0)<|aq (ae<|az<|.int 4) aG)<|dd<|cH mh<|aq (ae<|dh 1 [0,7] (dC<|au 6) (bG 0) G.Ax G.Bg) aG) eD)<|dd<|bL 2 G.tg<|aq (au 0)<|aq (ae<|aD dJ (ae<|az<|.int 1)<|ae<|bL 2 G.dX<|aq (au 0)<|aq (ae<|aD bH (ae<|f_<|aq (ae<|az<|.int 6)<|aq (ae<|az<|.int 24)<|aq (ae<|az<|.int 60) aG)<|ae<|bL 2 G.dX<|aq (au 0)<|aq (ae<|az<|.int 3) aG) aG) aG))
def uR:dA:=(dF 1 8 [0] HO)
end G
namespace cI
variable{Vx O:Type}
variable{w UG:Type}[DecidableEq w][DecidableEq UG]
structure hu(UH:w->UG->Prop)(b:UG->Option w)(a5:w->Option UG)(M:List UG):Prop where
 inv:∀j r,b j=Z r↔a5 r=Z j
 hj:∀j r,b j=Z r->UH r j
 aj:M.Nodup
 mem:∀j,j∈M↔∃r,b j=Z r
def put{O Vx:Type}[DecidableEq O](N:O->Option Vx)(g:O)(d:Vx):O->Option Vx:=(λf=>if f=g then Z d else N f)
def i6[DecidableEq O](N:O->Option Vx)(g:O)(d:Vx):put N g d g=Z d:=aK rfl
def iu[DecidableEq O](N:O->Option Vx){g f:O}(d:Vx)(e:f≠g):put N g d f=N f:=aL e
structure lj(UH:w->UG->Prop)(a5:w->Option UG)(t:UG->Option w)(n:UG->Nat):Prop where
 hj:∀j r,t j=Z r->UH r j
 lo:∀j r VA,t j=Z r->a5 r=Z VA->(∃VD,t VA=Z VD)/\n VA<n j
variable{UH:w->UG->Prop}{b:UG->Option w}{a5 v:w->Option UG}{t:UG->Option w}{n:UG->Nat}{M:List UG}{j:UG}
structure h4(UH:w->UG->Prop)(v:w->Option UG)(t:UG->Option w)(n:UG->Nat)(b:UG->Option w)(a5:w->Option UG)(j:UG):Prop where
 inv:∀f r,f≠j->(b f=Z r↔a5 r=Z f)
 no:∀r,a5 r≠Z j
 hj:∀f r,f≠j->b f=Z r->UH r f
 old:∀r,(∀f,v r=Z f->n f<n j)->a5 r=v r
 mx:∃r,t j=Z r
def h4.start(UT:hu UH b a5 M)(e:b j=Y)(a:∃r,t j=Z r):h4 UH a5 t n b a5 j:=
 ⟨λf r W=>UT.inv f r,λr c=>(by have:=(UT.inv j r).mpr c;rw[e]at this;cases this),λf r W=>UT.hj f r,λ_ W=>rfl,a⟩
def h4.JP(UO:lj UH v t n)(O:h4 UH v t n b a5 j){r:w}(e:t j=Z r):a5 r=v r:=
 O.old r λf c=>(UO.lo j r f e c).2
def h4.last(UO:lj UH v t n)(O:h4 UH v t n b a5 j){r:w}(e:t j=Z r)(F:a5 r=Y):
  (∀f x,put b j r f=Z x↔put a5 r j x=Z f)/\∀f x,put b j r f=Z x->UH x f:=by
 have G:∀f x,put b j r f=Z x↔put a5 r j x=Z f:=λf x=>by
  by_cases Vs:f=j
  ·subst Vs;rw[i6];by_cases a:x=r
   ·subst a;rw[i6];exact⟨λ_=>rfl,λ_=>rfl⟩
   ·rw[iu _ _ a];exact⟨λc=>absurd (Option.some.inj c).symm a,λc=>absurd c<|O.no x⟩
  ·rw[iu _ _ Vs];by_cases a:x=r
   ·subst a;rw[i6];exact⟨λc=>(by have:=(O.inv f x Vs).mp c;rw[F]at this;cases this),λc=>absurd (Option.some.inj c).symm Vs⟩
   ·rw[iu _ _ a];exact O.inv f x Vs
 refine⟨G,λf x c=>?_⟩;by_cases Vs:f=j
 ·subst Vs;rw[i6]at c;cases c;exact UO.hj _ _ e
 ·rw[iu _ _ Vs]at c;exact O.hj f x Vs c
def h4.next(UO:lj UH v t n)(O:h4 UH v t n b a5 j){r:w}(e:t j=Z r){p:UG}(F:a5 r=Z p):
  h4 UH v t n (put b j r) (put a5 r j) p/\n p<n j/\v r=Z p:=by
 have k:=O.JP UO e;have d:v r=Z p:=by rw[<-k];exact F
 have UJ:=UO.lo j r p e d;have g:p≠j:=λc=>O.no r (by rw[<-c];exact F);refine⟨⟨λf x h=>?_,λx c=>?_,λf x h c=>?_,λx i=>?_,UJ.1⟩,UJ.2,d⟩
 ·by_cases Vs:f=j
  ·subst Vs;rw[i6];by_cases a:x=r
   ·subst a;rw[i6];exact⟨λ_=>rfl,λ_=>rfl⟩
   ·rw[iu _ _ a];exact⟨λc=>absurd (Option.some.inj c).symm a,λc=>absurd c<|O.no x⟩
  ·rw[iu _ _ Vs];by_cases a:x=r
   ·subst a;rw[i6];exact⟨λc=>by have:=(O.inv f x Vs).mp c;rw[F]at this;exact absurd (Option.some.inj this).symm h,λc=>absurd (Option.some.inj c).symm Vs⟩
   ·rw[iu _ _ a];exact O.inv f x Vs
 ·by_cases a:x=r
  ·subst a;rw[i6]at c;exact g (Option.some.inj c).symm
  ·rw[iu _ _ a]at c;have y:=(O.inv p x g).mpr c;have B:=(O.inv p r g).mpr F;rw[y]at B;exact a (Option.some.inj B)
 ·by_cases Vs:f=j
  ·subst Vs;rw[i6]at c;cases c;exact UO.hj _ _ e
  ·rw[iu _ _ Vs]at c;exact O.hj f x Vs c
 ·by_cases a:x=r
  ·subst a;exact absurd (i p d) (gI _)
  ·rw[iu _ _ a];exact O.old x λf c=>ql (i f c) UJ.2
def along(t:UG->Option w):Nat->(UG->Option w)×(w->Option UG)->UG->(UG->Option w)×(w->Option UG)
 |0,m,_=>m
 |s+1,m,j=>
  match t j with
  |none=>m
  |some r=>
   match m.2 r with
   |none=>(put m.1 j r,put m.2 r j)
   |some p=>along t s (put m.1 j r,put m.2 r j) p
def fJ(b:UG->Option w)(j:UG):Prop:=(∃r,b j=Z r)
def ju{b:UG->Option w}{j:UG}{r:w}(f:UG):fJ (put b j r) f↔f=j\/fJ b f:=by
 unfold fJ;by_cases c:f=j
 ·subst c;rw[i6];exact⟨λ_=>.inl rfl,λ_=>⟨r,rfl⟩⟩
 ·rw[iu _ _ c];exact⟨.inr,λe=>e.elim (λk=>absurd k c) id⟩
theorem h4.go(UO:lj UH v t n):∀(s:Nat) {b:UG->Option w}{a5:w->Option UG}{j:UG},n j<s->h4 UH v t n b a5 j->(∀f r,v r=Z f->fJ b f)->
  (∀f x,(along t s (b,a5) j).1 f=Z x↔(along t s (b,a5) j).2 x=Z f)/\(∀f x,(along t s (b,a5) j).1 f=Z x->UH x f)/\∀f,fJ (along t s (b,a5) j).1 f↔f=j\/fJ b f
 |0,_,_,_,e,_,_=>absurd e (lO _)
 |s+1,b,a5,j,h,O,a=>by
  let⟨r,hd⟩:=O.mx;cases F:a5 r with
  |none=>
   have c:along t (s+1) (b,a5) j=(put b j r,put a5 r j):=by simp only[along,hd,F]
   rw[c];have VM:=O.last UO hd F;exact⟨VM.1,VM.2,λf=>ju f⟩
  |some p=>
   have c:along t (s+1) (b,a5) j=along t s (put b j r,put a5 r j) p:=by simp only[along,hd,F]
   rw[c];let⟨d,lt,g⟩:=O.next UO hd F;have l:=h4.go UO s (b:=put b j r) (a5:=put a5 r j) (j:=p) (by omega) d λf x k=>(ju f).mpr (.inr<|a f x k);refine⟨l.1,l.2.1,λf=>(l.2.2 f).trans ⟨λe=>?_,λe=>.inr<|(ju f).mpr e⟩⟩;rcases e with e|e
   ·exact .inr (e ▸ a p r g)
   ·exact (ju f).mp e
structure oV(UH:w->UG->Prop)(b:UG->Option w)(a5:w->Option UG)(aN:UG->Prop):Prop where
 free:∀r j,a5 r=Y->UH r j->aN j
 on:∀p r j,aN p->b p=Z r->UH r j->aN j
 m7:∀j,aN j->∃r,b j=Z r
def hu.holds(UT:hu UH b a5 M){aN:UG->Prop}(h:oV UH b a5 aN){r:w}{j:UG}(e:UH r j):
  (j∈M/\aN j)\/∃p∈M,¬ aN p/\b p=Z r:=by
 cases F:a5 r with
 |none=>
  have o:=h.free r j F e;exact .inl ⟨(UT.mem j).mpr<|h.m7 j o,o⟩
 |some p=>
  have c:=(UT.inv p r).mpr F;by_cases o:aN p
  ·have a:=h.on p r j o c e;exact .inl ⟨(UT.mem j).mpr<|h.m7 j a,a⟩
  ·exact .inr ⟨p,(UT.mem p).mpr ⟨r,c⟩,o,c⟩
def hu.dI(UT:hu UH b a5 M){H:List w}(e:∀r j,UH r j->r∈H):M.length<=H.length:=by
 obtain⟨h,m⟩:∃h:UG->Option w,h=b:=⟨b,rfl⟩;have:(M.filterMap b).length=M.length:=by
  have:∀I:List UG,(∀f∈I,f∈M)->(I.filterMap b).length=I.length:=λI=>by
   induction I with
   |nil=>exact λ_=>rfl
   |cons f I d=>
    intro a;let⟨r,c⟩:=(UT.mem f).mp (a f<|.head _);rw[rR c,dz,dz,d λx g=>a x<|.tail _ g]
  exact this M λ_ e=>e
 rw[<-this];refine uf ?_ λr hd=>?_
 ·have:∀I:List UG,I.Nodup->(I.filterMap b).Nodup:=λI=>by
   induction I with
   |nil=>exact λ_=>.nil
   |cons f I d=>
    intro a;have a:=gC.mp a;cases c:b f with
    |none=>rw[List.filterMap_cons_none c];exact d a.2
    |some r=>
     rw[rR c];refine gC.mpr ⟨λk=>?_,d a.2⟩;let⟨x,g,i⟩:=qp.mp k;have l:=(UT.inv f r).mp c;have VL:=(UT.inv x r).mp i;rw[l]at VL;exact a.1 (Option.some.inj VL ▸ g)
  exact this M UT.aj
 ·let⟨j,W,c⟩:=qp.mp hd;exact e r j (UT.hj j r c)
end cI
namespace cI
variable{w UG:Type}[DecidableEq w][DecidableEq UG]{UH:w->UG->Prop}{b:UG->Option w}{a5:w->Option UG}{t:UG->Option w}{M:List UG}{H:List w}{l a:w->Prop}{s:Nat}
structure iD(UH:w->UG->Prop)(b:UG->Option w)(a5:w->Option UG)(H:List w)(l:w->Prop)(t:UG->Option w)(s:Nat):Prop where
 ll:∃n,lj UH a5 t n/\∀j,fJ t j->n j<s
 op:∀r,l r->∀p,a5 r=Z p->fJ t p
 cl:∀r∈H,(∀p,a5 r=Z p->fJ t p)->l r\/∀j,UH r j->fJ t j
 m7:∀j,fJ t j->fJ b j
def iD.init:iD UH b a5 H (λr=>r∈H/\a5 r=Y) (λ_=>Y) 0:=by
 refine⟨⟨λ_=>0,⟨λj r c=>(by cases c),λj r VA c=>(by cases c)⟩,λj c=>(by let⟨r,c⟩:=c;cases c)⟩,λr e p c=>(by rw[e.2]at c;cases c),λr hd e=>.inl ⟨hd,?_⟩,λj e=>(by let⟨r,c⟩:=e;cases c)⟩;cases F:a5 r with
 |none=>rfl
 |some p=>
  let⟨r,c⟩:=e p F;cases c
def iD.tree(UM:iD UH b a5 H l t s){r:w}{j:UG}(hd:l r)(e:UH r j)(d:¬ fJ t j):
  ∃n,lj UH a5 (put t j r) n/\(∀f,fJ (put t j r) f->n f<s+1):=by
 let⟨n,UO,lt⟩:=UM.ll;refine⟨λf=>if f=j then s else n f,⟨λf x c=>?_,λf x p c F=>?_⟩,λf g=>?_⟩
 ·by_cases Vs:f=j
  ·subst Vs;rw[i6]at c;cases c;exact e
  ·rw[iu _ _ Vs]at c;exact UO.hj f x c
 ·by_cases Vs:f=j
  ·subst Vs;rw[i6]at c;cases c;have a:=UM.op r hd p F;have h:p≠f:=λk=>d (k ▸ a);refine⟨(ju p).mpr<|.inr a,?_⟩;show (if p=f then s else n p)<if f=f then s else n f
   rw[aL h,aK rfl];exact lt p a
  ·rw[iu _ _ Vs]at c;let⟨y,B⟩:=UO.lo f x p c F;have i:p≠j:=λk=>d (k ▸ y);refine⟨(ju p).mpr<|.inr y,?_⟩;show (if p=j then s else n p)<if f=j then s else n f
   rw[aL i,aL Vs];exact B
 ·show (if f=j then s else n f)<s+1;by_cases Vs:f=j
  ·rw[aK Vs];omega
  ·rw[aL Vs];have:=lt f (((ju f).mp g).resolve_left Vs);omega
def iD.add(UM:iD UH b a5 H l t s)(UT:hu UH b a5 M){r VD:w}{j:UG}(hd:l r)(i:UH r j)(m:¬ fJ t j)(UQ:b j=Z VD)(g:∀f,a f↔f=VD\/l f):
  iD UH b a5 H a (put t j r) (s+1):=by
 refine⟨UM.tree hd i m,λf d p F=>?_,λf d e=>?_,λf d=>?_⟩
 ·rcases (g f).mp d with c|n
  ·rw[c,(UT.inv j VD).mp UQ]at F;cases F;exact (ju j).mpr (.inl rfl)
  ·exact (ju p).mpr (.inr<|UM.op f n p F)
 ·by_cases c:f=VD
  ·exact .inl ((g f).mpr<|.inl c)
  ·have S:∀p,a5 f=Z p->fJ t p:=λp F=>by
    rcases (ju p).mp (e p F) with k|k
    ·have h:=(UT.inv p f).mpr F;rw[k,UQ]at h;exact absurd (Option.some.inj h).symm c
    ·exact k
   rcases UM.cl f d S with n|o
   ·exact .inl ((g f).mpr<|.inr n)
   ·exact .inr λp k=>(ju p).mpr (.inr<|o p k)
 ·rcases (ju f).mp d with k|k
  ·exact k ▸ ⟨VD,UQ⟩
  ·exact UM.m7 f k
def iD.Li(UM:iD UH b a5 H l t s)(y:∀r,l r->a r\/∀j,UH r j->fJ t j)(B:∀r,a r->l r):iD UH b a5 H a t s:=
 ⟨UM.ll,λr hd=>UM.op r<|B r hd,λr hd e=>(UM.cl r hd e).elim (λn=>y r n) .inr,UM.m7⟩
def iD.done(UM:iD UH b a5 H l t s)(UT:hu UH b a5 M)(e:∀r,¬ l r)(a:∀r j,UH r j->r∈H):oV UH b a5 (fJ t):=
 ⟨λr j F c=>(UM.cl r (a r j c) λp k=>by rw[F]at k;cases k).resolve_left (e r) j c,
  λp r j o F c=>(UM.cl r (a r j c) λd k=>by rw[(UT.inv p r).mp F]at k;cases k;exact o).resolve_left (e r) j c,
  UM.m7⟩
end cI
namespace cI
abbrev gx:=Int×Int
def EU(UU:Int->Prop)(a i:Int):Prop:=(∀q,(a<=q/\q<=i\/i<=q/\q<=a)->UU q)
def In(P:gx->Prop):Bool->gx->gx->Prop
 |true,f,x=>f.2=x.2/\EU (λa=>P (a,f.2)) f.1 x.1
 |false,f,x=>f.1=x.1/\EU (λi=>P (f.1,i)) f.2 x.2
variable{P UU h:gx->Prop}{d:Bool}{f x k:gx}
def In.symm:In P d f x->In P d x f:=by
 cases d
 ·rintro⟨c,e⟩;exact⟨c.symm,λq a=>by have:=e q (by omega);rwa [c]at this⟩
 ·rintro⟨c,e⟩;exact⟨c.symm,λq a=>by have:=e q (by omega);rwa [c]at this⟩
def In.trans:In P d f x->In P d x k->In P d f k:=by
 cases d
 ·rintro⟨c,e⟩ ⟨a,S⟩;refine⟨c.trans a,λq b=>?_⟩;by_cases p:f.2<=q/\q<=x.2\/x.2<=q/\q<=f.2
  ·exact e q p
  ·have:=S q (by omega);rwa [<-c]at this
 ·rintro⟨c,e⟩ ⟨a,S⟩;refine⟨c.trans a,λq b=>?_⟩;by_cases p:f.1<=q/\q<=x.1\/x.1<=q/\q<=f.1
  ·exact e q p
  ·have:=S q (by omega);rwa [<-c]at this
def In.refl(e:P f)(d:Bool):In P d f f:=by
 cases d
 ·exact⟨rfl,λq a=>by rw[show q=f.2 by omega];exact e⟩
 ·exact⟨rfl,λq a=>by rw[show q=f.1 by omega];exact e⟩
def In.left(e:In P d f x):P f:=by
 cases d
 ·exact e.2 f.2 (by omega)
 ·exact e.2 f.1 (by omega)
def In.right(e:In P d f x):P x:=e.symm.left
def er(P:gx->Prop)(I:List (Bool×gx)):Prop:=(∀o,P o->∃u∈I,In P u.1 u.2 o)
def zo(P:gx->Prop)(t:List gx):Prop:=((∀o∈t,P o)/\t.Pairwise λf x=>∀d,¬ In P d f x)
end cI
namespace cI
variable{P UU h:gx->Prop}{d:Bool}{f x k:gx}
end cI
namespace cI
variable{w UG:Type}[DecidableEq w][DecidableEq UG]{UH:w->UG->Prop}{b:UG->Option w}{a5:w->Option UG}{M:List UG}{aN:UG->Prop}{P:gx->Prop}
structure ta(P:gx->Prop)(UH:w->UG->Prop)(hd:w->gx)(UQ:UG->gx):Prop where
 cr:∀r j,UH r j->∃o,In P X (hd r) o/\In P av (UQ j) o
 all:∀o,P o->∃r j,UH r j/\In P X (hd r) o/\In P av (UQ j) o
 Hi:∀r j VD VA,UH r j->UH VD VA->In P X (hd r) (hd VD)->r=VD
 wg:∀r j VD VA,UH r j->UH VD VA->In P av (UQ j) (UQ VA)->j=VA
variable{hd:w->gx}{UQ:UG->gx}
def ta.at_(A:ta P UH hd UQ){r:w}{j:UG}(e:UH r j):In P X (hd r) ((UQ j).1,(hd r).2)/\In P av (UQ j) ((UQ j).1,(hd r).2):=by
 let⟨o,y,B⟩:=A.cr r j e;have c:o=((UQ j).1,(hd r).2):=by
  have a:(hd r).2=o.2:=y.1;have VL:(UQ j).1=o.1:=B.1;rw[a,VL]
 rw[<-c];exact⟨y,B⟩
def hu.hold[DecidablePred aN](UT:hu UH b a5 M)(h:oV UH b a5 aN)(A:ta P UH hd UQ){F:UG->Bool×gx}(e:∀j∈M,∀r,b j=Z r->F j=if aN j then (av,UQ j) else (X,hd r)):er P (M.map F):=λo f=>by
 let⟨r,j,c,y,B⟩:=A.all o f;rcases UT.holds h c with ⟨a,d⟩|⟨p,a,d,g⟩
 ·let⟨VD,i⟩:=(UT.mem j).mp a;refine⟨F j,da.mpr ⟨j,a,rfl⟩,?_⟩;rw[e j a VD i,aK d];exact B
 ·refine⟨F p,da.mpr ⟨p,a,rfl⟩,?_⟩;rw[e p a r g,aL d];exact y
def hu.apart(UT:hu UH b a5 M)(A:ta P UH hd UQ){F:UG->gx}(a:∀j∈M,∀r,b j=Z r->F j=((UQ j).1,(hd r).2)):zo P (M.map F):=by
 refine⟨λo q=>?_,?_⟩
 ·let⟨j,i,rfl⟩:=da.mp q;let⟨r,c⟩:=(UT.mem j).mp i;rw[a j i r c];exact (A.at_<|UT.hj j r c).1.right
 ·rw[nU];refine (GP.mp UT.aj).imp_of_mem λ{j m} k l ne d e=>ne ?_;let⟨r,c⟩:=(UT.mem j).mp k;let⟨VD,f⟩:=(UT.mem m).mp l;have g:=UT.hj j r c;have h:=UT.hj m VD f;rw[a j k r c,a m l VD f]at e;have n:=A.at_ g;have p:=A.at_ h;cases d
  ·exact A.wg r j VD m g h (n.2.trans<|e.trans p.2.symm)
  ·have s:=A.Hi r j VD m g h (n.1.trans<|e.trans p.1.symm);subst s;have t:=(UT.inv j r).mp c;have VL:=(UT.inv m r).mp f;rw[t]at VL;exact Option.some.inj VL
end cI
namespace G
open L2
section
variable{UK ak:Type}[DecidableEq UK]
def o3{I:List UK}(f:UK)(e:I.Nodup):(ez I f).Nodup:=Gr ny [f] I e
def Ad(I:List UK)(f:UK):(ez I f).length<=I.length+1:=F4 ny [f] I
end
variable{U_:Type}{UR w:a4}{q i a:Int}{e o:a0}{s:Nat}{aa:List a0}{d:Bool}
abbrev aU:=Bool×a0×Nat
variable{V7 T U M:List aU}{F h N:aU->aU}{j:aU}
def bK:Bool->V
 |true=>.str "down"
 |false=>.str "right"
def a6(j:aU):List V:=([bK j.1,aH j.2.1,.int j.2.2])
def aw(j:aU):V:=(.tup (a6 j))
def gr(j m:aU)(e:a6 j=a6 m):j=m:=by
 let⟨d,o,s⟩:=j;let⟨a,f,b⟩:=m;unfold a6 at e;simp only[x1,and_true,V.int.injEq]at e;have B:=Aa e.2.1;have c:s=b:=by have:=e.2.2;lia
 subst B c;cases d<;>cases a
 ·rfl
 ·exact absurd e.1 ∅
 ·exact absurd e.1 ∅
 ·rfl
def g6(j:aU):V.keys 7 (a6 j)=X:=by let⟨d,o,s⟩:=j;cases d<;>rfl
def Qk{m:aU}(e:aw j=aw m):j=m:=gr j m (V.tup.inj e)
def Bn(g d:a0)(e:ee g=ee d):g=d:=vL e
abbrev bB(V7:List aU):ag:=.lst (V7.map aw)
abbrev d8(V7:List aU):ag:=.im (.tup<|V7.map aw)
def bt(d:Bool)(o:a0)(q:Int):a0:=(if d then (o.1+q,o.2) else (o.1,o.2+q))
def A2(d:Bool)(o:a0)(q:Int):o6 [.im (bK d),.im<|aH o,aA q]=Z (.im<|aH<|bt d o q,[.im (bK d),.im<|aH o,aA q]):=by cases d<;>rfl
def xT(e:bt d o a=bt d o i):a=i:=by
 cases d
 ·have:o.2+a=o.2+i:=congrArg Prod.snd e;lia
 ·have:o.1+a=o.1+i:=congrArg Prod.fst e;lia
def jt(d:Bool)(o:a0):bt d o 0=o:=by
 let⟨f,x⟩:=o;cases d
 ·show (f,x+0)=_;rw[I3]
 ·show (f+0,x)=_;rw[I3]
def pk(d:Bool)(o:a0)(a i:Int):bt d (bt d o a) i=bt d o (a+i):=by
 cases d
 ·show (o.1,o.2+a+i)=(o.1,o.2+(a+i));rw[DD]
 ·show (o.1+a+i,o.2)=(o.1+(a+i),o.2);rw[DD]
structure lB(aa:List a0)(d:Bool)(o:a0)(s:Nat):Prop where
 pos:1<=s
 sL:∀i:Nat,i<s->bt d o i∈aa
 out:bt d o s∉aa
def lB.uniq{t:Nat}(e:lB aa d o s)(F:lB aa d o t):s=t:=by
 rcases q_ s t with k|k|k
 ·exact absurd (F.sL s k) e.out
 ·exact k
 ·exact absurd (e.sL t k) F.out
def gg(aa:List a0)(d:Bool)(o:a0):Nat:=(Classical.epsilon (lB aa d o))
def Ji(e:∀i:Nat,i<s->bt d o i∈aa):s<=aa.length:=by
 have:=uf (l₁:=(range s).map λ(i:Nat)=>bt d o (i:Int)) (l₂:=aa) ?_ λf b=>?_
 ·rwa [bl,fM]at this
 ·exact kn (λa W i W c=>by have:=xT c;lia) nr
 ·let⟨i,g,rfl⟩:=da.mp b;exact e i (eT.mp g)
def Ge(b:o∈aa)(g:aa.length<=1000):∃s,lB aa d o s/\rd [.aJ (cj aa),.im<|bK d,.im<|aH o]=Z (.im<|aw (d,o,s),[.aJ (cj aa),.im<|bK d,.im<|aH o]):=by
 have cond:∀q:Nat,zz [Z (.aJ<|cj aa),Z<|.im<|bK d,Z<|.im<|aH o,Z<|aA q]=Z (decide (bt d o q∈aa),[Z (.aJ<|cj aa),Z<|.im<|bK d,Z<|.im<|aH o,Z<|aA q]):=λq=>eG (cg (bg<|eb (U5:=[.bF 1,.bF 2,.bF 3]) rfl rfl rfl (A2 d o q) rfl) rfl rfl rfl<|Nj aa _);let⟨U4,c,⟨s,rfl,VM⟩⟩:=Pc (o:=zz) (d:=I6) (λt w=>∃q:Nat,w=[Z (.aJ<|cj aa),Z<|.im<|bK d,Z<|.im<|aH o,Z<|aA q]/\1<=q/\(∀i:Nat,i<q->bt d o i∈aa)/\aa.length+1-q<=t) (λw=>∃q:Nat,w=[Z (.aJ<|cj aa),Z<|.im<|bK d,Z<|.im<|aH o,Z<|aA q]/\lB aa d o q)
  (λt w ef=>by
   let⟨q,rfl,y,B,h⟩:=ef;refine⟨_,_,cond q,λbP=>?_,λe=>⟨q,rfl,y,B,of_decide_eq_false e⟩⟩;have a:∀i:Nat,i<q+1->bt d o i∈aa:=λi f=>by
    rcases gd i q with k|k
    ·exact B i k
    ·rw[show i=q by lia];exact fY bP
   have:=Ji a;exact⟨.bz,[Z (.aJ<|cj aa),Z<|.im<|bK d,Z<|.im<|aH o,Z<|aA (q+1:Nat)],rfl,.inl rfl,aa.length+1-(q+1),⋯,q+1,rfl,⋯,a,bb _⟩) 1000000 (aa.length+1-1) [Z (.aJ<|cj aa),Z<|.im<|bK d,Z<|.im<|aH o,Z<|aA (1:Nat)] ⟨1,rfl,bb _,λi f=>by rw[show i=0 by lia];show bt d o 0∈aa;rw[jt];exact b,bb _⟩ ⋯
 refine⟨s,VM,?_⟩;unfold rd Dv;exact fG (w:=[Z (.aJ<|cj aa),Z<|.im<|bK d,Z<|.im<|aH o,Z<|aA s]) rfl (bM (UR:=[Z (.aJ<|cj aa),Z<|.im<|bK d,Z<|.im<|aH o,Z<|aA (1:Nat)]) rfl<|bM c rfl) rfl
def tV(a:o∈aa)(b:aa.length<=1000):lB aa d o (gg aa d o):=by
 let⟨s,e,W⟩:=Ge (d:=d) a b;exact @Eg Nat (lB aa d o) ⟨s,e⟩
abbrev j1(aa:List a0)(d:Bool)(o:a0):aU:=(d,o,gg aa d o)
def LZ(a:o∈aa)(b:aa.length<=1000):rd [.aJ (cj aa),.im<|bK d,.im<|aH o]=Z (.im<|aw<|j1 aa d o,[.aJ (cj aa),.im<|bK d,.im<|aH o]):=by
 let⟨s,e,c⟩:=Ge (d:=d) a b;have:=(tV a b).uniq e;subst this;exact c
def ar(aa:List a0)(d:Bool):List a0:=(aa.filter λo=>!decide (bt d o (-1)∈aa))
def b3(aa:List a0)(d:Bool):List aU:=((ar aa d).map (j1 aa d))
def L8(aj:aa.Nodup)(a:aa.length<=1000):ru [a3 aa]=Z (.aJ<|cj aa,[a3 aa]):=by
 have:=Rq (b:=aa) ⋯
 rwa [xm Ky aa [] (by exact aj)]at this
def xP(aj:aa.Nodup)(a:aa.length<=1000)(d:Bool):lA [a3 aa,.im<|bK d]=Z (bB<|b3 aa d,[a3 aa,.im<|bK d]):=by
 have c4:dh 1 [1,2] (dC<|au 0) (bG 0) G.Jc G.IK [Z (a3 aa),Z<|.im<|bK d,Z<|.aJ<|cj aa]=Z (.lst<|(aa.filter λo=>!decide (bt d o (-1)∈aa)).map λo=>aw<|j1 aa d o,[Z (a3 aa),Z<|.im<|bK d,Z<|.aJ<|cj aa]):=by
  refine hv (E:=aa.map aH) (n:=Y) (UR:=[Z (a3 aa),Z<|.im<|bK d,Z<|.aJ<|cj aa]) rfl (pG aH (λo=>!decide (bt d o (-1)∈aa)) (λo=>aw<|j1 aa d o) _ [] (λo b=>?_) (by rw[iW];lia)) rfl;refine⟨[Z (.im<|aH o),Z<|.im<|bK d,Z<|.aJ<|cj aa],[Z (.im<|aH o),Z<|.im<|bK d,Z<|.aJ<|cj aa],rfl,eG<|cg (bg<|eb (U5:=[.bF 1,.bF 0,.dv<|aA<|-1]) rfl rfl rfl (A2 d o<|-1) rfl) rfl rfl rfl<|K2 aa _,λ_=>rfl,λ_=>⟨[Z (.im<|aH o),Z<|.im<|bK d,Z<|.aJ<|cj aa],eb (U5:=[.bF 2,.bF 1,.bF 0]) rfl rfl rfl (LZ b a) rfl,rfl⟩⟩
 unfold lA I0;refine fG (w:=[Z (a3 aa),Z<|.im<|bK d,Z<|.aJ<|cj aa]) rfl (bM (UR:=[Z (a3 aa),Z<|.im<|bK d,Z<|.aJ<|cj aa]) (i9 (eb (U5:=[.bF 0]) rfl rfl rfl (L8 aj a) rfl) (f5 rfl) rfl)<|fQ<|c4.trans ?_) rfl;unfold b3 ar bB;rw[e7];rfl
def cls(j:aU):List a0:=((range j.2.2).map λ(q:Nat)=>bt j.1 j.2.1 (q:Int))
def FH(e:j.2.2<=1000):nj [.im (aw j)]=Z (cn<|cls j,[.im (aw j)]):=by
 let⟨d,o,s⟩:=j;have e:s<=1000:=e;have c4:dh 1 [0] (ha<|aq (ae<|aD bH (au 0)<|ae<|az<|.int 2) aG) (bG 0) et G.GC [Z (.im<|aw (d,o,s))]=Z (.lst<|(range s).map λ(q:Nat)=>aH<|bt d o q,[Z (.im<|aw (d,o,s))]):=by
  refine hv (E:=(range s).map λ(q:Nat)=>V.int<|0+(q:Int)) (n:=Y) (UR:=[Z (.im<|aw (d,o,s))]) (rm (i:=(s:Int)) (b_ (bg<|cg rfl rfl rfl rfl rfl) rfl) rfl ⟨⋯,⋯⟩) (jo (λ(q:Nat)=>V.int<|0+(q:Int)) (λ(q:Nat)=>aH<|bt d o q) _ (λq b=>?_) (by rw[fM];lia)) rfl;refine⟨[Z (aA<|0+q),Z<|.im<|aw (d,o,s)],_,[Z (aA<|0+q),Z<|.im<|aw (d,o,s)],rfl,rfl,?_,rfl⟩;have a:o6 [.im (bK d),.im<|aH o,aA<|0+(q:Int)]=Z (.im<|aH<|bt d o q,[.im (bK d),.im<|aH o,aA<|0+(q:Int)]):=by
   have:=A2 d o (0+(q:Int))
   rwa [show bt d o (0+(q:Int))=bt d o q by rw[Int.zero_add]]at this
  exact eb (U5:=[.dv (.im<|bK d),.dv<|.im<|aH o,.bF 0]) (b_ (bg<|cg rfl rfl rfl rfl rfl)<|b_ (bg<|cg rfl rfl rfl rfl rfl)<|b_ rfl rfl) rfl rfl a rfl
 unfold nj GZ;refine fG (w:=[Z (.im<|aw (d,o,s))]) rfl (fQ<|c4.trans ?_) rfl;unfold cls cn;rw[e7];rfl
abbrev gA(aa:List a0):a0->Prop:=λo=>o∈aa
def CX(p:cI.In (gA aa) d e o):∃q:Int,o=bt d e q/\∀i:Int,(0<=i/\i<=q\/q<=i/\i<=0)->bt d e i∈aa:=by
 let⟨y,B⟩:=e;let⟨a,b⟩:=o;cases d
 ·let⟨c,p⟩:=p;have c:y=a:=c;subst c;refine⟨b-B,?_,λi f=>p (B+i) ?_⟩
  ·show (y,b)=(y,B+(b-B));rw[show B+(b-B)=b by lia]
  ·show B<=B+i/\B+i<=b\/b<=B+i/\B+i<=B;lia
 ·let⟨c,p⟩:=p;have c:B=b:=c;subst c;refine⟨a-y,?_,λi f=>p (y+i) ?_⟩
  ·show (a,B)=(y+(a-y),B);rw[show y+(a-y)=a by lia]
  ·show y<=y+i/\y+i<=a\/a<=y+i/\y+i<=y;lia
def Hj(p:∀i:Int,(0<=i/\i<=q\/q<=i/\i<=0)->bt d e i∈aa):cI.In (gA aa) d e (bt d e q):=by
 let⟨y,B⟩:=e;cases d
 ·refine⟨rfl,λa UN=>?_⟩;have UN:B<=a/\a<=B+q\/B+q<=a/\a<=B:=UN;have:(y,B+(a-B))∈aa:=p (a-B) ⋯
  rwa [show B+(a-B)=a by lia]at this
 ·refine⟨rfl,λa UN=>?_⟩;have UN:y<=a/\a<=y+q\/y+q<=a/\a<=y:=UN;have:(y+(a-y),B)∈aa:=p (a-y) ⋯
  rwa [show y+(a-y)=a by lia]at this
section
variable{aa:List a0}{d:Bool}
def rJ:e∈ar aa d↔e∈aa/\bt d e (-1)∉aa:=by
 unfold ar;rw[qj,nL,q7]
def Hs(b:aa.length<=1000){e o:a0}(c:e∈ar aa d):o∈cls (j1 aa d e)↔cI.In (gA aa) d e o:=by
 let⟨y,B⟩:=rJ.mp c;have VM:=tV (d:=d) y b;constructor
 ·intro f;let⟨q,a,rfl⟩:=da.mp f;have a:=eT.mp a;refine Hj λi g=>?_;have:=VM.sL i.toNat ⋯
  rwa [show ((i.toNat:Nat):Int)=i by lia]at this
 ·intro p;let⟨q,rfl,a⟩:=CX p;have h:0<=q:=by
   rcases DN q 0 with k|k
   ·exact absurd (a (-1) ⋯) B
   ·exact k
  have Vf:q<gg aa d e:=by
   rcases DN q (gg aa d e) with k|k
   ·exact k
   ·exact absurd (a _ ⋯) VM.out
  refine da.mpr ⟨q.toNat,eT.mpr (show q.toNat<gg aa d e by lia),?_⟩;show bt d e ((q.toNat:Nat):Int)=_;rw[show ((q.toNat:Nat):Int)=q by lia]
def J1(g:aa.length<=1000){e S:a0}(c:e∈ar aa d)(f:S∈ar aa d)(p:cI.In (gA aa) d e S):e=S:=by
 let⟨q,rfl,a⟩:=CX p;let⟨W,B⟩:=rJ.mp c;let⟨W,b⟩:=rJ.mp f;rw[pk]at b;rcases Int.lt_trichotomy q 0 with k|k|k
 ·exact absurd (a (-1) ⋯) B
 ·rw[k,jt]
 ·exact absurd (a (q + -1) ⋯) b
def Qv(l:aa.length<=1000){o:a0}(g:o∈aa):∃e∈ar aa d,cI.In (gA aa) d e o:=by
 have G:∀s:Nat,(∃e∈ar aa d,cI.In (gA aa) d e o)\/∀i:Nat,i<=s->bt d o (-(i:Int))∈aa:=λs=>by
  induction s with
  |zero=>exact .inr λi b=>by rw[show i=0 by lia];show bt d o 0∈aa;rw[jt];exact g
  |succ s h=>
   rcases h with k|k
   ·exact .inl k
   ·by_cases F:bt d o (-((s+1:Nat):Int))∈aa
    ·refine .inr λi b=>?_;rcases gd i (s+1) with x|x
     ·exact k i ⋯
     ·rw[show i=s+1 by lia];exact F
    ·refine .inl ⟨bt d o<|-(s:Int),rJ.mpr ⟨k s<|bb _,?_⟩,cI.In.symm<|Hj λi b=>?_⟩
     ·rw[pk,show -(s:Int) + -1 = -((s+1:Nat):Int) by lia];exact F
     ·have:=k (-i).toNat ⋯
      rwa [show -(((-i).toNat:Nat):Int)=i by lia]at this
 rcases G aa.length with k|k
 ·exact k
 ·have:=uf (l₁:=(range<|aa.length+1).map λ(i:Nat)=>bt d o<|-(i:Int)) (l₂:=aa) (kn (λa W i W c=>by have:=xT c;lia) nr) λf j=>by
   let⟨i,b,rfl⟩:=da.mp j;exact k i (by have:=eT.mp b;lia)
  rw[bl,fM]at this;lia
def jH(a:aa.length<=1000){j:aU}(UQ:j∈b3 aa d){o:a0}:o∈cls j↔cI.In (gA aa) d j.2.1 o:=by
 let⟨e,b,rfl⟩:=da.mp UQ;exact Hs a b
def zS(a:aa.length<=1000){j m:aU}(UQ:j∈b3 aa d)(b:m∈b3 aa d)(p:cI.In (gA aa) d j.2.1 m.2.1):j=m:=by
 let⟨e,c,rfl⟩:=da.mp UQ;let⟨S,f,rfl⟩:=da.mp b;rw[J1 a c f p]
def xX(a:aa.length<=1000){o:a0}(c:o∈aa):∃j∈b3 aa d,o∈cls j:=by
 let⟨e,b,p⟩:=Qv (d:=d) a c;exact⟨j1 aa d e,da.mpr ⟨e,b,rfl⟩,(Hs a b).mpr p⟩
def KI(a:aa.length<=1000){j m:aU}{o:a0}(UQ:j∈b3 aa d)(b:m∈b3 aa d)(y:o∈cls j)(B:o∈cls m):j=m:=
 zS a UQ b (((jH a UQ).mp y).trans ((jH a b).mp B).symm)
def kA(a:aa.length<=1000){j:aU}(UQ:j∈b3 aa d):j.1=d/\j.2.1∈aa/\j.2.2<=aa.length:=by
 let⟨e,b,rfl⟩:=da.mp UQ;have:=(rJ.mp b).1;exact⟨rfl,this,Ji (tV this a).sL⟩
theorem th(a:aa.length<=1000){j:aU}(UQ:j∈b3 aa d){o:a0}(e:o∈cls j):o∈aa:=((jH a UQ).mp e).right
end
def As(aj:aa.Nodup):(b3 aa d).Nodup:=kn (λf W x W c=>congrArg (λj:aU=>j.2.1) c) (aj.sublist GI)
def nO:(b3 aa d).length<=aa.length:=by
 unfold b3;rw[bl];exact Iw _ _
def hZ(aa:List a0)(o:a0):aU:=(Classical.epsilon λj=>j∈b3 aa av/\o∈cls j)
def zf(a:aa.length<=1000){o:a0}(b:o∈aa):hZ aa o∈b3 aa av/\o∈cls (hZ aa o):=by
 let⟨j,y,B⟩:=xX (d:=av) a b;exact @Eg aU (λj=>j∈b3 aa av/\o∈cls j) ⟨j,y,B⟩
def IA(a:aa.length<=1000){o:a0}{j:aU}(UQ:j∈b3 aa av)(e:o∈cls j):hZ aa o=j:=by
 have:=zf a (th a UQ e);exact KI a this.1 UQ this.2 e
def ac(aa:List a0)(r:aU):List aU:=((cls r).map (hZ aa))
def h2(aa:List a0)(r j:aU):Prop:=(r∈b3 aa X/\j∈ac aa r)
def sU(a:aa.length<=1000){r j:aU}:h2 aa r j↔r∈b3 aa X/\j∈b3 aa av/\∃o,o∈cls r/\o∈cls j:=by
 constructor
 ·rintro⟨hd,UQ⟩;let⟨o,b,rfl⟩:=da.mp UQ;have:=zf a (th a hd b);exact⟨hd,this.1,o,b,this.2⟩
 ·rintro⟨hd,UQ,o,y,B⟩;exact⟨hd,da.mpr ⟨o,y,IA a UQ B⟩⟩
theorem Mx(a:aa.length<=1000):cI.ta (gA aa) (h2 aa) (λr:aU=>r.2.1) (λj:aU=>j.2.1) where
 cr:=λr j e=>by
  let⟨hd,UQ,o,y,B⟩:=(sU a).mp e;exact⟨o,(jH a hd).mp y,(jH a UQ).mp B⟩
 all:=λo b=>by
  let⟨r,hd,y⟩:=xX (d:=X) a b;let⟨j,UQ,B⟩:=xX (d:=av) a b;exact⟨r,j,(sU a).mpr ⟨hd,UQ,o,y,B⟩,(jH a hd).mp y,(jH a UQ).mp B⟩
 Hi:=λr j VD VA e S p=>zS a e.1 S.1 p
 wg:=λr j VD VA e S p=>zS a ((sU a).mp e).2.1 ((sU a).mp S).2.1 p
abbrev gn(I:List aU):V:=.aT (I.map aw)
section
variable{aa:List a0}
abbrev fW(aa:List a0)(M:List a0)(Vo Vu VE Vp:Option ag):a4:=[Z (a3 aa),Z<|.aJ<|aW ee aw M<|hZ aa,Vo,Vu,VE,Vp]
def Jf{UK ak:Type}[DecidableEq UK](N:UK->ak)(q:UK):fz N q (N q)=N:=funext λf=>by
 by_cases c:f=q
 ·rw[c,tL]
 ·rw[uH _ _ c]
theorem Ba(aj:aa.Nodup)(d:aa.length<=1000){j:aU}(UQ:j∈b3 aa av){VE Vp:Option ag}:∀(U M:List a0) (Vu:Option ag),(∀o∈U,o∈cls j)->M.Nodup->(∀o∈M,o∈aa)->
  ∃a g,en (bG 3) C4 (U.map aH) (fW aa M (Z<|.im<|aw j) Vu VE Vp)=Z (.bz,fW aa a (Z<|.im<|aw j) g VE Vp)/\a.Nodup/\(∀o∈a,o∈aa)/\(∀o∈M,o∈a)/\∀o∈U,o∈a
 |[],M,Vu,_,y,B=>⟨M,Vu,rfl,y,B,λ_ e=>e,λ_ e=>nomatch e⟩
 |o::U,M,Vu,h,y,B=>by
  have c:j=hZ aa o:=(IA d UQ<|h o<|.head _).symm;have t:M.length<=aa.length:=y.length_le_of_subset B;have m:gH (.aJ<|aW ee aw M<|hZ aa) (.im<|aH o) (.im<|aw j)=Z (.aJ<|aW ee aw (ez M o)<|hZ aa):=by
   have:=sZ (l:=aw) (M:=M) (N:=hZ aa) Bn (uv o) j ⋯;rw[c,Jf]at this;rw[c];exact this
  let⟨a,g,n,p,q,i,s⟩:=Ba aj d UQ (VE:=VE) (Vp:=Vp) U (ez M o) (Z<|.im<|aH o) (λf b=>h f<|.tail _ b) (o3 o y) λf b=>by
   rcases kD.mp b with k|k
   ·rw[k];exact th d UQ (h o<|.head _)
   ·exact B f k
  refine⟨a,g,?_,p,q,λf b=>i f<|kD.mpr<|.inr b,λf b=>?_⟩
  ·rw[cw];exact qu (UR:=fW aa M (Z<|.im<|aw j) (Z<|.im<|aH o) VE Vp) rfl (i1 (r:=.im (aw j)) (UR:=fW aa M (Z<|.im<|aw j) (Z<|.im<|aH o) VE Vp) rfl<|r5 rfl rfl m rfl) n
  ·rcases b9.mp b with k|k
   ·rw[k];exact i o (kD.mpr<|.inl rfl)
   ·exact s f k
theorem Dn(aj:aa.Nodup)(c:aa.length<=1000){VE Vp:Option ag}:∀(V7:List aU) (M:List a0) (Vo Vu:Option ag),(∀j∈V7,j∈b3 aa av)->M.Nodup->(∀o∈M,o∈aa)->
  ∃a g h,en (bG 2) zX (V7.map aw) (fW aa M Vo Vu VE Vp)=Z (.bz,fW aa a g h VE Vp)/\a.Nodup/\(∀o∈a,o∈aa)/\(∀o∈M,o∈a)/\∀j∈V7,∀o∈cls j,o∈a
 |[],M,Vo,Vu,_,y,B=>⟨M,Vo,Vu,rfl,y,B,λ_ e=>e,λ_ e=>nomatch e⟩
 |j::V7,M,Vo,Vu,UQ,y,B=>by
  have d:=UQ j (.head _);let⟨Vf,i,l,p,q,r,s⟩:=Ba aj c d (VE:=VE) (Vp:=Vp) (cls j) M Vu (λ_ e=>e) y B;let⟨Vt,t,u,v,w,x,f,z⟩:=Dn aj c (VE:=VE) (Vp:=Vp) V7 Vf (Z<|.im<|aw j) i (λm ar=>UQ m<|.tail _ ar) p q;refine⟨Vt,t,u,?_,w,x,λo b=>f o<|r o b,λm ar o b=>?_⟩
  ·rw[cw];refine qu (UR:=fW aa M (Z<|.im<|aw j) Vu VE Vp) rfl ?_ v;unfold zX;refine jO (n:=Y) (E:=(cls j).map aH) (UR:=fW aa M (Z<|.im<|aw j) Vu VE Vp) ?_ l rfl;have A:bL 1 G.nj (aq (au 2) aG) (fW aa M (Z<|.im<|aw j) Vu VE Vp)=Z (cn<|cls j,fW aa M (Z<|.im<|aw j) Vu VE Vp):=eb (U5:=[.bF 2]) rfl rfl rfl (FH (by have:=(kA c d).2.2;lia)) rfl;unfold dC;rw[c3 A];rfl
  ·rcases b9.mp ar with k|k
   ·rw[k]at b;exact f o (s o b)
   ·exact z m k o b
theorem EE(aj:aa.Nodup)(b:aa.length<=1000){M:List a0}(c:∀o∈aa,o∈M){Vo Vu:Option ag}:∀(H a:List aU) (Vp:Option ag),(∀r∈H,r∈b3 aa X)->a.length+H.length<=1000->
  ∃e,en (bG 5) yA (H.map aw) (fW aa M Vo Vu (Z<|.aJ<|aW a6 gn a<|ac aa) Vp)=Z (.bz,fW aa M Vo Vu (Z<|.aJ<|aW a6 gn (H.foldl ez a)<|ac aa) e)
 |[],a,Vp,_,_=>⟨Vp,rfl⟩
 |r::H,a,Vp,hd,f=>by
  have d:=hd r (.head _);rw[dz]at f;let⟨g,h⟩:=EE aj b c (Vo:=Vo) (Vu:=Vu) H (ez a r) (Z<|.im<|aw r) (λm ar=>hd m<|.tail _ ar) (by have:=Ad a r;lia);refine⟨g,?_⟩;rw[cw];refine qu (UR:=fW aa M Vo Vu (Z<|.aJ<|aW a6 gn a<|ac aa) (Z<|.im<|aw r)) rfl ?_ h;have dl:=(kA b d).2.2;have c4:dh 1 [1] (dC<|ae<|bL 1 G.nj<|aq (au 5) aG) (bG 0) et G.B5 (fW aa M Vo Vu (Z<|.aJ<|aW a6 gn a<|ac aa)<|Z<|.im<|aw r)=Z (.lst<|(cls r).map λo=>aw<|hZ aa o,fW aa M Vo Vu (Z<|.aJ<|aW a6 gn a<|ac aa)<|Z<|.im<|aw r):=by
   refine hv (E:=(cls r).map aH) (n:=Y) (UR:=fW aa M Vo Vu (Z<|.aJ<|aW a6 gn a<|ac aa) (Z<|.im<|aw r)) ?_ (jo aH (λo=>aw<|hZ aa o) _ (λo i=>?_) (by unfold cls;rw[bl,fM];lia)) rfl
   ·have j:bL 1 G.nj (aq (au 5) aG) (fW aa M Vo Vu (Z<|.aJ<|aW a6 gn a<|ac aa)<|Z<|.im<|aw r)=Z (cn<|cls r,fW aa M Vo Vu (Z<|.aJ<|aW a6 gn a<|ac aa)<|Z<|.im<|aw r):=eb (U5:=[.bF 5]) rfl rfl rfl (FH ⋯) rfl;unfold dC;rw[c3 j];rfl
   ·exact⟨[Z (.im<|aH o),Z<|.aJ<|aW ee aw M<|hZ aa],_,[Z (.im<|aH o),Z<|.aJ<|aW ee aw M<|hZ aa],rfl,rfl,eo<|yS (l:=aw) (N:=hZ aa) Bn (uv o)<|c o<|th b d i,rfl⟩
  have k:gH (.aJ<|aW a6 gn a<|ac aa) (.im<|aw r) (.im<|gn<|ac aa r)=Z (.aJ<|aW a6 gn (ez a r)<|ac aa):=by
   have:=sZ (l:=gn) (M:=a) (N:=ac aa) gr (g6 r) (ac aa r) ⋯
   rwa [Jf]at this
  unfold yA;refine i1 (r:=.im (gn<|ac aa r)) (UR:=fW aa M Vo Vu (Z<|.aJ<|aW a6 gn a<|ac aa) (Z<|.im<|aw r)) ((Px c4).trans ?_) (r5 rfl rfl k rfl);unfold gn ac;rw[e7];rfl
def dV(aa:List a0):ag:=(.e_ (aW a6 gn (b3 aa X)<|ac aa))
def SV(aj:aa.Nodup)(b:aa.length<=1000):vr [a3 aa]=Z (dV aa,[a3 aa]):=by
 let⟨M,Vo,Vu,f,k,l,W,g⟩:=Dn aj b (VE:=Y) (Vp:=Y) (b3 aa av) [] Y Y (λ_ e=>e) g4 (λ_ e=>nomatch e);have h:∀o∈aa,o∈M:=λo i=>by
  have:=zf b i;exact g _ this.1 o this.2
 let⟨Vp,c⟩:=EE aj b h (Vo:=Vo) (Vu:=Vu) (b3 aa X) [] Y (λ_ e=>e) (by have:=nO (aa:=aa) (d:=X);rw[iW];lia);rw[xm ny (b3 aa X) [] (by exact As aj),lQ]at c;have D:∀(d:Bool) (a Vo Vu VE Vp:Option ag),dC (ae<|bL 2 G.lA<|aq (au 0)<|aq (ae<|az<|bK d) aG) [Z (a3 aa),a,Vo,Vu,VE,Vp]=Z (((b3 aa d).map aw,Y),[Z (a3 aa),a,Vo,Vu,VE,Vp]):=λd a Vo Vu VE Vp=>by
  have j:bL 2 G.lA (aq (au 0)<|aq (ae<|az<|bK d) aG) [Z (a3 aa),a,Vo,Vu,VE,Vp]=Z (bB<|b3 aa d,[Z (a3 aa),a,Vo,Vu,VE,Vp]):=eb (U5:=[.bF 0,.dv<|.im<|bK d]) rfl rfl rfl (xP aj b d) rfl;unfold dC;rw[c3 j];rfl
 unfold vr Jb;exact fG (w:=[Z (a3 aa),Z<|.aJ<|aW ee aw M<|hZ aa,Vo,Vu,Z .cQ,Vp]) rfl (bM (UR:=fW aa [] Y Y Y Y) rfl<|bM (jO (D av _ _ _ _ _) f rfl)<|bM (UR:=fW aa M Vo Vu (Z<|.aJ<|aW a6 gn []<|ac aa) Y) rfl<|bM (jO (D X _ _ _ _ _) c rfl) rfl) rfl
end
theorem An{o:ay Bool}{d:bO}(l:Nat->a4->Prop)(f:a4->Prop)(UG:ag->a4->Prop)(step:∀t w,l t w->(∃UR,o w=Z (av,UR)/\f UR)\/∃UR,o w=Z (X,UR)/\((∃Vi b,d UR=Z (.bz,Vi)/\b<t/\l b Vi)\/∃r Vi,d UR=Z (.a5 r,Vi)/\UG r Vi)):
  ∀(s t:Nat) (w:a4),l t w->t<s->(∃U4,fB o d s w=Z (.bz,U4)/\f U4)\/∃r U4,fB o d s w=Z (.a5 r,U4)/\UG r U4
 |0,t,w,_,e=>absurd e (lO _)
 |s+1,t,w,ef,h=>by
  rw[fB];dsimp only;rcases step t w ef with ⟨UR,c,u⟩|⟨UR,c,⟨Vi,b,g,lt,a⟩|⟨r,Vi,g,j⟩⟩
  ·rw[c];exact .inl ⟨UR,rfl,u⟩
  ·rw[c];show (∃U4,((d UR).bind _=_/\_))\/∃r U4,((d UR).bind _=_/\_);rw[g];exact An l f UG step s b Vi a ⋯
  ·rw[c];show (∃U4,((d UR).bind _=_/\_))\/∃r U4,((d UR).bind _=_/\_);rw[g];exact .inr ⟨r,Vi,rfl,j⟩
def cE{UK ak:Type}[DecidableEq UK](M:List UK)(N:UK->ak):UK->Option ak:=(λq=>if q∈M then Z (N q) else Y)
section
variable{UK ak:Type}[DecidableEq UK]{M:List UK}{N:UK->ak}{q:UK}{v:ak}
def il(e:q∈M):cE M N q=Z (N q):=aK e
def oW(e:q∉M):cE M N q=Y:=aL e
def nY(e:cE M N q=Z v):q∈M/\N q=v:=by
 by_cases c:q∈M
 ·rw[il c]at e;exact⟨c,Option.some.inj e⟩
 ·rw[oW c]at e;cases e
def TQ(e:cE M N q=Y):q∉M:=λc=>by rw[il c]at e;cases e
def oZ(M:List UK)(N:UK->ak)(q:UK)(v:ak):cE (ez M q) (fz N q v)=cI.put (cE M N) q v:=funext λf=>by
 by_cases c:f=q
 ·subst c;rw[il (kD.mpr<|.inl rfl),tL,cI.i6]
 ·rw[cI.iu _ _ c];by_cases e:f∈M
  ·rw[il e,il<|kD.mpr<|.inr e,uH _ _ c]
  ·rw[oW e,oW λk=>(kD.mp k).elim c e]
end
def kJ:cI.fJ (cE M N) j↔j∈M:=⟨λ⟨r,c⟩=>(nY c).1,λe=>⟨N j,il e⟩⟩
abbrev d3(aa:List a0)(M:List aU)(N:aU->aU)(Vo:Option ag)(U:List aU)(h:aU->aU)(W:List aU)(Vp a:Option ag):a4:=[Z (dV aa),Z<|.aJ<|aW a6 aw M N,Vo,Z<|.aJ<|aW a6 aw U h,Z<|bB W,Vp,a]
structure sV(aa:List a0)(M:List aU)(a5:aU->Option aU)(U:List aU)(h:aU->aU)(j:aU):Prop where
 ll:∃n,cI.lj (h2 aa) a5 (cE U h) n/\n j<U.length
 no:j∉M
 mx:j∈U
structure k1(aa:List a0)(M:List aU)(N:aU->aU)(a5:aU->Option aU)(l:aU->Prop)(U:List aU)(h:aU->aU):Prop where
 qh:cI.iD (h2 aa) (cE M N) a5 (b3 aa X) l (cE U h) U.length
 aj:U.Nodup
def k1.dI{a5:aU->Option aU}{l:aU->Prop}(UM:k1 aa M N a5 l U h):U.length<=M.length:=
 UM.aj.length_le_of_subset λj e=>kJ.mp (UM.qh.m7 j<|kJ.mpr e)
section
variable{aa:List a0}{M:List aU}{N:aU->aU}{a5:aU->Option aU}
def Qz(UT:cI.hu (h2 aa) (cE M N) a5 M)(z:M.length<=1000){W U:List aU}{h:aU->aU}{D j:aU}{Vo:Option ag}(UM:k1 aa M N a5 (λr=>r∈W\/r=D) U h)(w:D∈b3 aa X)(UQ:j∈ac aa D)(A:W.length<=2000):
  (∃g a c,ng (d3 aa M N Vo U h W (Z<|.im<|aw D)<|Z<|.im<|aw j)=Z (.bz,d3 aa M N Vo a c g (Z<|.im<|aw D)<|Z<|.im<|aw j)/\k1 aa M N a5 (λr=>r∈g\/r=D) a c/\j∈a/\(∀m∈U,m∈a)/\g.length+U.length=W.length+a.length/\((∀r∈W,r∈b3 aa X)->∀r∈g,r∈b3 aa X))\/
  ∃a c U4,ng (d3 aa M N Vo U h W (Z<|.im<|aw D)<|Z<|.im<|aw j)=Z (.a5<|.ej [.aJ (aW a6 aw a c),.im<|aw j],Z (dV aa)::Z (.aJ<|aW a6 aw M N)::Vo::U4)/\sV aa M a5 a c j/\a.length<=1001:=by
 have dI:=UM.dI;by_cases d:j∈U
 ·refine .inl ⟨W,U,h,gp (eG<|eo<|Ah (l:=aw) (N:=h) gr (g6 j) d) rfl,UM,d,λ_ e=>e,rfl,λe=>e⟩
 ·have s:b1 (aD g5 (au 6)<|au 3) (d3 aa M N Vo U h W (Z<|.im<|aw D)<|Z<|.im<|aw j)=Z (X,d3 aa M N Vo U h W (Z<|.im<|aw D)<|Z<|.im<|aw j):=eG (eo<|w2 (l:=aw) (N:=h) gr (g6 j) d);have y:=sZ (l:=aw) (M:=U) (N:=h) gr (g6 j) D ⋯;have t:eX (dS 5) (g9 3 (dS 6) gH) (d3 aa M N Vo U h W (Z<|.im<|aw D)<|Z<|.im<|aw j)=Z (.bz,d3 aa M N Vo (ez U j) (fz h j D) W (Z<|.im<|aw D)<|Z<|.im<|aw j):=i1 (r:=.im (aw D)) (UR:=d3 aa M N Vo U h W (Z<|.im<|aw D) (Z<|.im<|aw j)) rfl (r5 rfl rfl y rfl);have i:(ez U j).length=U.length+1:=by rw[(ny U j).2 d,dW,jj]
  have u:¬ cI.fJ (cE U h) j:=λk=>d (kJ.mp k);have v:h2 aa D j:=⟨w,UQ⟩;by_cases b:j∈M
  ·have q:b1 (aD g5 (au 6)<|au 1) (d3 aa M N Vo (ez U j) (fz h j D) W (Z<|.im<|aw D)<|Z<|.im<|aw j)=Z (av,d3 aa M N Vo (ez U j) (fz h j D) W (Z<|.im<|aw D)<|Z<|.im<|aw j):=eG (eo<|Ah (l:=aw) (N:=N) gr (g6 j) b);refine .inl ⟨W++[N j],ez U j,fz h j D,?_,⟨?_,o3 j UM.aj⟩,kD.mpr<|.inl rfl,λm e=>kD.mpr<|.inr e,by rw[i,dW,jj];lia,λe r hd=>?_⟩
   ·unfold ng;refine j4 s (bM t (bM (gp q rfl) (n5 (pD (o:=bB W) rfl rfl (b_ (bg<|eo<|yS (l:=aw) (N:=N) gr (g6 j) b) rfl) rfl rfl (zv (by rw[bl];lia)) ?_))));show _=[Z (dV aa),Z<|.aJ<|aW a6 aw M N,Vo,Z<|.aJ<|aW a6 aw (ez U j)<|fz h j D,Z<|.lst<|(W++[N j]).map aw,Z<|.im<|aw D,Z<|.im<|aw j];rw[gz];rfl
   ·rw[i,oZ];refine UM.qh.add UT (VD:=N j) (.inr rfl) v u (il b) λf=>?_;rw[ed,cN];exact⟨λk=>k.elim (λx=>x.elim (λp=>.inr<|.inl p) .inl) λp=>.inr<|.inr p,λk=>k.elim (λp=>.inl<|.inr p) λx=>x.elim (λp=>.inl<|.inl p) .inr⟩
   ·rcases ed.mp hd with k|k
    ·exact e r k
    ·rw[cN.mp k];exact (UT.hj j (N j)<|il b).1
  ·have q:b1 (aD g5 (au 6)<|au 1) (d3 aa M N Vo (ez U j) (fz h j D) W (Z<|.im<|aw D)<|Z<|.im<|aw j)=Z (X,d3 aa M N Vo (ez U j) (fz h j D) W (Z<|.im<|aw D)<|Z<|.im<|aw j):=eG (eo<|w2 (l:=aw) (N:=N) gr (g6 j) b);refine .inr ⟨ez U j,fz h j D,[Z .cQ,Z<|bB W,Z<|.im<|aw D,Z<|.im<|aw j],?_,⟨?_,b,kD.mpr<|.inl rfl⟩,⋯⟩
   ·unfold ng;exact j4 s (bM t<|mN<|j4 q<|fQ<|sd (b_ rfl<|b_ rfl rfl) rfl (fR rfl) rfl)
   ·let⟨n,UO,lt⟩:=UM.qh.tree (.inr rfl) v u;rw[<-oZ]at UO lt;exact⟨n,UO,by rw[i];exact lt j (kJ.mpr<|kD.mpr<|.inl rfl)⟩
theorem Eh(UT:cI.hu (h2 aa) (cE M N) a5 M)(n:M.length<=1000){D:aU}{Vo:Option ag}(o:D∈b3 aa X):∀(U8:List aU) {W U:List aU}{h:aU->aU} (b:Option ag),k1 aa M N a5 (λr=>r∈W\/r=D) U h->(∀j∈U8,j∈ac aa D)->W.length+M.length<=2000+U.length->
  (∃d a c u,en (bG 6) ng (U8.map aw) (d3 aa M N Vo U h W (Z<|.im<|aw D) b)=Z (.bz,d3 aa M N Vo a c d (Z<|.im<|aw D) u)/\k1 aa M N a5 (λr=>r∈d\/r=D) a c/\(∀j∈U8,j∈a)/\(∀m∈U,m∈a)/\d.length+U.length=W.length+a.length/\((∀r∈W,r∈b3 aa X)->∀r∈d,r∈b3 aa X))\/
  ∃a c j U4,en (bG 6) ng (U8.map aw) (d3 aa M N Vo U h W (Z<|.im<|aw D) b)=Z (.a5<|.ej [.aJ (aW a6 aw a c),.im<|aw j],Z (dV aa)::Z (.aJ<|aW a6 aw M N)::Vo::U4)/\sV aa M a5 a c j/\a.length<=1001
 |[],W,U,h,b,UM,_,_=>.inl ⟨W,U,h,b,rfl,UM,(λ_ e=>nomatch e),λ_ e=>e,rfl,λe=>e⟩
 |j::U8,W,U,h,b,UM,UQ,F=>by
  have dI:=UM.dI;rcases Qz UT n (Vo:=Vo) UM o (UQ j<|.head _) ⋯ with ⟨G,p,q,f,v,w,Vf,s,Vz⟩|⟨p,q,UR,f,x,s⟩
  ·rcases Eh UT n (Vo:=Vo) o U8 (Z<|.im<|aw j) v (λm ar=>UQ m<|.tail _ ar) ⋯ with ⟨y,g,i,z,l,A,B,Vt,t,Vy⟩|⟨g,i,C,Vi,l,E,t⟩
   ·refine .inl ⟨y,g,i,z,?_,A,λm ar=>?_,λm ar=>Vt m<|Vf m ar,⋯,λe=>Vy<|Vz e⟩
    ·rw[cw];exact qu (UR:=d3 aa M N Vo U h W (Z<|.im<|aw D) (Z<|.im<|aw j)) rfl f l
    ·rcases b9.mp ar with k|k
     ·rw[k];exact Vt j w
     ·exact B m k
   ·refine .inr ⟨g,i,C,Vi,?_,E,t⟩;rw[cw];exact qu (UR:=d3 aa M N Vo U h W (Z<|.im<|aw D) (Z<|.im<|aw j)) rfl f l
  ·refine .inr ⟨p,q,j,UR,?_,x,s⟩;rw[cw,en];show (ng<|d3 aa M N Vo U h W (Z<|.im<|aw D)<|Z<|.im<|aw j).bind _=_;rw[f];rfl
def kf:Option aU->V
 |none=>.aS
 |some j=>aw j
def QH(UT:cI.hu (h2 aa) (cE M N) a5 M)(F:M.length<=1000){UM:List aU}(v:∀r,r∈UM↔r∈b3 aa X/\a5 r=Y)(x:UM.length<=1000):
  ∃U h n,oi [dV aa,.aJ<|aW a6 aw M N,bB UM]=Z (.ej [.aJ (aW a6 aw U h),.im<|kf n],[dV aa,.aJ<|aW a6 aw M N,bB UM])/\U.length<=1001/\(n=Y->cI.oV (h2 aa) (cE M N) a5 (λj=>j∈U))/\∀j,n=Z j->sV aa M a5 U h j:=by
 have G:k1 aa M N a5 (λr=>r∈UM) [] id:=by
  refine⟨?_,g4⟩;have c:(λr:aU=>r∈UM)=λr=>r∈b3 aa X/\a5 r=Y:=funext λr=>propext (v r);rw[c];exact cI.iD.init
 have g:=An (o:=vQ) (d:=r8) (λt w=>∃W U h Vp b,w=d3 aa M N (Z<|bB UM) U h W Vp b/\k1 aa M N a5 (λr=>r∈W) U h/\(∀r∈W,r∈b3 aa X)/\W.length+M.length<=2000+U.length/\2*(M.length-U.length)+W.length<=t)
  (λw=>∃U h Vp b,w=d3 aa M N (Z<|bB UM) U h [] Vp b/\k1 aa M N a5 (λr=>r∈[]) U h) (λr w=>∃U h j U4,r=.ej [.aJ (aW a6 aw U h),.im<|aw j]/\w=Z (dV aa)::Z (.aJ<|aW a6 aw M N)::Z (bB UM)::U4/\sV aa M a5 U h j/\U.length<=1001)
  (λt w ef=>by
   let⟨W,U,h,Vp,b,rfl,A,p,y,z⟩:=ef;rcases List.eq_nil_or_concat W with rfl|⟨a,D,rfl⟩
   ·exact .inl ⟨_,rfl,U,h,Vp,b,rfl,A⟩
   ·rw[List.concat_eq_append]at p y z A ⊢;rw[dW,jj]at y z;have B:=p D (dT _<|.head _);have H:k1 aa M N a5 (λr=>r∈a\/r=D) U h:=by
     refine⟨?_,A.aj⟩;have c:(λr:aU=>r∈a\/r=D)=λr=>r∈a++[D]:=funext λr=>propext (by rw[ed,cN]);rw[c];exact A.qh
    have I:vQ (d3 aa M N (Z<|bB UM) U h (a++[D]) Vp b)=Z (X,d3 aa M N (Z<|bB UM) U h (a++[D]) Vp b):=oJ rfl rfl (by
     show Z (!((a++[D]).map aw).isEmpty)=Z X;rw[gz];cases a<;>rfl)
    refine .inr ⟨_,I,?_⟩;have pop:cD 5 (iy lE 4 ua aG) (d3 aa M N (Z<|bB UM) U h (a++[D]) Vp b)=Z (.bz,d3 aa M N (Z<|bB UM) U h a (Z<|.im<|aw D) b):=by
     refine m4 (r:=.im (aw D)) (UR:=d3 aa M N (Z<|bB UM) U h a Vp b) (pD (o:=bB (a++[D])) (c:=bB a) rfl rfl rfl rfl rfl ?_ rfl) (f5 rfl) rfl;show (((a++[D]).map aw).getLast?).map (λr=>(ag.im r,ag.lst ((a++[D]).map aw).dropLast))=_;rw[gz,List.map_singleton,tj,List.dropLast_concat];rfl
    have af:dC (ae<|ry<|aD bH (au 0)<|au 5) (d3 aa M N (Z<|bB UM) U h a (Z<|.im<|aw D) b)=Z (((ac aa D).map aw,Y),d3 aa M N (Z<|bB UM) U h a (Z<|.im<|aw D) b):=by
     have J:aD bH (au 0) (au 5) (d3 aa M N (Z<|bB UM) U h a (Z<|.im<|aw D) b)=Z (.im<|gn<|ac aa D,d3 aa M N (Z<|bB UM) U h a (Z<|.im<|aw D) b):=eo (Lq (l:=gn) (N:=ac aa) gr (g6 D) B);unfold dC;rw[c3 (Nm J)];rfl
    have dI:=A.dI;rcases Eh UT F (Vo:=Z (bB UM)) B (ac aa D) b H (λ_ e=>e) ⋯ with ⟨q,i,m,C,s,u,L,Vt,E,Vy⟩|⟨i,m,O,Vi,s,P,E⟩
    ·have R:=u.dI;have S:=A.aj.length_le_of_subset Vt;refine .inl ⟨d3 aa M N (Z<|bB UM) i m q (Z<|.im<|aw D) C,2*(M.length-i.length)+q.length,?_,⋯,q,i,m,Z<|.im<|aw D,C,rfl,⟨u.qh.Li (λr hd=>?_) λr hd=>.inl hd,u.aj⟩,Vy λr hd=>p r<|fl _ hd,⋯,bb _⟩
     ·unfold r8;exact bM pop (jO af s rfl)
     ·rcases hd with k|k
      ·exact .inl k
      ·exact .inr λj UQ=>kJ.mpr (L j (by rw[<-k];exact UQ.2))
    ·refine .inr ⟨_,_,?_,i,m,O,Vi,rfl,rfl,P,E⟩;unfold r8;exact bM pop (jO af s rfl)) 1000000 (2*(M.length-0)+UM.length) (d3 aa M N (Z<|bB UM) [] id UM Y Y) ⟨UM,[],id,Y,Y,rfl,G,λr hd=>((v r).mp hd).1,by rw[iW];lia,bb _⟩ ⋯
 have pre:∀{f:ag}{U4:a4},fB vQ r8 1000000 (d3 aa M N (Z<|bB UM) [] id UM Y Y)=Z (.a5 f,Z (dV aa)::Z (.aJ<|aW a6 aw M N)::Z (bB UM)::U4)->oi [dV aa,.aJ<|aW a6 aw M N,bB UM]=Z (f,[dV aa,.aJ<|aW a6 aw M N,bB UM]):=λ{f U4} e=>by
  unfold oi yb;exact fG (w:=Z (dV aa)::Z (.aJ<|aW a6 aw M N)::Z (bB UM)::U4) rfl (bM (UR:=[Z (dV aa),Z<|.aJ<|aW a6 aw M N,Z<|bB UM,Z<|.aJ<|aW a6 aw [] id,Y,Y,Y]) rfl<|bM (UR:=d3 aa M N (Z<|bB UM) [] id UM Y Y) rfl<|mN e) rfl
 rcases g with ⟨U4,g,U,h,Vp,b,rfl,A⟩|⟨r,U4,g,U,h,j,Vi,rfl,rfl,UO,x⟩
 ·refine⟨U,h,Y,?_,by have:=A.dI;lia,λ_=>?_,(λj e=>by cases e)⟩
  ·unfold oi yb;exact fG (w:=[Z (dV aa),Z<|.aJ<|aW a6 aw M N,Z<|bB UM,Z .cQ,Z<|bB [],Vp,b]) rfl (bM (UR:=[Z (dV aa),Z<|.aJ<|aW a6 aw M N,Z<|bB UM,Z<|.aJ<|aW a6 aw [] id,Y,Y,Y]) rfl<|bM (UR:=d3 aa M N (Z<|bB UM) [] id UM Y Y) rfl<|bM g<|fQ<|sd (ff rfl<|b_ (bg rfl) rfl) rfl (fR rfl) rfl) rfl
  ·have:=A.qh.done UT (λr e=>nomatch e) λr j e=>e.1;have c:(λj:aU=>j∈U)=cI.fJ (cE U h):=funext λj=>propext kJ.symm;rw[c];exact this
 ·exact⟨U,h,Z j,pre g,x,(λe=>by cases e),λVA e=>by cases e;exact UO⟩
end
def Cj{o:ay Bool}{d:bO}{Vi:a4}{j:Option (L2.gA×a4)}(c:o w=Z (X,UR))(a:d UR=Z (.bz,Vi))(q:fB o d s Vi=j):fB o d (s+1) w=j:=by
 rw[fB];show (o w).bind _=_;rw[c];show (d UR).bind _=_;rw[a];exact q
def L1{o:ay Bool}{d:bO}(c:o w=Z (av,UR)):fB o d (s+1) w=Z (.bz,UR):=by
 rw[fB];show (o w).bind _=_;rw[c];rfl
abbrev hl(M:List aU)(N:aU->aU)(T:List aU)(F:aU->aU)(U:List aU)(h:aU->aU)(c:V)(j:Option aU)(Vp a:Option ag):a4:=[Z (.aJ<|aW a6 aw M N),Z<|.aJ<|aW a6 aw T F,Z<|.aJ<|aW a6 aw U h,Z<|.im c,Z<|.im<|kf j,Vp,a]
def zU(M:List aU)(N:aU->aU)(T:List aU)(F:aU->aU)(U:List aU)(h:aU->aU)(c:V)(j:Option aU)(Vp a:Option ag):yc (hl M N T F U h c j Vp a)=Z (j.isSome,hl M N T F U h c j Vp a):=by cases j<;>rfl
def Kv{c:V}{Vp a:Option ag}(UQ:j∈U)(y:M.length<100000)(B:T.length<100000):
  vE (hl M N T F U h c (Z j) Vp a)=Z (.bz,hl (ez M j) (fz N j<|h j) (ez T<|h j) (fz F (h j) j) U h c (cE T F<|h j) (Z<|.im<|aw<|h j)<|Z<|.im<|kf<|cE T F<|h j):=by
 have x:vd 1 (dS 5) (hl M N T F U h c (Z j) (Z<|.im<|aw<|h j) a)=Z (.im<|kf<|cE T F<|h j,hl M N T F U h c (Z j) (Z<|.im<|aw<|h j) a):=by
  show (if V.keys 7 (a6<|h j)=X then Z (ag.im<|(d9 (aW a6 aw T F)<|a6<|h j).getD .aS,hl M N T F U h c (Z j) (Z<|.im<|aw<|h j) a) else Y)=_;rw[aK (g6 _)];by_cases e:h j∈T
  ·rw[zY gr e,il e];rfl
  ·rw[Pp gr e,oW e];rfl
 unfold vE;refine bM (UR:=hl M N T F U h c (Z j) (Z<|.im<|aw<|h j) a) (i9 (eo<|yS (l:=aw) (N:=h) gr (g6 j) UQ) (f5 rfl) rfl) ?_;refine bM (UR:=hl M N T F U h c (Z j) (Z<|.im<|aw<|h j) (Z<|.im<|kf<|cE T F<|h j)) (i9 x (f5 rfl) rfl) ?_;refine bM (UR:=hl (ez M j) (fz N j<|h j) T F U h c (Z j) (Z<|.im<|aw<|h j) (Z<|.im<|kf<|cE T F<|h j)) (i1 (r:=.im (aw<|h j)) (UR:=hl M N T F U h c (Z j) (Z<|.im<|aw<|h j) (Z<|.im<|kf<|cE T F<|h j)) rfl<|r5 rfl rfl (sZ (l:=aw) gr (g6 j) (h j) y) rfl) ?_;refine bM (UR:=hl (ez M j) (fz N j<|h j) (ez T<|h j) (fz F (h j) j) U h c (Z j) (Z<|.im<|aw<|h j) (Z<|.im<|kf<|cE T F<|h j)) (i1 (r:=.im (aw j)) (UR:=hl (ez M j) (fz N j<|h j) T F U h c (Z j) (Z<|.im<|aw<|h j) (Z<|.im<|kf<|cE T F<|h j)) rfl<|r5 rfl rfl (sZ (l:=aw) gr (g6<|h j) j B) rfl) rfl
section
variable{aa:List a0}
theorem Cq{v:aU->Option aU}{U:List aU}{h:aU->aU}{n:aU->Nat}{c:V}(UO:cI.lj (h2 aa) v (cE U h) n):∀(s Vb:Nat) {M:List aU}{N:aU->aU}{T:List aU}{F:aU->aU}{j:aU} (Vp b:Option ag),n j<s->s<Vb->cI.h4 (h2 aa) v (cE U h) n (cE M N) (cE T F) j->M.Nodup->T.Nodup->M.length+s<=90000->T.length+s<=90000->
  ∃d V_ f VZ g i,fB yc vE Vb (hl M N T F U h c (Z j) Vp b)=Z (.bz,hl d V_ f VZ U h c Y g i)/\cE d V_=(cI.along (cE U h) s (cE M N,cE T F) j).1/\cE f VZ=(cI.along (cE U h) s (cE M N,cE T F) j).2/\d.Nodup/\f.Nodup
 |0,_,_,_,_,_,_,_,_,e,_,_,_,_,_,_=>absurd e (lO _)
 |s+1,0,_,_,_,_,_,_,_,_,e,_,_,_,_,_=>absurd e (lO _)
 |s+1,Vb+1,M,N,T,F,j,Vp,b,x,z,O,k,We,y,B=>by
  let⟨r,hd⟩:=O.mx;let⟨UQ,hj⟩:=nY hd;subst hj;have L:=Kv (h:=h) (N:=N) (F:=F) (c:=c) (Vp:=Vp) (a:=b) UQ (show M.length<100000 by lia) (show T.length<100000 by lia);have A:=Ad M j;have VL:=Ad T (h j);cases p:cE T F (h j) with
  |none=>
   rw[p]at L;have a:cI.along (cE U h) (s+1) (cE M N,cE T F) j=(cI.put (cE M N) j<|h j,cI.put (cE T F) (h j) j):=by simp only[cI.along,hd,p]
   obtain⟨ay,rfl⟩:∃ay,Vb=ay+1:=⟨Vb-1,⋯⟩;refine⟨_,_,_,_,_,_,Cj (zU ..) L<|L1<|zU ..,?_,?_,o3 j k,o3 (h j) We⟩
   ·rw[a,oZ]
   ·rw[a,oZ]
  |some u=>
   rw[p]at L;have a:cI.along (cE U h) (s+1) (cE M N,cE T F) j=cI.along (cE U h) s (cI.put (cE M N) j<|h j,cI.put (cE T F) (h j) j) u:=by simp only[cI.along,hd,p]
   let⟨l,lt,W⟩:=O.next UO hd p;rw[<-oZ,<-oZ]at l a;let⟨m,V_,o,VZ,g,i,D,q,t,w,VT⟩:=Cq UO s Vb (Z<|.im<|aw<|h j) (Z<|.im<|kf<|Z u) ⋯ ⋯ l (o3 j k) (o3 (h j) We) ⋯ ⋯;refine⟨m,V_,o,VZ,g,i,Cj (zU ..) L D,?_,?_,w,VT⟩
   ·rw[a];exact q
   ·rw[a];exact t
structure nG(aa:List a0)(M:List aU)(N:aU->aU)(T:List aU)(F:aU->aU):Prop where
 iC:cI.hu (h2 aa) (cE M N) (cE T F) M
 nl:T.Nodup
def nG.dI(UT:nG aa M N T F):M.length<=aa.length/\T.length<=aa.length:=by
 refine⟨df (UT.iC.dI λr j e=>e.1) nO,df (UT.nl.length_le_of_subset λr hd=>?_)<|nO (d:=X)⟩;exact (UT.iC.hj (F r) r<|(UT.iC.inv (F r) r).mpr<|il hd).1
def N_(v:aa.length<=1000)(UT:nG aa M N T F)(UO:sV aa M (cE T F) U h j)(x:U.length<=1001):
  ∃a V_ e VZ,tK [.aJ (aW a6 aw M N),.aJ<|aW a6 aw T F,.aJ<|aW a6 aw U h,.im<|aw j]=Z (.im .aS,[.aJ (aW a6 aw a V_),.aJ<|aW a6 aw e VZ,.aJ<|aW a6 aw U h,.im<|aw j])/\nG aa a V_ e VZ/\M.length<a.length:=by
 let⟨n,ll,lt⟩:=UO.ll;have dI:=UT.dI;have L:=cI.h4.start (t:=cE U h) (n:=n) UT.iC (oW UO.no) ⟨_,il UO.mx⟩;let⟨b,V_,g,VZ,m,o,D,p,q,s,VT⟩:=Cq (c:=aw j) ll U.length 1000000 Y Y lt ⋯ L UT.iC.aj UT.nl ⋯ ⋯;let⟨d,i,l⟩:=cI.h4.go ll U.length lt L λf r c=>⟨r,(UT.iC.inv f r).mpr c⟩;rw[<-p]at d i l;rw[<-q]at d;refine⟨b,V_,g,VZ,?_,⟨⟨d,i,s,λf=>kJ.symm⟩,VT⟩,?_⟩
 ·unfold tK By;exact S4 (w:=hl b V_ g VZ U h (aw j) Y m o) rfl (bM (UR:=hl M N T F U h (aw j) (Z j) Y Y) rfl D) rfl
 ·have:=uf (l₁:=j::M) (l₂:=b) (gC.mpr ⟨UO.no,UT.iC.aj⟩) λf u=>by
   refine kJ.mp ((l f).mpr ?_);rcases b9.mp u with k|k
   ·exact .inl k
   ·exact .inr (kJ.mpr k)
  rw[dz]at this;exact this
def Sy(g:aa.length<=1000):∃M N T F U h,vi [dV aa]=Z (.ej [.aJ (aW a6 aw M N),.aJ<|aW a6 aw U h],[dV aa])/\nG aa M N T F/\cI.oV (h2 aa) (cE M N) (cE T F) (λj=>j∈U):=by
 have a:=An (o:=CK) (d:=AA) (λt w=>∃M N T F Vu,w=[Z (dV aa),Z<|.aJ<|aW a6 aw M N,Z<|.aJ<|aW a6 aw T F,Vu]/\nG aa M N T F/\aa.length-M.length<=t) (λ_=>False)
  (λr w=>∃M N T F U h U4,r=.ej [.aJ (aW a6 aw M N),.aJ<|aW a6 aw U h]/\w=Z (dV aa)::U4/\nG aa M N T F/\cI.oV (h2 aa) (cE M N) (cE T F) (λj=>j∈U))
  (λt w ef=>by
   let⟨M,N,T,F,Vu,rfl,UT,z⟩:=ef;refine .inr ⟨_,rfl,?_⟩;have dI:=UT.dI;have c4:dh 1 [2] (sm<|au 0) (bG 0) G.Ab G.z4 [Z (dV aa),Z<|.aJ<|aW a6 aw M N,Z<|.aJ<|aW a6 aw T F,Vu]=Z (bB<|(b3 aa X).filter λr=>!decide (r∈T),[Z (dV aa),Z<|.aJ<|aW a6 aw M N,Z<|.aJ<|aW a6 aw T F,Vu]):=by
    have af:sm (au 0) [Z (dV aa),Z<|.aJ<|aW a6 aw M N,Z<|.aJ<|aW a6 aw T F,Vu]=Z (((b3 aa X).map aw,Y),[Z (dV aa),Z<|.aJ<|aW a6 aw M N,Z<|.aJ<|aW a6 aw T F,Vu]):=by
     show Z (((aW a6 gn (b3 aa X)<|ac aa).map λs=>V.tup s.1,Y),_)=_;unfold aW;rw[e7];rfl
    refine hv (E:=(b3 aa X).map aw) (n:=Y) (UR:=[Z (dV aa),Z<|.aJ<|aW a6 aw M N,Z<|.aJ<|aW a6 aw T F,Vu]) af (pG aw (λr=>!decide (r∈T)) aw _ [] (λr W=>?_) (by have:=nO (aa:=aa) (d:=X);rw[iW];lia)) rfl;refine⟨[Z (.im<|aw r),Z<|.aJ<|aW a6 aw T F],[Z (.im<|aw r),Z<|.aJ<|aW a6 aw T F],rfl,eG<|eo ?_,λ_=>rfl,λ_=>⟨[Z (.im<|aw r),Z<|.aJ<|aW a6 aw T F],rfl,rfl⟩⟩;by_cases e:r∈T
    ·rw[dQ e];exact Ah (l:=aw) gr (g6 r) e
    ·rw[el e];exact w2 (l:=aw) gr (g6 r) e
   have i:∀r,r∈(b3 aa X).filter (λr=>!decide (r∈T))↔r∈b3 aa X/\cE T F r=Y:=λr=>by
    rw[qj,nL,q7];exact⟨λe=>⟨e.1,oW e.2⟩,λe=>⟨e.1,TQ e.2⟩⟩
   have k:((b3 aa X).filter λr=>!decide (r∈T)).length<=1000:=df (Iw _ _) (df nO g);generalize (b3 aa X).filter (λr=>!decide (r∈T))=UM at c4 i k;let⟨U,h,n,u,v,b,y⟩:=QH UT.iC ⋯ i k;have m:cD 3 (bL 3 G.oi<|aq (au 0)<|aq (au 1)<|aq (ae<|dh 1 [2] (sm<|au 0) (bG 0) G.Ab G.z4) aG) [Z (dV aa),Z<|.aJ<|aW a6 aw M N,Z<|.aJ<|aW a6 aw T F,Vu]=Z (.bz,[Z (dV aa),Z<|.aJ<|aW a6 aw M N,Z<|.aJ<|aW a6 aw T F,Z<|.ej [.aJ (aW a6 aw U h),.im<|kf n]]):=
    i9 (eb (U5:=[.bF 0,.bF 1,.dv<|bB UM]) (b_ rfl<|b_ rfl<|b_ (bg c4) rfl) rfl rfl u rfl) (f5 rfl) rfl;unfold AA;cases n with
   |none=>exact .inr ⟨_,[Z (dV aa),Z .cQ,Z<|.aJ<|aW a6 aw T F,Z<|.ej [.cQ,.im .aS]],bM m<|mN<|j4 (UR:=[Z (dV aa),Z<|.aJ<|aW a6 aw M N,Z<|.aJ<|aW a6 aw T F,Z<|.ej [.aJ (aW a6 aw U h),.im .aS]]) rfl<|fQ<|sd (ff rfl<|ff (c3 rfl) rfl) rfl (fR rfl) rfl,M,N,T,F,U,h,_,rfl,rfl,UT,b rfl⟩
   |some j=>
    let⟨f,V_,p,VZ,x,q,lt⟩:=N_ g UT (y j rfl) v;have A:=q.dI;refine .inl ⟨[Z (dV aa),Z<|.aJ<|aW a6 aw f V_,Z<|.aJ<|aW a6 aw p VZ,Z<|.ej [.cQ,.im<|aw j]],aa.length-f.length,bM m<|bM (gp (UR:=[Z (dV aa),Z<|.aJ<|aW a6 aw M N,Z<|.aJ<|aW a6 aw T F,Z<|.ej [.aJ (aW a6 aw U h),.im<|aw j]]) rfl rfl)<|n5<|eb (U5:=[.bF 1,.bF 2,.dv<|.aJ<|aW a6 aw U h,.dv<|.im<|aw j]) (ff rfl<|ff rfl<|ff (c3 rfl)<|ff (c3 rfl) rfl) rfl rfl x rfl,⋯,f,V_,p,VZ,_,rfl,q,bb _⟩) 1000000 aa.length [Z (dV aa),Z<|.aJ<|aW a6 aw [] id,Z<|.aJ<|aW a6 aw [] id,Y] ⟨[],id,[],id,Y,rfl,⟨⟨λj r=>⟨λc=>absurd (nY c).1 iZ,λc=>absurd (nY c).1 iZ⟩,λj r c=>absurd (nY c).1 iZ,g4,λj=>kJ.symm⟩,g4⟩,bb _⟩ ⋯
 rcases a with ⟨U4,_,e⟩|⟨r,U4,a,M,N,T,F,U,h,Vi,rfl,rfl,UT,b⟩
 ·exact e.elim
 ·refine⟨M,N,T,F,U,h,?_,UT,b⟩;unfold vi CT;exact fG (w:=Z (dV aa)::Vi) rfl (bM (UR:=[Z (dV aa),Z<|.aJ<|aW a6 aw [] id,Y,Y]) rfl<|bM (UR:=[Z (dV aa),Z<|.aJ<|aW a6 aw [] id,Z<|.aJ<|aW a6 aw [] id,Y]) rfl a) rfl
end
def GG{VR:Type}{e:U_->VR}{I t:List VR}(u:I.Perm t):∀M:List U_,t=M.map e->∃a:List U_,a.Perm M/\I=a.map e:=by
 induction u with
 |nil=>intro M c;exact⟨M,.refl _,c⟩
 |cons f _ g=>
  intro M c;cases M with
  |nil=>cases c
  |cons q M=>
   rw[cw]at c;let⟨b,d⟩:=List.cons.inj c;let⟨a,y,B⟩:=g M d;exact⟨q::a,y.cons q,by rw[cw,<-B,b]⟩
 |swap f x I=>
  intro M c;cases M with
  |nil=>cases c
  |cons q M=>
   cases M with
   |nil=>cases c
   |cons Vt M=>
    rw[cw,cw]at c;let⟨b,d⟩:=List.cons.inj c;let⟨h,i⟩:=List.cons.inj d;exact⟨Vt::q::M,.swap ..,by rw[cw,cw,b,h,i]⟩
 |trans _ _ j k=>
  intro M c;let⟨a,y,B⟩:=k M c;let⟨l,m,n⟩:=j a B;exact⟨l,m.trans y,n⟩
theorem q8(a:U_->List V):∀I:List U_,iK [.lst (I.map λf=>.tup<|a f)]=km (I.map λf=>.tup<|a f)
 |[]=>rfl
 |_::_=>rfl
def zJ(J v:aU):eC 6 (aw J) (aw v)=X:=by
 let⟨d,o,s⟩:=J;let⟨a,b,c⟩:=v;cases d<;>cases a<;>rfl
def nQ(V7:List aU):Prop:=(V7.Pairwise λg d=>bp (aw g) (aw d)=X)
def C2(aj:V7.Nodup)(b:V7.length<=1000):ie (V7.map aw):=by
 refine⟨⟨by rw[bl];exact b,λf a x e=>?_,kn (λf W x W c=>Qk c) aj⟩,.inl λf a=>?_⟩
 ·let⟨J,W,rfl⟩:=da.mp a;let⟨v,W,rfl⟩:=da.mp e;exact zJ J v
 ·let⟨⟨d,o,s⟩,g,rfl⟩:=da.mp a;cases d<;>rfl
def xw(aj:V7.Nodup)(a:V7.length<=1000):∃UO:List aU,km (V7.map aw)=Z (bB UO)/\UO.Perm V7/\nQ UO:=by
 have n:=C2 aj a;let⟨UO,y,B⟩:=GG (jy<|V7.map aw) V7 rfl;refine⟨UO,?_,y,?_⟩
 ·unfold km;rw[aK (n3.mpr n),B]
 ·have:=q5 n.ord.aj n.ord.hL;rw[B]at this;exact nU.mp this
structure zk(aa:List a0)(UM:List aU)(b:List a0):Prop where
 wg:nQ UM
 T1:qZ b
 len:UM.length=b.length
 j1:∀j∈UM,j∈b3 aa X\/j∈b3 aa av
 hold:∀o∈aa,∃j∈UM,o∈cls j
 ap:cI.zo (gA aa) b
 dI:UM.length<=aa.length
def KX{P:a0->Prop}{b:List a0}(O:cI.zo P b):b.Nodup:=O.2.imp_of_mem λ{f x} a _ e c=>e X (c ▸ cI.In.refl (O.1 f a) X)
def HP(aj:aa.Nodup)(a:aa.length<=1000):∃UM b,oa [a3 aa]=Z (.im<|.tup [.tup (UM.map aw),.tup<|b.map aH],[a3 aa])/\zk aa UM b:=by
 let⟨M,N,T,F,U,h,R,UT,S⟩:=Sy a;have dI:=UT.dI.1;have A:=Mx a;have J:∀j∈M,h2 aa (N j) j:=λj UQ=>UT.iC.hj j (N j) (il UQ);have g:∀j∈M,j∈b3 aa av/\N j∈b3 aa X:=λj UQ=>⟨((sU a).mp<|J j UQ).2.1,(J j UQ).1⟩;have hold:=UT.iC.hold (F:=λj=>if j∈U then (av,j.2.1) else (X,(N j).2.1)) S A λj UQ r c=>by
  let⟨K,rfl⟩:=nY c;rfl
 have z:=UT.iC.apart (F:=λj=>(j.2.1.1,(N j).2.1.2)) A λj UQ r c=>by
  let⟨K,rfl⟩:=nY c;rfl
 have al:(M.map λj=>if j∈U then j else N j).Nodup:=by
  refine kn (λf B x C c=>?_) UT.iC.aj;have i:=(kA a (g f B).1).1;have q:=(kA a (g f B).2).1;have L:=(kA a (g x C).1).1;have am:=(kA a (g x C).2).1;by_cases t:f∈U
  ·by_cases s:x∈U
   ·rwa [aK t,aK s]at c
   ·rw[aK t,aL s]at c;rw[c,am]at i;cases i
  ·by_cases s:x∈U
   ·rw[aL t,aK s]at c;rw[<-c,q]at L;cases L
   ·rw[aL t,aL s]at c;have P:=(UT.iC.inv f<|N f).mp (il B);have VL:=(UT.iC.inv x<|N x).mp (il C);rw[c,VL]at P;exact (Option.some.inj P).symm
 let⟨UM,v,y,an⟩:=xw al (by rw[bl];lia);let⟨b,i,q,ap⟩:=D6 (KX z) (by rw[bl];lia);have W:zk aa UM b:=by
  refine⟨an,ap,by rw[y.length_eq,q.length_eq,bl,bl],λj UQ=>?_,λo D=>?_,⟨λo D=>z.1 o<|q.mem_iff.mp D,?_⟩,by rw[y.length_eq,bl];exact dI⟩
  ·let⟨p,m,rfl⟩:=da.mp (y.mem_iff.mp UQ);by_cases e:p∈U
   ·rw[aK e];exact .inr (g p m).1
   ·rw[aL e];exact .inl (g p m).2
  ·let⟨u,as,e⟩:=hold o D;let⟨p,m,rfl⟩:=da.mp as;refine⟨if p∈U then p else N p,y.mem_iff.mpr<|da.mpr ⟨p,m,rfl⟩,?_⟩;by_cases k:p∈U
   ·rw[aK k]at e ⊢;exact (jH a (g p m).1).mpr e
   ·rw[aL k]at e ⊢;exact (jH a (g p m).2).mpr e
  ·exact q.symm.pairwise z.2 λ{f x} e d k=>e d k.symm
 refine⟨UM,b,?_,W⟩;have af:∀(E Vu VE Vp:Option ag),qx (au 2) [Z (a3 aa),E,Z<|.e_<|aW a6 aw M N,Vu,VE,Vp]=Z ((M.map λj=>.tup [aw j,aw<|N j],Y),[Z (a3 aa),E,Z<|.e_<|aW a6 aw M N,Vu,VE,Vp]):=λE Vu VE Vp=>by
  show Z (((aW a6 aw M N).map λQ=>V.tup [.tup Q.1,Q.2],Y),_)=_;unfold aW;rw[e7];rfl
 have H:dh 2 [3] (qx<|au 2) (g0 2<|d2 (bG 0)<|d2 (bG 1) hh) et G.Al [Z (a3 aa),Z<|.ej [.cQ,.cQ],Z<|.e_<|aW a6 aw M N,Z<|.aJ<|aW a6 aw U h,Y,Y]=Z (.lst<|M.map λj=>aw<|if j∈U then j else N j,[Z (a3 aa),Z<|.ej [.cQ,.cQ],Z<|.e_<|aW a6 aw M N,Z<|.aJ<|aW a6 aw U h,Y,Y]):=by
  refine hv (n:=Y) (UR:=[Z (a3 aa),Z<|.ej [.cQ,.cQ],Z<|.e_<|aW a6 aw M N,Z<|.aJ<|aW a6 aw U h,Y,Y]) (af ..) (jo (λj=>.tup [aw j,aw<|N j]) (λj=>aw<|if j∈U then j else N j) _ (λj UQ=>?_) ⋯) rfl;refine⟨[Z (.im<|aw j),Z<|.im<|aw<|N j,Z<|.aJ<|aW a6 aw U h],_,[Z (.im<|aw j),Z<|.im<|aw<|N j,Z<|.aJ<|aW a6 aw U h],rfl,rfl,?_,rfl⟩;unfold Al;by_cases e:j∈U
  ·rw[aK e];exact Mc (eG<|eo<|JL (l:=aw) gr (g6 j) e) rfl
  ·rw[aL e];exact R9 (eG<|eo<|J2 (l:=aw) gr (g6 j) e) rfl
 have a1:(M.map λj=>aw<|if j∈U then j else N j)=(M.map λj=>if j∈U then j else N j).map aw:=by rw[e7];rfl
 rw[a1]at H;generalize (M.map λj=>if j∈U then j else N j)=O at H v;have I:dh 2 [] (qx<|au 2) (g0 2<|d2 (bG 0)<|d2 (bG 1) hh) et G.Bi [Z (a3 aa),Z<|.ej [.cQ,.cQ],Z<|.e_<|aW a6 aw M N,Z<|.aJ<|aW a6 aw U h,Z<|bB O,Y]=Z (.lst<|M.map λj=>aH (j.2.1.1,(N j).2.1.2),[Z (a3 aa),Z<|.ej [.cQ,.cQ],Z<|.e_<|aW a6 aw M N,Z<|.aJ<|aW a6 aw U h,Z<|bB O,Y]):=by
  refine hv (n:=Y) (UR:=[Z (a3 aa),Z<|.ej [.cQ,.cQ],Z<|.e_<|aW a6 aw M N,Z<|.aJ<|aW a6 aw U h,Z<|bB O,Y]) (af ..) (jo (λj=>.tup [aw j,aw<|N j]) (λj=>aH (j.2.1.1,(N j).2.1.2)) _ (λj UQ=>?_) ⋯) rfl;exact⟨[Z (.im<|aw j),Z<|.im<|aw<|N j],_,[Z (.im<|aw j),Z<|.im<|aw<|N j],rfl,rfl,qD (b_ (bg<|cg (bg<|cg rfl rfl rfl rfl rfl) rfl rfl rfl rfl)<|b_ (bg<|cg (bg<|cg rfl rfl rfl rfl rfl) rfl rfl rfl rfl) rfl) rfl (fR rfl) rfl,rfl⟩
 have a2:(M.map λj=>aH (j.2.1.1,(N j).2.1.2))=(M.map λj=>((j.2.1.1,(N j).2.1.2):a0)).map aH:=by rw[e7];rfl
 rw[a2]at I;generalize (M.map λj=>((j.2.1.1,(N j).2.1.2):a0))=Vx at I i;replace v:iK [bB O]=Z (bB UM):=(q8 a6 O).trans v;replace i:iK [cn Vx]=Z (cn b):=(q8 ee Vx).trans i;unfold oa I7;refine fG (w:=[Z (a3 aa),Z<|.ej [.cQ,.cQ],Z<|.e_<|aW a6 aw M N,Z<|.aJ<|aW a6 aw U h,Z<|bB O,Z<|cn Vx]) rfl ?_ rfl;refine bM (UR:=[Z (a3 aa),Z<|.ej [.aJ (aW a6 aw M N),.aJ<|aW a6 aw U h],Y,Y,Y,Y]) (i9 (eb (U5:=[.dv (dV aa)]) (b_ (bg<|eb (U5:=[.bF 0]) rfl rfl rfl (SV aj a) rfl) rfl) rfl rfl R rfl) (f5 rfl) rfl) ?_;refine bM (UR:=[Z (a3 aa),Z<|.ej [.cQ,.aJ<|aW a6 aw U h],Z<|.e_<|aW a6 aw M N,Y,Y,Y]) rfl ?_;refine bM (UR:=[Z (a3 aa),Z<|.ej [.cQ,.cQ],Z<|.e_<|aW a6 aw M N,Z<|.aJ<|aW a6 aw U h,Y,Y]) rfl ?_;refine bM (i9 H (f5 rfl) rfl) (bM (i9 I (f5 rfl) rfl)<|fQ ?_);exact qD (b_ (bg<|d5 (b_ (bg<|d5 (b_ rfl rfl) rfl v) rfl) rfl rfl)<|b_ (bg<|d5 (b_ (bg<|d5 (b_ rfl rfl) rfl i) rfl) rfl rfl) rfl) rfl (fR rfl) rfl
def dq(d:Bool)(o:a0):Int×Int:=(if d then (o.2,o.1) else (o.1,o.2))
def vo(d:Bool)(o:a0)(q:Int):dq d (bt d o q)=((dq d o).1,(dq d o).2+q):=by cases d<;>rfl
def eN(d:Bool)(o r:a0):Prop:=((dq d o).1<(dq d r).1\/((dq d o).1=(dq d r).1/\(dq d o).2<(dq d r).2))
def eN.zl(e:eN d o o):False:=by unfold eN at e;lia
def eN.yT{r:a0}(e:eN d o r)(F:eN d r o):False:=by unfold eN at e F;lia
def eN.next{f:a0}(e:eN d o f)(F:eN d f (bt d o 1)):False:=by
 unfold eN at e F;rw[vo]at F;dsimp only at F;lia
def vH:eN d o (bt d o 1):=by
 unfold eN;rw[vo];dsimp only;lia
def kl(d:Bool)(VJ:List aU)(f:a0):List aU:=(match VJ with
 |[]=>[(d,f,1)]
 |j::C=>if bt d j.2.1 ((j.2.2:Int)-1)=bt d f (-1) then (d,j.2.1,j.2.2+1)::C else (d,f,1)::j::C)
structure jS(aa:List a0)(d:Bool)(n:List a0)(VJ:List aU):Prop where
 wf:∀j∈VJ,j.1=d/\1<=j.2.2/\(∀i:Nat,i<j.2.2->bt d j.2.1 (i:Int)∈aa)/\bt d j.2.1 (-1)∉aa
 cl:∀j∈VJ.tail,bt d j.2.1 (j.2.2:Int)∉aa
 aB:∀x,n.getLast?=Z x->∃j C,VJ=j::C/\x=bt d j.2.1 ((j.2.2:Int)-1)
 no:n=[]->VJ=[]
 hd:VJ.map (·.2.1)=(n.filter λo=>!decide (bt d o (-1)∈aa)).reverse
def jS.start(aa:List a0)(d:Bool):jS aa d [] []:=⟨λ_ e=>(by cases e),λ_ e=>(by cases e),λ_ e=>(by cases e),λ_=>rfl,rfl⟩
theorem uZ{d:Bool}:∀{I:List a0}{x:a0},I.Pairwise (eN d)->I.getLast?=Z x->∀g∈I,g=x\/eN d g x
 |[],_,_,e,_,_=>by cases e
 |[o],x,_,e,g,a=>by
  cases e;exact .inl (cN.mp a)
 |o::r::j,x,u,e,g,a=>by
  rw[List.getLast?_cons_cons]at e;have p:=gj.mp u;rcases b9.mp a with rfl|a
  ·exact .inr (p.1 x<|AK e)
  ·exact uZ p.2 e g a
section
variable{aa u n cB:List a0}{d:Bool}{f:a0}{VJ:List aU}
def Ek(ar:u=n++f::cB)(g:u.Pairwise (eN d))(h:∀o,o∈u↔o∈aa)(e:bt d f (-1)∈aa):n.getLast?=Z (bt d f<|-1):=by
 subst ar;have a:=vj.mp g;have t:eN d (bt d f<|-1) f:=by
  unfold eN;rw[vo];dsimp only;lia
 have b:bt d f (-1)∈n:=by
  rcases ed.mp ((h _).mpr e) with k|k
  ·exact k
  ·rcases b9.mp k with k|k
   ·rw[k]at t;exact t.zl.elim
   ·exact (t.yT<|(gj.mp a.2.1).1 _ k).elim
 cases c:n.getLast? with
 |none=>rw[uF.mp c]at b;cases b
 |some x=>
  rcases uZ a.1 c _ b with k|k
  ·rw[k]
  ·have i:=a.2.2 x (AK c) f (.head _);unfold eN at k i;rw[vo]at k;dsimp only at k;exact absurd k ⋯
def T2(ar:u=n++f::cB)(g:u.Pairwise (eN d))(h:∀o,o∈u↔o∈aa){x:a0}(b:n.getLast?=Z x)(e:bt d x 1∈aa):f=bt d x 1:=by
 subst ar;have a:=vj.mp g;have i:=AK b;rcases ed.mp ((h _).mpr e) with k|k
 ·rcases uZ a.1 b _ k with c|c
  ·have:=vH (d:=d) (o:=x);rw[c]at this;exact this.zl.elim
  ·exact (vH.yT c).elim
 ·rcases b9.mp k with c|c
  ·exact c.symm
  ·exact ((a.2.2 x i f<|.head _).next<|(gj.mp a.2.1).1 _ c).elim
def wj(e:a+i=q):bt d (bt d o a) i=bt d o q:=by rw[pk,e]
def jS.step(l:jS aa d n VJ)(ar:u=n++f::cB)(s:u.Pairwise (eN d))(r:∀o,o∈u↔o∈aa):jS aa d (n++[f]) (kl d VJ f):=by
 have v:f∈aa:=(r f).mp (by rw[ar];exact dT _ (.head _));have one:(d,f,1).1=d/\1<=(d,f,1).2.2/\(∀i:Nat,i<(d,f,1).2.2->bt d (d,f,1).2.1 (i:Int)∈aa):=⟨rfl,bb 1,λi t=>by
  have:i=0:=Nat.lt_one_iff.mp t;subst this;show bt d f 0∈aa;rw[jt];exact v⟩
 have jk:∀(C:List aU) (x:a0),(n++[f]).getLast?=Z x->∃j Vd,((d,f,1)::C:List aU)=j::Vd/\x=bt d j.2.1 ((j.2.2:Int)-1):=λC x e=>by
  rw[tj,xb]at e;cases e;exact⟨_,_,rfl,(jt d f).symm⟩
 cases VJ with
 |nil=>
  have b:n=[]:=by
   cases g:n.getLast? with
   |none=>exact uF.mp g
   |some x=>let⟨W,W,c,W⟩:=l.aB x g;cases c
  have h:bt d f (-1)∉aa:=λk=>by
   have:=Ek ar s r k;rw[b]at this;cases this
  subst b;refine⟨λj UQ=>?_,λ_ e=>(by cases e),jk [],λe=>by simp at e,?_⟩
  ·rw[cN.mp UQ];exact⟨one.1,one.2.1,one.2.2,h⟩
  ·show [f]=_;rw[lQ,si,aK ⇑h];rfl
 |cons j C=>
  have g:n.getLast?=Z (bt d j.2.1<|(j.2.2:Int)-1):=by
   cases g:n.getLast? with
   |none=>have:=l.no (uF.mp g);cases this
   |some x=>
    let⟨VA,Vd,c,y⟩:=l.aB x g;cases c;rw[y]
  let⟨E,F,w,z⟩:=l.wf j (.head _);unfold kl;dsimp only;split
  ·rename_i q;have Vs:f=bt d j.2.1 (j.2.2:Int):=by
    have B:f=bt d (bt d f<|-1) 1:=by rw[pk];exact (jt d f).symm
    rw[B,<-q];exact wj ⋯
   have A:bt d f (-1)∈aa:=by
    rw[<-q];have:=w (j.2.2-1) ⋯
    rwa [show ((j.2.2-1:Nat):Int)=(j.2.2:Int)-1 by lia]at this
   refine⟨λm a=>?_,λm a=>l.cl m a,λx e=>?_,λe=>by simp at e,?_⟩
   ·rcases b9.mp a with rfl|a
    ·refine⟨rfl,by show 1<=j.2.2+1;lia,λi t=>?_,z⟩;rcases gd i j.2.2 with p|p
     ·exact w i p
     ·have:i=j.2.2:=by have:i<j.2.2+1:=t;lia
      subst this;show bt d j.2.1 (j.2.2:Int)∈aa;rw[<-Vs];exact v
    ·exact l.wf m (.tail _ a)
   ·rw[tj,xb]at e;cases e;refine⟨_,_,rfl,?_⟩;show f=bt d j.2.1 (((j.2.2+1:Nat):Int)-1);rw[show ((j.2.2+1:Nat):Int)-1=(j.2.2:Int) by lia];exact Vs
   ·rw[EB,si,aL ⇑A,HC,b8];exact l.hd
  ·rename_i q;have h:bt d f (-1)∉aa:=λk=>by
    have:=Ek ar s r k;rw[g]at this;exact q (Option.some.inj this)
   have D:bt d j.2.1 (j.2.2:Int)∉aa:=λk=>by
    have c:bt d (bt d j.2.1<|(j.2.2:Int)-1) 1=bt d j.2.1 (j.2.2:Int):=wj ⋯;have:=T2 ar s r g (by rw[c];exact k);refine q ?_;rw[this,pk];exact (jt d _).symm
   refine⟨λm a=>?_,λm a=>?_,jk _,λe=>by simp at e,?_⟩
   ·rcases b9.mp a with rfl|a
    ·exact⟨one.1,one.2.1,one.2.2,h⟩
    ·exact l.wf m a
   ·rcases b9.mp (show m∈j::C from a) with rfl|a
    ·exact D
    ·exact l.cl m a
   ·rw[EB,si,aK ⇑h,HC,List.reverse_append,<-l.hd];rfl
end
def ov(d:Bool)(VJ:List aU)(E:List a0):List aU:=(E.foldl (kl d) VJ)
theorem jS.all{aa u:List a0}{d:Bool}(a:u.Pairwise (eN d))(b:∀o,o∈u↔o∈aa):∀(cB n:List a0) {VJ:List aU},jS aa d n VJ->u=n++cB->jS aa d u (ov d VJ cB)
 |[],n,VJ,l,ar=>by rw[ar,b8];exact l
 |f::cB,n,VJ,l,ar=>jS.all a b cB (n++[f]) (l.step ar a b) (by rw[ar];simp)
def Rl{u:List a0}(m:aa.length<=1000)(f:u.Pairwise (eN d))(Vr:u.Perm aa):(ov d [] u).reverse.Perm (b3 aa d):=by
 have g:∀o,o∈u↔o∈aa:=λo=>Vr.mem_iff;have l:=jS.all f g u [] (jS.start aa d) rfl;generalize ov d [] u=VJ at l;have n:∀j∈VJ,j=j1 aa d j.2.1:=λj UQ=>by
  let⟨q,h,i,v⟩:=l.wf j UQ;have r:j.2.1∈aa:=by have:=i 0 h;rwa [show ((0:Nat):Int)=0 from rfl,jt]at this
  have out:bt d j.2.1 (j.2.2:Int)∉aa:=by
   cases VJ with
   |nil=>cases UQ
   |cons F C=>
    rcases b9.mp UQ with rfl|UQ
    ·intro k;cases b:u.getLast? with
     |none=>have:=l.no (uF.mp b);cases this
     |some x=>
      let⟨VA,Vd,c,t⟩:=l.aB x b;cases c;have e:bt d x 1=bt d j.2.1 (j.2.2:Int):=by rw[t];exact wj ⋯
      rcases uZ f b _ ((g _).mpr (e ▸ k:bt d x 1∈aa)) with p|p
      ·have:=vH (d:=d) (o:=x);rw[p]at this;exact this.zl
      ·exact vH.yT p
    ·exact l.cl j UQ
  have:=(lB.uniq ⟨h,i,out⟩<|tV r m);let⟨a,o,s⟩:=j;cases q;show (a,o,s)=(a,o,gg aa a o);rw[show s=gg aa a o from this]
 have e:VJ=(VJ.map (·.2.1)).map (j1 aa d):=by
  rw[e7];refine (EZ VJ).symm.trans (oI λj UQ=>n j UQ)
 rw[e,l.hd,<-List.map_reverse,List.reverse_reverse];exact (Vr.filter _).map _
end G
namespace L2
open Spec PyProof.Rows
variable{UH:ab->ai->Prop}{O:bw}{w:List (aC×ah)}{U2:eO}{VY:bh}{VO:tc}{P:ah}{UZ:Pos}{h:ax}
abbrev m9:e1:=.ext λ_=>True
def xV{UT:bC}{D:bc}{e:aZ}{g:ah}{n:aX}(c:e.get? g=Z n):d0 UT D h e g (.b6 n m9):=⟨c,trivial,⟨n,c⟩,λ_ W W W=>trivial⟩
def Nl{V5:Pos}{o a:ab}(I:List ab)(e:AY I)(c:qr V5 (I++[cP UZ.line,cP UZ.col,o])=Z a):qr V5 I=Z a\/a=o:=by
 fun_induction AY I
 ·simp only[lQ,qr,cP]at c;split at c
  ·exact .inr (Option.some.inj c).symm
  ·cases c
 ·rename_i g C d J f cB b;simp only[qO,qr]at c ⊢;split at c
  ·rename_i p;rw[aK p];exact .inl c
  ·rename_i p;rw[aL p];exact b e c
 ·exact e.elim
def q3(h:ax)(P:ah)(VO:tc)(VY:bh)(U2:eO)(w:List (aC×ah)):Prop:=(
 ∃Vr o a G U C,h P=Z (.b6 (Φe "<lambda>" iA VO VY U2 w Vr o a) m9)/\h o=Z (.b6 G m9)/\G.data=.fields U/\U[1]?=Z (.str iA C))
def q3.same{Q:ax}(I:q3 h P VO VY U2 w)(q:bV h Q):q3 Q P VO VY U2 w:=
 let ⟨Vr,o,a,G,U,C,g,d,j⟩:=I;⟨Vr,o,a,G,U,C,q _ _ g,q _ _ d,j⟩
section
variable{b:aO}{R:List (ah×aX)}{z:a7}{h:ax}{m:ai}
def Mw{ay:fH}{V0 du:ah}{A:ab->ai->Prop}(l:aF b R z h m)(bP:Θ b.K "_law_runs_of" = Z (V0,du))(a1:b.env.code=.ref V0)(cr:b.env.qual ++ "<lambda>" = iA)(a2:vs U2 b.env=pure w)(e:∀P UP bd,aF b R z UP bd->bV h UP->q3 UP P VO VY U2 w->A (.ref P) bd):
  wpAny ay O (makeFunction "<lambda>" (b.env.qual ++ "<lambda>") VO (.expr VY) U2 b.env [] [] [] UZ UZ.line) A UH m:=by
 rw[cr];let⟨B,cs⟩:=l.cX V0 du bP;let⟨U1,o,D,be⟩:=l.aY du _ B;have aN:=cs.hd l.nD;have F:=l.mod.glob.keeps l.fg;let⟨L,n,db,ds,dL,bi,eq,ev,bn⟩:=l.mod.bm;have bs:m.heap.BuiltinsAt b.aM du:=⟨L,n,db,ds,dL,(λk=>by
  have:=l.fg L n bi;rw[k,o]at this;cases this;cases bn),l.fg L n bi,eq,ev,bn⟩
 have ex:dx≠du:=λk=>by
  let⟨Vk,T,U9,c,hd,_⟩:=F;rw[k,o]at c;cases c;cases hd
 cases M:qr UZ U1.toList with
 |some N=>
  let⟨a,G,U,C,rfl,al,am,an⟩:=be UZ N M;refine PySem.W.kla_makeFunctionHit a2 l.ok.glob F a1 aN o D M bs λu S Vq fd bv=>?_;have fn:h S.objs.size=Y:=l.aY.fresh bv;have f:bV h (upd h S.objs.size<|.b6 (Φe "<lambda>" iA VO VY U2 w ((b.aM "__name__").getD .none) a u) m9):=λg n c=>by rw[b0 (fV c fn)];exact c
  exact e _ _ _ (l.laid (Vd:=Vq) (λd J c=>bT _<|fd d J c) bv<|xV<|cR _ rfl) f ⟨_,a,u,G,U,C,dp,f _ _ al,am,an⟩
 |none=>
  refine PySem.W.kla_makeFunction a2 l.ok.glob F a1 aN o D M ex bs λa u S Vq fr H ap f0 f1=>?_;let⟨he,G,U,C,f2,f4,hd,ca⟩:=f0;cases f2;generalize cd:Φe "<lambda>" iA VO VY U2 w ((b.aM "__name__").getD .none) a u=y;have f8:∀d n,h d=Z n->d≠a:=λd n c k=>by rw[k,l.aY.fresh H]at c;cases c
  have ga:∀d n,h d=Z n->d≠S.objs.size:=λd n c k=>by rw[k,l.aY.fresh<|df H<|l5 ap]at c;cases c
  have ce:a≠S.objs.size:=cT ap;have f:bV h (upd (upd h a<|.b6 G m9) S.objs.size<|.b6 y m9):=λg n c=>by rw[b0 (ga g n c),b0<|f8 g n c];exact c
  have q:∀d n,d≠du->m.heap.get? d=Z n->(S.push y).get? d=Z n:=λd n s c=>bT _ (fr d n s c);have I:∀d,h d≠Z .gN->d≠du:=λd s k=>s (k ▸ B);have as:(S.push y).get? du=Z (Δ<|U1++#[cP UZ.line,cP UZ.col,.ref a]):=bT _ f1;have ch:∀d n,m.heap.get? d=Z n->d≠a/\d≠S.objs.size:=λd n c=>⟨cT<|d6 (bW c) H,cT<|d6 (bW c)<|df H<|l5 ap⟩;refine e _ _ _ (l.step (VZ:=m.gens) (VD:=m.drawn) (Vd:=Vq) (S:=S.push y) (Q:=upd (upd h a<|.b6 G m9) S.objs.size (.b6 y m9)) (VW:=[]) (λ_ k=>nomatch k) (λd n _ _ _ c s=>q d n (I d (by rw[s];simp)) c) (λd n _ _ _ c s=>⟨n.slots,q d n (I d (by rw[s];simp)) c⟩)
   (λd n _ c s=>by rw[b0 (ch d n c).2,b0 (ch d n c).1];exact s) (λd n _ c=>?_) (λd n E _ c C=>q d n (I d (by rw[C];simp)) c) (λd E c=>f _ _ c) (λd n J c=>f _ _ c) (λd c=>⟨f _ _ c,λ_ hf p=>?_⟩)
   (λt ge=>?_) (λd J c=>?_) l.bare) f ⟨(b.aM "__name__").getD .none,a,u,G,U,C,?_,?_,hd,ca⟩
  ·by_cases i:d=du
   ·exact⟨_,by rw[i];exact as⟩
   ·exact⟨n,q d n i c⟩
  ·by_cases i:d=du
   ·rw[i]at p ⊢;rw[o]at p;cases p;exact⟨_,as⟩
   ·exact⟨#[],by rw[q d _ i p];simp⟩
  ·let⟨Vk,T,U9,gl,j⟩:=ge;exact⟨Vk,T,U9,q _ Vk (I _ (by rw[l.free];simp)) gl,j⟩
  ·by_cases ci:d=S.objs.size
   ·subst ci;rw[dp]at c;cases c;exact xV (cR _ (by rw[<-cd];rfl))
   ·rw[b0 ci]at c;by_cases cl:d=a
    ·subst cl;rw[dp]at c;cases c;exact xV (bT _ f4)
    ·rw[b0 cl]at c;by_cases i:d=du
     ·subst i;rw[B]at c;cases c;refine⟨_,as,?_,λV5 N co=>?_⟩
      ·rw[show (U1++#[cP UZ.line,cP UZ.col,ab.ref a]).toList=U1.toList++[cP UZ.line,cP UZ.col,.ref a] by simp];exact TriplesOk_snoc _ _ _ _ D
      ·rw[show (U1++#[cP UZ.line,cP UZ.col,ab.ref a]).toList=U1.toList++[cP UZ.line,cP UZ.col,.ref a] by simp]at co;rcases Nl _ D co with k|k
       ·let⟨go,gt,g1,g2,al,am,an⟩:=be V5 N k;exact⟨go,gt,g1,g2,al,f _ _ am,an⟩
       ·exact⟨a,G,U,C,k,by rw[b0 ce,dp],hd,ca⟩
     ·refine (l.aY d J c).eF (λr v g3 p=>q r v (λk=>?_) p) (λr p=>f _ _ p) (λr E p=>f _ _ p) λr n J p=>f _ _ p;rcases g3 with x|x
      ·exact i (x.symm.trans k)
      ·rw[k,B]at x;cases x
  ·rw[<-cd];exact dp
  ·rw[b0 ce,dp]
end
def qf(b:aO)(O:bw)(Vb:List aC)(U2:eO)(P:ah)(a:ab)(c:List (aC×ah))(m:ai)(h:ax):aO where
 prog:=b.prog
 w:=b.w
 K:=b.K
 aM:=b.aM
 base:=b.base
 A:=O.deeper (Ω iA U2 m.heap.objs.size P a c)
 N:=Vb
 eI:=m
 kv:=h
 env:=Ω iA U2 m.heap.objs.size P a c
 outer:=b.stack
 stack:=Ω iA U2 m.heap.objs.size P a c::b.stack
 ex:=[]
 fn:=λ_=>av
 calm:=X
 dK:=[]
 cF:=λ_ U=>False
section
variable{b:aO}{R:List (ah×aX)}{z:a7}{h:ax}{m:ai}
structure AQ(U2:eO)(dK E:aC):Prop where
 kind:U2.kind=.function
 co:U2.isCoroutine=av
 gen:U2.isGenerator=av
 ne:dK≠E
 loc:U2.names.lookup dK=Z .local
 Oj:U2.names.lookup E=Z .free
 uM:∀f∈U2.names,f.2≠.cell
 one:∀f∈U2.names,f.2=.free->f.1=E
def TP{t S:Nat}{j:ah}{dK E:aC}{VH:ay ag}{r q bK:V}{v F:ak}{J:ab}{U4:a4}(l:aF b R z h m)(bm:O.frames=Z b.stack)(UQ:dB (t+1) O)(VM:q3 h P VO VY U2 [(E,j)])(UM:AQ U2 dK E)(bn:∀(Vr:ab) (o:ah) (am g:ab),jx (PySem.W.kla_fn "<lambda>" iA VO VY U2 [(E,j)] Vr (.ref o) am) ⟨[g],[]⟩=pure [(dK,g)])(bv:b.N[S]?=Z E)(an:b.env.kindOf E=Z .cell)(ap:b.env.cells.lookup E=Z j)(ca:z[S]?=Z (Z F))(cd:cf h bK F)(hd:cf h r v)(ce:bY v J)(ch:∀(P:ah) (as:ab) (m:ai) (h:ax),dB t (qf b O [dK,E] U2 P as [(E,j)] m h).A->b5 (qf b O [dK,E] U2 P as [(E,j)] m h) VY VH)(ci:VH [Z (.im r),Z<|.im bK]=Z (.im q,U4)):
  wpAny (aR b.prog b.w) O (call (.ref P) [J]) (λx UI=>∃Q k,aF b R z Q UI/\bY k x/\bV h Q/\cf Q q k) UH m:=by
 let⟨Vr,o,am,G,U,C,cl,cr,cs,db⟩:=VM;let⟨ds,K⟩:=l.aY P _ cl;let⟨V1,K⟩:=l.aY o _ cr;have dL:=l.nolimit;refine zg (PySem.W.kla_callFunE UQ.depth ds rfl UM.co UM.gen rfl ⟨o,G,U,C,rfl,V1,cs,db⟩ ?_);rw[bn];refine aQ (wpAny_newFunctionEnv UM.uM (λx s=>by rw[cN.mp s];exact UM.loc) (λa1 eq a2=>?_) UM.kind);have H:∀d n,m.heap.get? d=Z n->a1.get? d=Z n:=λd n c=>a2.extBut d n (cT<|bW c) (bT _ c);refine⟨dL.fresh _ a2,?_⟩;show codeAny _ _ (.expr VY<|Ω iA U2 m.heap.objs.size P (.ref o) [(E,j)]) _ _;let⟨f8,ga,ev⟩:=id l.loc;let⟨bd,ex,lk⟩:=ev S E F bv ca (by unfold oU;exact .inr (.inl an));have be:m.heap.IsCell j (Z bd):=by
  rcases lk with ⟨k,_⟩|⟨_,ge,c,k⟩
  ·rw[an]at k;cases k
  ·rw[ap]at c;cases c;exact k
 have i:∀x,(Ω iA U2 m.heap.objs.size P (.ref o) [(E,j)]).kindOf x=U2.names.lookup x:=λ_=>rfl;have I:∀x d,([(E,j)]:List (aC×ah)).lookup x=Z d->x=E/\d=j:=λx d c=>by
  rw[fx]at c;by_cases p:x=E
  ·subst p;rw[gT]at c;cases c;exact⟨rfl,rfl⟩
  ·rw[show (x==E)=av by simpa using p]at c;cases c
 have VP:aF (qf b O [dK,E] U2 P (.ref o) [(E,j)] m h) [] [Z v,Z F] h {m with heap:=a1,toks:=m.toks+1}:=by
  refine⟨⟨l.mod,UM.kind,rfl,rfl,bb _,λx k d y B=>?_,λx s=>?_,λx d e=>(by cases e),λ_=>UQ.hd,CH bm,.inr ⟨rfl,rfl⟩,λd k=>(by cases k),l.bs,df l.ok.ki l.gy,λd K K k=>(by cases k),λd k=>(by cases k),l.stack,⟨l.yI,l.cX⟩⟩,
   rfl,l.bare,eW.kept H,⟨_,eq,λa x f y B gl=>?_⟩,λx d e=>?_,l.aY.fresh<|bb _,λx d e=>?_,λu fd=>(by cases fd),l.aY.kept H,rfl⟩
  ·exact (I _ _ y).1.trans (I _ _ B).1.symm
  ·have s:U2.names.lookup x=Z .cell\/U2.names.lookup x=Z .free:=s;rcases s with s|s
   ·exact absurd rfl (UM.uM _<|PySem.mem_of_lookup s)
   ·refine⟨j,?_⟩;show ([(E,j)]:List (aC×ah)).lookup x=_;rw[show x=E from UM.one _ (PySem.mem_of_lookup s) rfl,fx,gT]
  ·match a,y,B with
   |0,y,B=>
    cases (Option.some.inj y:dK=x);cases (Option.some.inj (Option.some.inj B):v=f);refine⟨J,ce,.inl ⟨UM.loc,?_⟩⟩;show ([(dK,J)]:List (aC×ab)).lookup dK=_;rw[fx,gT]
   |1,y,B=>
    cases (Option.some.inj y:E=x);cases (Option.some.inj (Option.some.inj B):F=f);let⟨n,T,al⟩:=be;refine⟨bd,ex,.inr ⟨.inr UM.Oj,j,?_,n,H _ _ T,al⟩⟩;show ([(E,j)]:List (aC×ah)).lookup E=_;rw[fx,gT]
   |a+2,y,_=>cases y
  ·let⟨n,T,al⟩:=be;rw[(I x d e).2];exact⟨_,n,H _ _ T,al⟩
  ·rw[(I x d e).2];exact l.hF _ _ ap
 have fn:bD (qf b O [dK,E] U2 P (.ref o) [(E,j)] m h) VY (jF VH):=ch P (.ref o) m h (UQ.deeper _);refine PySem.W.kla_codeExpr (f7 (fn [] _ [Z v,Z F] h (λk Q=>bV h Q/\cf Q q k) VP ⟨[Z (.im r),Z<|.im bK],[],.im q,U4,?_,g4,ci,λk Q Vm UG L D VX=>?_⟩) (λx UI s=>?_) λc UI k=>False.elim k)
 ·exact⟨Z v,[Z F],[],[],rfl,⟨v,rfl,hd,rfl⟩,⟨Z F,[],[],[],rfl,⟨F,rfl,cd,rfl⟩,⟨rfl,rfl⟩,rfl⟩,rfl⟩
 ·exact⟨λd n c=>VX.keep d n c ↥0,D.1⟩
 ·let⟨k,Q,M,fr,f0,UN⟩:=s;let⟨f1,U6,f2,f4,bi⟩:=l.after (A:=λk Q=>bV h Q/\cf Q q k) ⟨k,Q,M.os,M.bare,M.base,M.aY,fr,f0,UN⟩;exact⟨U6,f1,f2,f4,bi.1,bi.2⟩
end
end L2
namespace L2
open Spec PyProof.Rows PySem.W
variable{g:ah}{Q:ax}
def vY{M U:List ab}{a:Nat}(b:M.length=U.length)(UN:a<M.length):(ba (M.toArray.zip U.toArray) a).1=M.getD a ab.none/\(ba (M.toArray.zip U.toArray) a).2=U.getD a ab.none:=by
 have B:a<U.length:=b ▸ UN;unfold ba;simp[Array.getD,UN,B,List.getD,show a<min M.length U.length from Nat.lt_min.mpr ⟨UN,B⟩]
def pl:V->V
 |.tup [_,r]=>r
 |_=>.aS
section
variable{b:aO}{R:List (ah×aX)}{z:L2.a7}{h:ax}{m:ai}
def bV.pY{h:ax}(q:bV h Q):mq h Q:=⟨λg W c=>q g _ c,λg W W c=>q g _ c⟩
def s7{h:ax}{n:e1}(q:bV h Q)(s:h g=Y):bV h (upd Q g n):=λd J c=>by
 rw[b0 (fV c s)];exact q d J c
def MW{P:ah}{U0:List ak}{H M:List V}{A:cL}(l:aF b R z h m)(g3:b.calm=X)(rc:b.A.units+20<bR)(lm:cC b.K h g U0)(UN:bI h H U0)(lk:M.length=H.length)(n:pz M)(ar:M.map pl=H)(ln:∀(UP:ax) (he:ai) (hf:List (ah×aX)),aF b hf z UP he->bV h UP->∀(i:Nat) (r:V) (v:ak) (J:ab),H[i]?=Z r->cf UP r v->bY v J->
   wpAny (aR b.prog b.w) b.A.in1.in1 (call (.ref P) [J]) (λx al=>∃U6 k,aF b hf z U6 al/\bY k x/\bV UP U6/\cf U6 (M.getD i .aS) k) (λ_ W=>False) he)(p:∀I Q VG,h I=Y->bV h Q->Q I=Z (.lst VG)->bI Q ((fy bp M).map pl) VG->A (.ref I) Q):
  wpAny (aR b.prog b.w) b.A (call (.builtin "sorted") [.ref g] [(aC.ofString "key",.ref P)]) (ec b R z A) b.cF m:=by
 let⟨UW,fd,⟨Vl,c,az,s,ls⟩,W⟩:=l.tuple lm;have lv:U0.length=UW.length:=fd.length;have lw:H.length=UW.length:=by rw[<-lv];exact UN.length
 have dI:=n.ord.dI;have mb:UW.length<=1000:=⋯
 have co:UW.length<=sizeLine:=df mb (show 1000<=sizeLine by decide);refine call_function_entry_kw we vF uO (ksk_s1 _ _) ?k;unfold br.«sorted»;refine ao (m:=t_ "sorted" 1 1 _) (aQ (ao (Jm g (.inr rfl) c az ls (λS fn=>?_) (by rw[cJ];exact co))));show wpAny _ _ (oo UW >>= _) _ _ _;refine ao (o4 ?_ co);have b1:∀d n,m.heap.get? d=Z n->(S.push<|dg "list" UW.toArray 0).get? d=Z n:=λd n c=>bT _ (fn d n c);have bn:(S.push<|dg "list" UW.toArray 0).get? S.objs.size=Z (dg "list" UW.toArray 0):=cR _ rfl;have cr:aF b R z h {m with heap:=S}:=l.kept (Vd:=m.toks) fn;have hm:aF b R z h {m with heap:=S.push (dg "list" UW.toArray 0)}:=l.kept (Vd:=m.toks) b1;have cs:b.eI.heap.objs.size<=S.objs.size:=cr.gy;have bs:h S.objs.size=Y:=cr.aY.fresh (bb _);have hw:∀d n,m.heap.get? d=Z n->d≠S.objs.size:=λd n c=>cT (bW<|fn d n c);have cd:S.objs.size≠b.env.locals:=λk=>gI _ (k ▸ cr.lt:S.objs.size<S.objs.size);have fr:∀f o,b.env.cells.lookup f=Z o->o≠S.objs.size:=λf o mo k=>by
  let⟨W,Vk,f0,W⟩:=cr.cell f o mo;exact gI _ (k ▸ bW f0:S.objs.size<S.objs.size)
 have f1:∀u∈b.dK++R,u.1≠S.objs.size:=λu a2=>hw _ _ (l.pin u a2).1;generalize S.objs.size=Vx at bn cs bs hw cd fr f1 ⊢;generalize S.push (dg "list" UW.toArray 0)=bv at b1 bn hm ⊢;refine ao (gP<|wpAny_call_entry_kw tJ ⟨_,bn,rfl⟩ wJ ?VY<|ksk_l1 _ _);show wpAny (aR b.prog b.w) b.A.in1.in1 (br.«list.sort» ⟨[.ref Vx],[(aC.ofString "key",.ref P)]⟩) _ _ _;rw[ksk_t1];unfold ksk_tree;refine ao (x4 bn rfl (ao (oY bn rfl ?_ (hsz:=by rw[cJ];exact co) (hsz2:=by show 0<=_;exact gk _))));have f2:=n1 bn (λ_=>#[]);generalize (if (#[]:Array ab).size==UW.toArray.size then 0 else 0+1)=N at f2;refine ao (wx f2 rfl (ao (wo (ao<|o4<|gP ?_) ⇑co)));have na:aF b R z h {m with heap:=bv.update Vx (aX.mapSeq λ_=>#[])}:=hm.turned (Vd:=m.toks) (λd n C c=>(gJ _ _<|Ne.symm C).trans c) bs cd (.inr cs) fr f1;have f4:aF b R z h {m with heap:=(bv.update Vx<|aX.mapSeq λ_=>#[]).push (dg "tuple" UW.toArray.toList.toArray 0)}:=na.kept (Vd:=m.toks) λd n c=>bT _ c;have f8:((bv.update Vx<|aX.mapSeq λ_=>#[]).push<|dg "tuple" UW.toArray.toList.toArray 0).get? Vx=Z (dg "list" #[] N):=bT _ f2;show wpAny _ _ (ksk_rest Vx (.ref P) av UW.toArray N<|.ref ((bv.update Vx<|aX.mapSeq λ_=>#[]).push<|dg "tuple" UW.toArray.toList.toArray 0).objs.size) _ _ {m with heap:=((bv.update Vx<|aX.mapSeq λ_=>#[]).push<|dg "tuple" UW.toArray.toList.toArray 0).push (dg "list" ([]:List ab).toArray 0)};generalize (bv.update Vx<|aX.mapSeq λ_=>#[]).push (dg "tuple" UW.toArray.toList.toArray 0)=ap at f4 f8 ⊢;have nb:Vx∉b.aa:=λC=>by
  let⟨W,⟨Vk,f0,W⟩⟩:=l.ok.iF.mem C;exact gI _ (d6 (bW f0) cs)
 have h0:aF b (R++[(Vx,dg "list" #[] N)]) z h {m with heap:=ap}:=f4.nF λu a2=>by
  rcases ed.mp a2 with a2|a2
  ·exact f4.pin u (dT _ a2)
  ·rw[cN.mp a2];exact⟨f8,bs,cd,nb,λv k=>by cases k⟩
 have db:h ap.objs.size=Y:=h0.aY.fresh (bb _);have ii:aF b (R++[(Vx,dg "list" #[] N)]) z (upd h ap.objs.size<|.lst []) {m with heap:=ap.push (dg "list" ([]:List ab).toArray 0)}:=
  h0.laid (Vd:=m.toks) (λd J c=>bT _ c) (bb _) ⟨gk _,[],0,.nil,cR _ rfl⟩;have ne:ap.objs.size≠Vx:=λk=>gI _ (k ▸ bW f8:ap.objs.size<ap.objs.size);generalize ap.objs.size=F at db ii ne ⊢;unfold ksk_rest;refine ao (i_ ?_);rw[List.forIn_toArray];refine ao (ksk_fold (λa UI=>∃Q as,aF b (R++[(Vx,dg "list" #[] N)]) z Q UI/\bV h Q/\Q F=Z (.lst as)/\bI Q (M.take a) as) UW 0 _ ⟨_,[],ii,s7 (bV.refl h) db,dp,rfl⟩ ?step ?done)
 case step=>
  rintro i f UI im ⟨Q,as,VP,ce,am,bd⟩;simp only[xM]at bd ⊢;have nl:i<UW.length:=(eV.mp im).1;obtain⟨r,hd⟩:∃r,H[i]?=Z r:=⟨_,dy ⋯⟩;let⟨v,nm,nn⟩:=UN.get hd;let⟨J,io,no⟩:=fd.get nm;rw[im]at io;cases io;refine ao (lC<|f7 (ln Q UI _ VP ce i r v f hd (nn.mono ce.pY) no) (λx al np=>?_) λ_ W ns=>ns.elim);let⟨U6,k,it,nw,ga,ol⟩:=np;try dsimp only
  have ds:=ga _ _ am;let⟨on,G,VT,ch,be⟩:=it.aY F _ ds;have op:as.length=i:=by rw[<-bd.length,g_];lia
  have ci:G.length=i:=by rw[<-ch.length];exact op
  obtain⟨ge,jp⟩:∃ge,(al.heap.update F (aX.mapSeq (·.push x))).get? F=Z (dg "list" (G.toArray.push x) ge):=⟨_,n1 be (·.push x)⟩;refine ao (oY be rfl ?_ (by rw[cJ];lia) (df (G9<|Array.size_push ..) (by rw[cJ];lia)));have o0:aF b (R++[(Vx,dg "list" #[] N)]) z (upd U6 F<|.lst<|as++[k]) {al with heap:=al.heap.update F (aX.mapSeq (·.push x))}:=
   it.write (Vd:=al.toks) (by rw[ds];trivial) (.inl rfl) (λd J C c=>(gJ _ _<|Ne.symm C).trans c) ⟨_,jp⟩ ⟨by rw[dW];show _+1<=_;lia,G++[x],ge,ch.append<|.cons nw .nil,by
    rw[jp];simp⟩
  have kt:mq U6 (upd U6 F<|.lst<|as++[k]):=⟨λd E c=>by rw[b0 (λD=>by rw[D,ds]at c;cases c)];exact c,λd n J c=>by rw[b0 (λD=>by rw[D,ds]at c;cases c)];exact c⟩;refine aQ ⟨rfl,_,as++[k],o0,s7 (ce.trans ga) db,dp,?_⟩;have V9:M.take (i+1)=M.take i++[M.getD i .aS]:=by
   have:i<M.length:=⋯
   rw[List.take_add_one,dy this,cA,dy this];rfl
  rw[V9];exact bI.snoc ((bd.mono ga.pY).mono kt) (ol.mono kt)
 case done=>
  rintro UI ⟨Q,as,VP,ce,am,bd⟩;rw[show M.take (0+UW.length)=M from zq ⋯]at bd;let⟨on,G,VT,ch,be⟩:=VP.aY F _ am;have kw:=bd.e8 VP.aY ch;have ci:G.length=UW.length:=by rw[<-ch.length,<-bd.length];lia
  try dsimp only
  refine ao (x4 be rfl ?_);have pc:(G.toArray.zip UW.toArray).size=UW.length:=by simp[ci]
  have ca:∀(L:bA) (u:Array Nat),cW UW.length u->i8 (kW M) u UW.length->arrOf L=u.map (ba<|G.toArray.zip UW.toArray)->hg L=Y->
    wpAny (aR b.prog b.w) b.A.in1.in1 (ksk_tail Vx av N (.ref F) L) (λca UI=>∃v,ca=Fin.done (Flow.ret v)/\wpAny (aR b.prog b.w) b.A.in1 (ret<|ab.ref Vx) (λca UI=>∃v,ca=Fin.done (Flow.ret v)/\ec b R z A v UI) b.cF UI) b.cF UI:=λL u an dL gl go=>by
   have out:=kat_snds (ks:=G) (vs:=UW) ci gl;unfold ksk_tail;dsimp only;rw[out,go];have pi:o2 (Q F):=by rw[am];trivial
   have eq:aF b (R++[(Vx,dg "list" #[] N)]) z (upd Q F<|.lst []) {UI with heap:=UI.heap.update F (aX.mapSeq λ_=>#[])}:=
    VP.write (Vd:=UI.toks) pi (.inl rfl) (λd J C c=>(gJ _ _<|Ne.symm C).trans c) ⟨_,n1 be λ_=>#[]⟩ ⟨gk _,[],_,.nil,n1 be λ_=>#[]⟩;let⟨ev,lc,W⟩:=eq.pin (Vx,dg "list" #[] N) (dT _<|dT _<|.head _);have cl:=eq.uu;have gt:bV h (upd Q F<|.lst []):=s7 ce db;refine ao (oY be rfl ?_ (by rw[cJ];lia)<|gk _);refine ao (lP ?_);generalize UI.heap.update F (aX.mapSeq λ_=>#[])=a1 at eq cl ev ⊢;generalize upd Q F (.lst [])=lf at eq cl lc gt;have pm:=n1 ev λ_=>(u.toList.map λa=>UW.getD a ab.none).toArray;refine ao (wx (s:={UI with heap:=a1}) ev rfl (ao (oY (s:={UI with heap:=a1}) ev rfl ?_ (hsz:=gk _) (hsz2:=by
    show (List.toArray<|u.toList.map λa=>UW.getD a ab.none).size<=_;rw[cJ,bl,dk,an.size];lia))))
   simp only[bne_self_eq_false,gs,ft];refine aQ ⟨_,rfl,aQ ⟨_,rfl,?_⟩⟩;have bi:∀d n,d≠Vx->a1.get? d=Z n->(a1.update Vx<|aX.mapSeq λ_=>(u.toList.map λa=>UW.getD a ab.none).toArray).get? d=Z n:=λd n C c=>(gJ _ _<|Ne.symm C).trans c;have bm:∀d J,lf d=Z J->d≠Vx:=λd J c k=>by rw[k,lc]at c;cases c
   have nil:∀{d:ah},d∉[Vx]->d≠Vx:=λe k=>e (k ▸ .head _);refine⟨.ref Vx,upd lf Vx<|.lst<|u.toList.map λa=>U0.getD a .aS,aF.step (m:={UI with heap:=a1}) (S:=a1.update Vx (aX.mapSeq λ_=>(u.toList.map λa=>UW.getD a ab.none).toArray)) cl (VZ:=UI.gens) (VD:=UI.drawn) (Vd:=UI.toks) (VW:=[Vx]) (λd C=>?_) (λd n W W C c W=>bi d n (nil C) c) (λd n W W C c W=>⟨n.slots,bi d n (nil C) c⟩) (λd n C c s=>by rw[b0 (nil C)];exact s)
    (λd n C c=>⟨n,bi d n (nil C) c⟩) (λd n W C c W=>bi d n (nil C) c) (λd E c=>by rw[b0 (bm d _ c)];exact c) (λd n J c=>by rw[b0 (bm d _ c)];exact c) (λd c=>⟨by rw[b0 (bm d _ c)];exact c,λC=>.of λn=>bi d n<|nil C⟩)
    (λt po=>?_) (λd J c=>?_) cl.bare,rfl,p Vx _ _ bs (s7 gt bs) dp ?_⟩
   ·rw[cN.mp C];exact⟨.inr cs,cd,fr,f1⟩
   ·let⟨Vk,T,U9,pp,j⟩:=po;exact⟨Vk,T,U9,bi _ Vk (Ne.symm cd) pp,j⟩
   ·by_cases C:d=Vx
    ·subst C;rw[dp]at c;cases c;refine⟨by rw[bl,dk,an.size];lia,_,_,tb ↥0 λa v J y B=>?_,pm⟩;rw[dU]at y B;cases g1:u.toList[a]? with
     |none=>rw[g1]at y;cases y
     |some q=>
      rw[g1]at y B;cases y;cases B;have am:q<UW.length:=eT.mp (an.mem_iff.mp<|gF g1);let⟨J,ex,a1⟩:=fd.get (a:=q) (f:=U0[q]'⋯) (by simp[show q<U0.length by lia]);rw[dy am]at ex;have ex:=Option.some.inj ex;simp only[List.getD,dy am,dy (show q<U0.length by lia),uL];rw[ex];exact a1
    ·rw[b0 C]at c;refine (cl.aY d J c).eF (λo v g3 p=>bi o v (λk=>?_) p) (λo p=>by rw[b0 (bm o _ p)];exact p) (λo E p=>by rw[b0 (bm o _ p)];exact p) λo n J p=>by rw[b0 (bm o _ p)];exact p
     rcases g3 with x|x
     ·exact C (x.symm.trans k)
     ·exact bm o _ x k
   ·rw[<-lw,<-lk]at an dL;have N:(u.toList.map λa=>M.getD a .aS)=fy bp M:=uV n.ord (sj an) (uS n.ord an dL);have pr:(fy bp M).map pl=u.toList.map λa=>H.getD a .aS:=by
     rw[<-N,e7];refine oI λa W=>?_;show pl (M.getD a .aS)=H.getD a .aS;rw[<-ar,cA,cA,dU];cases M[a]?<;>rfl
    rw[pr];exact (UN.pick λq am=>by rw[<-lk];exact eT.mp (an.mem_iff.mp am)).mono (s7 gt bs).pY
  unfold ksk_end;dsimp only;rw[aL cU];simp only[gs,ft];have g2:=zG (G.toArray.zip UW.toArray);rw[pc]at g2;by_cases B:UW.toArray.size<2
  ·rw[aK B,aK B];refine ao (aQ ?_);rw[Ig];apply ao;apply aQ;have li:UW.length<2:=by simpa using B
   refine ca (bA.mk' general' (G.toArray.zip UW.toArray) #[] 7 Y) (range UW.length).toArray (List.Perm.refl _) (λa i re nl=>?_) g2.symm rfl;have:a=i:=⋯
   subst this;exact lL _
  ·rw[aL B,aL B];have li:2<=UW.length:=by simpa using B
   refine ao (tE (b:=b) (e:=UI.heap) n ⋯ kw _ _ _ ?_);have pt:=v7 (US:=b.prog) (D:=b.w) (O:=b.A.in1.in1) (m:=UI) (d:=decide (∀r∈M,hO r=X)) n.ord kw n.tup (λC=>fY C) (by show b.A.units+1+1+9<bR;lia);have mx:fC UW.length (kW M) (eU b.prog b.w b.A.in1.in1 (ou<|decide (∀r∈M,hO r=X))<|G.toArray.zip UW.toArray) UI:=by
    intro a i aN rs sc pu;have:=pt (a:=a) (i:=i) (aN:=aN) ⋯ ⋯ pu;unfold eU at this ⊢;rw[(vY ci ⋯).1,(vY ci ⋯).1];rw[(vY rfl ⋯).1,(vY rfl ⋯).1]at this;exact this
   have run:=DQ (UH:=b.cF) (A:=λ_ L al=>al=UI/\∃u,cW UW.length u/\i8 (kW M) u UW.length/\arrOf L=u.map (ba<|G.toArray.zip UW.toArray)/\hg L=Y) mx
    li (.inl ⋯) λpy sn g d o r=>⟨rfl,py,g,d,o,r⟩;unfold ro at run;rw[g2]at run;refine ao (f7 run (λj al UQ=>?_) λ_ W c=>c);let⟨J,L⟩:=j;let⟨rfl,u,an,dL,gl,go⟩:=UQ;exact ca L u an dL gl go
end
end L2
namespace L2
open Spec PyProof.Rows
def mO(VH:ay ag)(D:V):List V->Option (List V)
 |[]=>Z []
 |r::j=>match VH [Z (.im r),Z<|.im D] with
  |some (.im q,_)=>(mO VH D j).map (q::·)
  |_=>Y
theorem I9{VH:ay ag}{D:V}:∀{H M:List V},mO VH D H=Z M->M.length=H.length/\∀(i:Nat) (r:V),H[i]?=Z r->∃U4,VH [Z (.im r),Z<|.im D]=Z (.im<|M.getD i .aS,U4)
 |[],M,e=>by
  cases e;exact⟨rfl,λi r c=>by cases c⟩
 |r::j,M,e=>by
  rw[mO]at e;split at e
  ·rename_i q U4 a;let⟨b,y,rfl⟩:=cm.mp e;let⟨I,p⟩:=I9 y;refine⟨by rw[dz,dz,I],λi VD c=>?_⟩;cases i with
   |zero=>
    cases c;exact⟨U4,a⟩
   |succ i=>exact p i VD c
  ·cases e
def sk(M:List V)(f:List V):Option ag:=(if pg M=X then (if M.map pl=f then Z (.lst<|(fy bp M).map pl) else Y) else Y)
def uj(VH:ay ag)(D:V)(H:List ag):Option ag:=(match H with
 |[.im (.tup f)]=>(mO VH D f).bind λM=>sk M f
 |_=>Y)
def G3(a:Nat)(w:a4):Option V:=(match w[a]? with
 |some (Z<|.im D)=>Z D
 |_=>Y)
def q6(a:Nat)(VH:ay ag)(F:ay (List bJ)):ay ag:=(λw=>(F w).bind λu=>(gw u.2 u.1).bind λH=>(G3 a u.2).bind λD=>(uj VH D H).map λr=>(r,u.2))
section
variable{b:aO}
def N2{t S:Nat}{s V0 du:ah}{f dK E:aC}{u UZ k bi:Pos}{c:bh}{VO:tc}{VY:bh}{U2:eO}{VH:ay ag}{F:ay (List bJ)}(bP:Θ b.K "_law_runs_of" = Z (V0,du))(bm:b.env.code=.ref V0)(UQ:dB (t+3) b.A)(bn:b.aM f=Y)(an:e9 f=Z (.builtin "sorted"))(ap:fA b [c] F)(UM:AQ U2 dK E)(bs:∀(P:ah) (a2:ab) (m:ai) (h:ax),dB t (qf b b.A.in1.in1 [dK,E] U2 P a2 [(E,s)] m h).A->b5 (qf b b.A.in1.in1 [dK,E] U2 P a2 [(E,s)] m h) VY VH)(bv:∀(Vr:ab) (o:ah) (ca g:ab),jx (PySem.W.kla_fn "<lambda>" iA VO VY U2 [(E,s)] Vr (.ref o) ca) ⟨[g],[]⟩=pure [(dK,g)]:=by intros;rfl)(cd:b.N[S]?=Z E:=by rfl)(ce:b.env.kindOf E=Z .cell:=by rfl)(ch:b.env.cells.lookup E=Z s:=by rfl)(ci:vs U2 b.env=pure [(E,s)]:=by rfl)(cl:b.env.qual ++ "<lambda>" = iA:=by rfl)(co:defaultsOf VO b.env=([],[]):=by rfl)(cr:b.calm=X:=by rfl)(cs:eM b f:=by rfl)(db:f ≠ "__name__" := by decide)(ds:(f==("__debug__" : aC))=av:=by decide)(dL:e5 UZ (bS [c] b.env)=(av,b7 c b.env)::e5 UZ (bS [] b.env):=by rfl)(eq:(e5 UZ<|bS [c] b.env).any (·.1)=av:=by rfl):
  b5 b (.Call (.Name f u) [c] [⟨Z "key",.Lambda VO VY U2 bi,k⟩] UZ) (q6 S VH F):=by
 show bD b _ (jF<|q6 S VH F);intro R m z h A l e;let⟨w,P,j,U4,L,aj,ev,p⟩:=e;let⟨⟨U5,UR⟩,y,B⟩:=bN.mp ev;let⟨H,ex,fd⟩:=bN.mp B;let⟨D,T,fn⟩:=bN.mp fd;let⟨r,al,fr⟩:=cm.mp fn;cases fr;have f0:hz b [c] (gZ F):=ap;refine rQ (m3 l cs bn an ?_ db ds);refine callWith_kw (bZ (f0 UZ R m z h (λU UP=>∃U3 C,bx UP UR z U3/\kd UP z U5 U C/\a9 h P UP (U3++C)) l ⟨w,P,U5,UR,L,aj,y,λU UP U3 C g d o=>⟨U3,C,g,d,o⟩⟩) λVa ii f1=>?_) dL eq;let⟨U,UP,f2,f4,U3,C,am,f8,VX⟩:=f1;have ga:=f8.read am ex;unfold uj at al;split at al
 case h_2=>cases al
 rename_i x;let⟨M,ge,q⟩:=bN.mp al;unfold sk at q;split at q
 case isFalse=>cases q
 rename_i Vl;split at q
 case isFalse=>cases q
 rename_i ar;cases q;let⟨v,rfl,an⟩:=gM ga;let⟨g,U0,rfl,gl,go⟩:=an.i;let⟨J,rfl,as⟩:=iM f4;cases as;let⟨lk,fj⟩:=I9 ge;have gt:UR[S]?=Z (Z<|.im D):=by
  unfold G3 at T;split at T
  ·rename_i g1;cases T;exact g1
  ·cases T
 let⟨io,it,O,g2,⟨g3,O⟩,O⟩:=am.out gt;refine wpAny_evalAll_cons (ao<|PySem.W.kla_eval co<|Mw f2 bP bm cl ci λP U6 jp he G VM=>ao<|wd<|aQ<|wpAny_evalAll_nil ?_);have kt:=(UQ.un:b.A.units+16*(t+3)+200<bR);refine MW he cr ⋯ (cC.of<|G _ _ gl) (go.mono G.pY) lk (n3.mp Vl).w ar (λkw lc lf bd be i r v J hd UN as=>?_) λI Q VG aT UI hf hm=>?_
 ·let⟨U4,hw⟩:=fj i r hd;have h0:dB (t+1) b.A.in1.in1:=(show dB (t+1+1) b.A.in1 from (show dB (t+1+1+1) b.A from UQ).in1).in1;exact TP bd (by exact bd.ok.frames) h0 (VM.same be) UM bv cd ce ch g2 ((g3.mono G.pY).mono be.pY) UN as bs hw
 ·have a1:=G.trans UI;have We:=G.free aT;exact p (.ref I) Q U3 [I] (am.mono a1.tupS λg O n c=>a1 g n c) ⟨I,VG,rfl,hf,hm,rfl⟩ (VX.new a1 (gC.mpr ⟨iZ,g4⟩) (λg ap=>by rw[cN.mp ap];exact We) am.chg)
end
end L2
namespace L2
open Spec PyProof.Rows PySem.W SeqAt
variable{i:Nat}
def Gw(VC:cb)(a:a4->Option V):Prop:=(∀w z h P r A,bx h w z P->a w=Z r->(∀v,cf h r v->A v h)->VC z h A)
@[simp] def uK(i:Nat):a4->Option V:=λw=>match w[i]? with
 |some (Z<|.im r)=>Z r
 |_=>Y
def Tj:Gw (iH i) (uK i):=by
 intro w z h P r A L c p;unfold uK at c;split at c
 ·rename_i VD hd;cases c;let⟨v,y,B⟩:=L.c4 hd rfl;exact⟨v,y,p v B.1⟩
 ·cases c
section
variable{b:aO}
def BW(b:aO)(c:bh)(a:a4->Option V):Prop:=(∃VC,bD b c VC/\Gw VC a)
def Nu{c:bh}(e:bD b c (iH i)):BW b c (uK i):=⟨_,e,Tj⟩
end
end L2
namespace L2
open Spec PyProof.Rows PySem.W
variable{c n:bh}{UZ Wh:Pos}{H:List ag}{a:Nat}{h:ax}
theorem c0.at{h:ax}{r:ag}:∀{H:List ag}{U:List ak}{UU:List ah}{i:Nat},c0 h H U UU->H[i]?=Z r->∃v UG b,U[i]?=Z v/\b2 h r v UG/\(UG++b).Perm UU/\
  ∀Q VD d a,e2 h Q->(∀o∈b,∀n,h o=Z n->Q o=Z n)->b2 Q VD d a->∃g,c0 Q (H.set i VD) (U.set i d) g/\g.Perm (a++b)
 |[],_,_,_,_,c=>by simp at c
 |f::H,_,_,0,e,c=>by
  let⟨v,j,U3,G,rfl,y,B,rfl⟩:=e;cases (Option.some.inj c:f=r);exact⟨v,U3,G,rfl,y,List.Perm.refl _,λQ VD d a C q D=>⟨a++G,⟨d,j,a,G,rfl,D,B.mono C q,rfl⟩,List.Perm.refl _⟩⟩
 |f::H,_,_,i+1,e,c=>by
  let⟨v,j,U3,G,rfl,y,B,rfl⟩:=e;let⟨J,UG,b,l,m,p,s⟩:=c0.at (i:=i) B ⇑c;have Vr:∀UG:List ah,(UG++(U3++b)).Perm (U3++(UG++b)):=λUG=>by
   rw[<-bq,<-bq];exact eQ _ c8
  refine⟨J,UG,U3++b,by simpa using l,m,(Vr UG).trans<|dO _ p,λQ VD d a C q D=>?_⟩;let⟨g,t,u⟩:=s Q VD d a C (λo k=>q o<|dT _ k) D;exact⟨U3++g,⟨v,j.set i d,U3,g,rfl,y.mono C λo k=>q o<|fl _ k,t,rfl⟩,(dO _ u).trans (Vr a).symm⟩
theorem FY{U_:Type}{v:U_}:∀{I:List U_}{i:Nat},I[i]?=Z v->I.set i v=I
 |[],_,e=>by simp at e
 |f::I,0,e=>by
  rw[List.getElem?_cons_zero]at e;rw[F1,Option.some.inj e]
 |f::I,i+1,e=>by
  rw[List.getElem?_cons_succ]at e;rw[List.set_cons_succ,FY e]
def HX{w:a4}{z:a7}{P:List ah}{i:Nat}{r:ag}(L:bx h w z P)(aj:P.Nodup)(F:w[a]?=Z (Z<|.dY H))(hd:H[i]?=Z r):
  ∃g U v UG,z[a]?=Z (Z<|.ref g)/\h g=Z (.lst U)/\H.length=U.length/\U[i]?=Z v/\b2 h r v UG/\UG.Nodup/\(∀f∈UG,f∈P)/\∀Q VD b UM,b2 Q VD v b->a9 h UG Q (b++UM)->∃Vm,bx Q (w.set a<|Z<|.dY<|H.set i VD) z Vm/\a9 h P Q (Vm++UM):=by
 let⟨v0,al,G,q,⟨g,U,UU,rfl,y,B,rfl⟩,I,Vr⟩:=L.out F;let⟨v,UG,j,s,J,t,M⟩:=B.at hd;have e:(UG++(G++g::j)).Perm P:=by
  rw[Dq]at Vr t ⊢;intro f;have:=Vr f;have:=t f;simp only[Bp,Dr] at *;omega
 have d:=dR.mp (e.nodup_iff.mpr aj);have N:g∉UG:=λk=>d.2.2 g k g (dT _<|.head _) rfl;refine⟨g,U,v,UG,q,y,B.length,s,J,d.1,λf l=>e.mem_iff.mp<|fl _ l,λQ VD b UM D m=>?_⟩;let⟨x,A,Vo⟩:=M Q VD v b m.tup (λo p n c=>m.keep o n c λk=>d.2.2 o k o (dT _<|.tail _ p) rfl) D;rw[FY s]at A;have own:b2 Q (.dY<|H.set i VD) (.ref g) (g::x):=⟨g,U,x,rfl,m.keep g _ y N,A,rfl⟩;have O:bx Q (w.set a<|Z .cQ) z G:=I.mono m.tup λo p n c=>m.keep o n c λk=>d.2.2 o k o (fl _ p) rfl;let⟨R,S,C,E⟩:=O.back own q;rw[pH]at C;have u:a9 h P h (UG++(G++g::j)):=a9.perm aj e;have T:=u.trans (UG:=G++g::j) m λf l=>L.chg f (e.mem_iff.mp<|dT _ l);refine⟨R,C,T.less (aN:=S) ?_⟩;rw[Dq]at E Vo ⊢;intro f;have:=E f;have:=Vo f;simp only[Bp,Dr] at *;omega
def Au{U_:Type}{E:List U_}{v:U_}(e:E[E.length-1]?=Z v):eH E (-1)=Z v:=by
 have a:=(eV.mp e).1;unfold eH jC;rw[aL ∅,aK ⋯];show E[_]?=_;rw[<-e];congr 1;lia
section
variable{b:aO}
@[simp] def ux:ag->List ag->Option (ag×ag):=λo H=>match o,H with
 |.lst [],[.lst I]=>Z (.im .aS,.dY [.lst I])
 |.dY E,[.lst I]=>if E.length<100000 then Z (.im .aS,.dY<|E++[.lst I]) else Y
 |_,_=>Y
theorem c0.H6{h:ax}{r:ag}{v:ak}{UG:List ah}(D:b2 h r v UG):∀{H:List ag}{U:List ak}{UU:List ah},c0 h H U UU->c0 h (H++[r]) (U++[v]) (UU++UG)
 |[],_,_,e=>by
  let⟨rfl,rfl⟩:=e;exact⟨v,[],UG,[],rfl,D,⟨rfl,rfl⟩,by rw[b8];rfl⟩
 |f::H,_,_,e=>by
  let⟨J,j,U3,G,rfl,y,B,rfl⟩:=e;exact⟨J,j++[v],U3,G++UG,rfl,y,c0.H6 D B,by rw[bq]⟩
def LB{o:ag}{f:ak}{UG:List ah}(e:b2 h o f UG)(c:o=.dY H\/(o=.lst []/\H=[])):∃g U0 UU,f=.ref g/\h g=Z (.lst U0)/\c0 h H U0 UU/\UG=g::UU:=by
 rcases c with rfl|⟨rfl,rfl⟩
 ·exact e
 ·let⟨g,U0,rfl,y,B,rfl⟩:=e;cases B;exact⟨g,[],[],rfl,y,⟨rfl,rfl⟩,rfl⟩
def Jy:oB b "list.append" ux:=by
 intro R m z h f U v Va A l t u w;let⟨o,H,j,D,UG,UM,E,bK,aj,c,p⟩:=w;have G:∃a I,(o=.dY a\/(o=.lst []/\a=[]))/\H=[.lst I]/\a.length<100000/\j=.im .aS/\D=.dY (a++[.lst I]):=by
  unfold ux at c;split at c
  ·cases c;exact⟨[],_,.inr ⟨rfl,rfl⟩,rfl,by decide,rfl,rfl⟩
  ·split at c
   ·rename_i e;cases c;exact⟨_,_,.inl rfl,rfl,e,rfl,rfl⟩
   ·cases c
  ·cases c
 let⟨a,I,F,rfl,e,rfl,rfl⟩:=G;let⟨g,U0,UU,rfl,y,B,rfl⟩:=LB E F;let⟨x,C,i,N,rfl,J,⟨rfl,rfl⟩,rfl⟩:=bK;rw[b8]at aj p;have VW:fZ h g:=⟨_,y,(λ_ c=>by cases c),(λ_ W c=>by cases c)⟩;have VT:=dR.mp aj;have L:=(gC.mp VT.1).1;have M:g∉i:=λk=>VT.2.2 g (.head _) g k rfl;have s:=(a9.chg (Vk:=.lst (U0++[x])) (P:=[g]) (U3:=[]) (.head _) VW g4<|λf q=>nomatch q).tup;refine G7 R m z h _ _ v Va A l t u ⟨g,U0,x,rfl,rfl,y,vD (by rw[<-B.length];exact e),p .aS _ [] (g::(UU++i)) ⟨rfl,rfl⟩ ⟨g,_,UU++i,rfl,dp,?_,rfl⟩<|a9.chg (.head _) VW aj λf q=>q⟩;exact c0.H6 (J.mono s λd r n c=>by rw[b0 (λk=>M (by rw[<-k];exact r))];exact c) (B.mono s λd r n c=>by rw[b0 (λk=>L (by rw[<-k];exact r))];exact c)
def Ox(e:b.A.units+20<bR):dH b (d1 .NotEq) (λf x h A=>(∃Vz Vy r,eE h Vz f/\eE h Vy x/\jd Vz Vy=Z r/\∀v Q UG,bV h Q->b2 Q r v UG->UG.Nodup->(∀g∈UG,h g=Y)->A v Q)\/
  (∃g d E U0,f=.ref g/\x=.ref d/\h g=Z (.lst E)/\h d=Z (.lst U0)/\E.length≠U0.length/\A (.aE X) h)):=by
 intro R m z h f x v J A l a c i;rcases i with k|⟨g,d,E,U0,rfl,rfl,y,B,j,p⟩
 ·exact pq e R m z h f x v J A l a c k
 ·cases a;cases c;let⟨s,n,o,W⟩:=l.list (c9.of y);let⟨t,q,VI,W⟩:=l.list (c9.of B);refine Cn (A:=b.A) o.isList VI.isList (by rw[cJ,cJ,<-n.length,<-q.length];simpa using j) ⋯ b.prog b.w _ _ ⟨.aE _,h,l,rfl,p⟩
@[simp] def te(a:Nat):ay Bool:=λw=>match w[a]? with
 |some (Z<|.lst [])=>Z (av,w)
 |some (Z<|.dY H)=>if H=[] then Y else Z (X,w)
 |_=>Y
def Nw{l:Pos}(q:b.A.units+20<bR)(r:bD b n (iH a))(s:oD .NotEq (.List [] Wh)=av:=by rfl):
  hW b (.Compare n [.NotEq] [.List [] Wh] l) (te a):=by
 refine se (Je (Ox q) r (BP uk) s) λz h A t=>?_;let⟨w,P,o,U4,L,aj,d,p⟩:=t;unfold te at d;split at d
 ·rename_i e;cases d;let⟨v,x,G,f,Vc,C,Vr⟩:=L.out e;refine⟨v,f,k3 (show 0<=100000 by decide),λu i=>.inl ?_⟩;have m:bV h (upd h u<|.lst []):=(bV.refl h).upd i;refine⟨.lst [],.lst [],_,⟨_,Vc.mono m.tupS λg W n c=>m g n c⟩,⟨[u],u,[],rfl,dp,rfl,rfl⟩,rfl,λv Q UG UI D F W=>?_⟩;let⟨D,rfl⟩:=D;have j:bV h Q:=λg n c=>UI g n (m g n c);exact⟨_,D,p Q P (L.mono j.tupS λg W n c=>j g n c)<|(a9.perm aj<|List.Perm.refl P).same j⟩
 ·rename_i H e;split at d
  ·cases d
  ·rename_i ne;cases d;let⟨v,x,G,f,⟨g,E,UU,rfl,y,B,rfl⟩,C,Vr⟩:=L.out e;refine⟨_,f,k3 (show 0<=100000 by decide),λu i=>.inr ?_⟩;have m:bV h (upd h u<|.lst []):=(bV.refl h).upd i;refine⟨g,u,E,[],rfl,rfl,m _ _ y,dp,?_,_,rfl,p _ P (L.mono m.tupS λg W n c=>m g n c)<|(a9.perm aj<|List.Perm.refl P).same m⟩;rw[<-B.length];intro k;exact ne (List.length_eq_zero_iff.mp k)
 ·cases d
def mM(H:List ag):Option (List V):=(match H[H.length-1]? with
 |some (.lst I)=>Z I
 |_=>Y)
def G1{I:List V}(e:mM H=Z I):H[H.length-1]?=Z (.lst I):=by
 unfold mM at e;split at e
 ·rename_i c;cases e;exact c
 ·cases e
def wR(b:aO)(d:bh):Prop:=(∃C,bD b d C/\∀z h A,A (.int<|-1) h->C z h A)
def y8{i}{u:Pos}:wR b (.UnaryOp .USub (.Constant (.int 1) i u) UZ):=⟨_,Cr Il mT,λz h A p=>⟨_,rfl,p⟩⟩
@[simp] def rg(a:Nat):ay ag:=λw=>match w[a]? with
 |some (Z<|.dY H)=>(mM H).bind λI=>(I.getLast?).map λr=>(.im r,w)
 |_=>Y
def S8{d o:bh}(i:bD b n (iH a))(e:wR b d)(f:wR b o)(ar:mD d:=by exact λ_ W=>rfl)(k:mD o:=by exact λ_ W=>rfl):b5 b (.Subscript (.Subscript n d UZ) o Wh) (rg a):=by
 let⟨Q,e,l⟩:=e;let⟨R,f,m⟩:=f;refine eh (sH q2 (sH q2 i e ar) f k) λz h A q=>?_;let⟨w,P,j,U4,L,aj,c,p⟩:=q;unfold rg at c;split at c
 ·rename_i H s;let⟨I,y,B⟩:=bN.mp c;let⟨r,t,u⟩:=cm.mp B;cases u;have x:=G1 y;let⟨g,U,v,UG,C,Vf,Vt,E,F,W⟩:=HX L aj s x;let⟨c5,G,rfl,J,M,rfl⟩:=F;let⟨D,N,O,W⟩:=M.last t;refine⟨_,C,l z h _ ⟨g,U,-1,_,rfl,rfl,c9.of Vf,Au (by rw[<-Vt];exact E),m z h _ ⟨c5,G,-1,D,rfl,rfl,c9.of J,Au N,?_⟩⟩⟩;exact p D h P [] L ⟨O,rfl⟩ (a9.perm aj (by rw[b8]))
 ·cases c
@[simp] def yk(a:Nat)(cj:ag->List ag->Option (ag×ag))(b:a4->Option V):ay ag:=λw=>match w[a]?,b w with
 |some (Z<|.dY H),Z f=>(mM H).bind λI=>match cj (.lst I) [.im f] with
  |some (.im j,.lst c)=>Z (.im j,w.set a<|Z<|.dY<|H.set (H.length-1)<|.lst c)
  |_=>Y
 |_,_=>Y
def Q_{name:aC}{id:String}{l:a4->Option V}{cj:ag->List ag->Option (ag×ag)}{q:bh}{V6 M:Pos}(VU:nS "list" name id)(bP:pC (.builtin id)=pure (.type "method_descriptor"))(t:oB b id cj)(u:bD b n (iH a))(e:wR b q)(i:BW b c l)(ar:mD q:=by exact λ_ W=>rfl)(x:mY (.Subscript n q UZ) name b.env (b7 (.Subscript n q UZ) b.env)=b7 (.Subscript n q UZ) b.env:=by rfl)(C:((e5 M<|bS [c] b.env).all (λf=>!f.1)&&(uc M<|uB [] b.env).all (λf=>f.1.isSome)
   && decide ([c].length+([]:List md).length+(if ([]:List md).isEmpty then 0 else 1)<30))=X:=by rfl)(D:(V6.endLine==M.line)=X:=by rfl)(o:bS [c] b.env=(av,b7 c b.env)::bS [] b.env:=by rfl)(E:(e5 M<|bS [] b.env).any (·.1)=av:=by rfl):
  b5 b (.Call (.Attribute (.Subscript n q UZ) name V6) [c] [] M) (yk a cj l):=by
 let⟨Vq,e,G⟩:=e;let⟨VC,i,J⟩:=i;refine eh (Et F.plainAttrs_list VU bP t (sH q2 u e ar) (vh i uk o) x C D o E) λz h A N=>?_;let⟨w,P,j,U4,L,aj,d,p⟩:=N;unfold yk at d;split at d
 ·rename_i H f O R;let⟨I,y,B⟩:=bN.mp d;split at B
  ·rename_i VA r S;cases B;have T:=G1 y;let⟨g,U,v,UG,al,Vf,Vt,am,s,an,bm,ap⟩:=HX L aj O T;let⟨c5,as,rfl,a1,bn,rfl⟩:=(show b2 h (.lst I) v UG from s);refine⟨_,al,G z h _ ⟨g,U,-1,_,rfl,rfl,c9.of Vf,Au (by rw[<-Vt];exact am),(show lp b.K "list" (.ref c5) h from .inl ⟨rfl,as,c9.of a1⟩),J w z h P _ _ L R λv a2=>?_⟩⟩;refine⟨.lst I,[.im f],_,.lst r,[c5],[],s,⟨v,[],[],[],rfl,⟨a2,rfl⟩,⟨rfl,rfl⟩,rfl⟩,by rw[b8];exact an,S,λbd Q bs bU k be m=>?_⟩;let⟨k,rfl⟩:=k;rw[b8]at m;let⟨Vm,bi,VX⟩:=ap Q (.lst r) bU [] be (by rw[b8];exact m);exact p bd Q Vm [] bi ⟨k,rfl⟩ VX
  ·cases B
 ·cases d
@[simp] def tn:f6:=λg d=>match g,d with
 |.im (.aT H),.im (.int a)=>(eH H a).map .im
 |_,_=>Y
def OP:iv b (λf x h A=>∃Vz Vy r,eE h Vz f/\eE h Vy x/\tn Vz Vy=Z r/\∀v Q UG,bV h Q->b2 Q r v UG->UG.Nodup->(∀g∈UG,h g=Y)->A v Q):=by
 refine q2.imp λf x h A d=>?_;let⟨Vz,Vy,r,e,j,c,p⟩:=d;unfold tn at c;split at c
 ·let⟨VD,k,l⟩:=cm.mp c;cases l;let⟨u,E,n,rfl,y,B⟩:=e.i;let⟨v,m,o⟩:=vq B k;exact⟨u,E,_,v,rfl,j.i,.inl<|.inr ⟨n,y⟩,m,cu.i p o⟩
 ·cases c
@[simp] def vJ:i5:=λH=>match H with
 |[.im (.aT f)]=>Z (.im<|.int f.length)
 |_=>Y
def Tr:hI b (.builtin "len") vJ:=by
 refine EL.imp λE h A d=>?_;let⟨H,r,f,c,p⟩:=d;unfold vJ at c;split at c
 ·cases c;let⟨v,rfl,e⟩:=gM f;let⟨u,E,n,rfl,y,B⟩:=e.i;exact⟨u,E,rfl,.inl<|.inl<|.inr ⟨n,y⟩,by rw[<-B.length];exact cu.i p rfl⟩
 ·cases c
def p4:List ag->Option (List<|List V)
 |[]=>Z []
 |.lst I::j=>(p4 j).map (I::·)
 |_::_=>Y
theorem II:∀{H:List ag}{T:List (List V)},p4 H=Z T->H=T.map .lst
 |[],T,e=>by cases e;rfl
 |r::j,T,e=>by
  cases r<;>first|(cases e;done)|skip
  let⟨a,y,rfl⟩:=cm.mp e;rw[II y];rfl
theorem CE{R:List (ah×aX)}{z:L2.a7}{m:ai}:∀{T:List (List V)}{E:List ak}{UU:List ah}{h:ax},aF b R z h m->c0 h (T.map .lst) E UU->UU.Nodup->
  ∃Q,aF b R z Q m/\bI Q (T.map .aT) E/\e2 h Q/\(∀d,d∉UU->Q d=h d)/\∀d n,h d=Z n->∃Vk,Q d=Z Vk
 |[],E,UU,h,l,e,aj=>by
  let⟨rfl,rfl⟩:=e;exact⟨h,l,rfl,e2.of (λ_ W c=>c)<|λ_ W W c=>c,λ_ W=>rfl,λd n c=>⟨n,c⟩⟩
 |I::T,E,UU,h,l,e,aj=>by
  let⟨v,j,U3,G,rfl,⟨g,U0,rfl,Vf,Vt,rfl⟩,B,rfl⟩:=e;let⟨k,UW,s,p,f⟩:=l.aY g _ Vf;have o:=gC.mp aj;have q:aF b R z (upd h g<|.b6 {cls:=.type "list",data:=.seq UW.toArray s} (.lst U0)) m:=l.write (S:=m.heap) (Vd:=m.toks) (c:=g) (by rw[Vf];trivial) (.inl rfl) (λd J W c=>c) ⟨_,f⟩ ⟨f,k,UW,s,p,f⟩;have eF:=tB (Vl:={cls:=.type "list",data:=.seq UW.toArray s}) Vf (λ_ c=>by cases c) (λ_ W c=>by cases c);have ne:∀d∈G,d≠g:=λd a k=>o.1 (by rw[<-k];exact a);let⟨Q,r,is,i,t,VJ⟩:=CE q (B.mono eF λd a n c=>by rw[b0 (ne d a)];exact c) o.2;refine⟨Q,r,⟨.ref g,j,rfl,⟨g,U0,_,rfl,i.b6 g _ _ dp,(Vt.mono eF.tup).mono i.tup⟩,is⟩,eF.trans i,λd a=>?_,λd n c=>?_⟩
  ·rw[t d λk=>a<|.tail _ k,b0 λk=>a (by rw[k];exact .head _)]
  ·by_cases a:d=g
   ·rw[a];exact VJ g _ dp
   ·exact VJ d n (by rw[b0 a];exact c)
@[simp] def vC(a:Nat)(F:ay ag):ay ag:=λw=>match w[a]? with
 |some (Z<|.dY H)=>(p4 H).bind λT=>F (w.set a<|Z<|.c2<|T.map .aT)
 |_=>F w
def Ju{F:ay ag}(a:Nat)(e:b5 b c F):b5 b c (vC a F):=by
 intro R m z h A l am;let⟨w,P,j,U4,L,aj,q,p⟩:=am;unfold vC at q;split at q
 ·rename_i H an;let⟨T,y,B⟩:=bN.mp q;have:=II y;subst this;let⟨v0,ca,G,ap,⟨g,E,UU,rfl,Vf,Vt,rfl⟩,as,Vr⟩:=L.out an;have r:=dR.mp (Vr.nodup_iff.mpr aj);have I:=gC.mp r.2.1;let⟨UP,M,is,a1,N,VJ⟩:=CE l Vt I.2;have t:UP g=Z (.lst E):=by rw[N g I.1];exact Vf
  let⟨k,UW,s,a2,x⟩:=M.aY g _ t;have bd:aF b R z (upd UP g<|.b6 {cls:=.type "list",data:=.seq UW.toArray s} (.lst E)) m:=M.write (S:=m.heap) (Vd:=m.toks) (c:=g) (by rw[t];trivial) (.inl rfl) (λd J W c=>c) ⟨_,x⟩ ⟨x,k,UW,s,a2,x⟩;have eF:=tB (Vl:={cls:=.type "list",data:=.seq UW.toArray s}) t (λ_ c=>by cases c) (λ_ W c=>by cases c);have O:=a1.trans eF;have keep:∀d,d∉g::UU->(upd UP g<|.b6 {cls:=.type "list",data:=.seq UW.toArray s} (.lst E)) d=h d:=λd i=>by
   rw[b0 λk=>i (by rw[k];exact .head _),N d λk=>i<|.tail _ k]
  have be:=as.mono O λd i n c=>(keep d λk=>r.2.2 d i d k rfl).trans c;have own:b2 (upd UP g<|.b6 {cls:=.type "list",data:=.seq UW.toArray s} (.lst E)) (.c2<|T.map .aT) (.ref g) []:=⟨g,E,_,rfl,dp,is.mono eF.tup,rfl⟩;let⟨bi,bm,Q,U⟩:=be.back own ap;rw[pH]at Q;rw[b8]at U;have u:a9 h P (upd UP g<|.b6 {cls:=.type "list",data:=.seq UW.toArray s} (.lst E)) G:=by
   refine⟨λd n c i=>(keep d λk=>i<|Vr.mem_iff.mp<|dT _ k).trans c,λd i=>.inl<|Vr.mem_iff.mp<|fl _ i,r.1,O,λd n c=>?_⟩;by_cases i:d=g
   ·exact⟨_,by rw[i];exact dp⟩
   ·let⟨Vk,bn⟩:=VJ d n c;exact⟨Vk,by rw[b0 i];exact bn⟩
  have al:=u.less (aN:=bm) U;have D:bD b c (jF F):=e;refine D R m z _ A bd ⟨_,bi,j,U4,Q,al.aj,B,λv bs Vm UG g d o=>p v bs Vm UG g d (by
   have C:=a9.trans (UG:=[]) (by rw[b8];exact al) o (λf bv=>by cases bv);rw[b8]at C;exact C)⟩
 ·have D:bD b c (jF F):=e;exact D R m z h A l ⟨w,P,j,U4,L,aj,q,p⟩
end
end L2
namespace L2
open Spec PyProof.Rows
variable{F:bO}{Vg:List Nat}{s q:Nat}{b:ab->Prop}{U1 Vb:List aC}{fd:gG}{N:ah}{L:cM}{VN f:aC}
def BI(l:eO)(dK E:aC):Bool:=(l.kind==.function && !l.isCoroutine && !l.isGenerator && !(dK==E)&&l.names.lookup dK==Z .local&&l.names.lookup E==Z .free&&l.names.all (λf=>f.2 != .cell)&&l.names.all (λf=>f.2 != .free || f.1==E))
def J9{l:eO}{dK E:aC}(e:BI l dK E=X):AQ l dK E:=by
 unfold BI at e;simp only[cS,kg,bne_iff_ne,ne_eq,ui,m5,nL,xR]at e;let⟨⟨⟨⟨⟨⟨⟨y,B⟩,a⟩,b⟩,c⟩,d⟩,g⟩,h⟩:=e;exact⟨y,B,a,b,c,d,g,λf i j=>(h f i).resolve_left λk=>k j⟩
section
variable{UT:bC}{D:bc}{UK:Φ}{aM:aC->Option ab}{UY:aZ}
def fT.PB{VX:jR}(P:fT UK f VN L N fd)(c:∀G V2 y k a,a.code=k->UK.lookup N=Z ⟨G,V2,.func a,y⟩->b k)(UM:ks Vb U1 (dm L))(len:∀U h A UH,VX U h A UH->U.length=U1.length)(d:∀(k:ab) (O:bw) (VF:List eu) (m:ai) (h:ax) (U:List ak) (A:cL) (UH:fO),b k->dB q (O.deeper<|h3 VN (dm L) m.heap.objs.size N k)->VX U h A UH->
   ∃C,hC (ja gB UT D UK aM UY Vb VN (dm L) N k O VF m h UH).jN (fL L) C/\C {bz:=λ_ Q=>A .aS Q,a5:=A} (start Vb U) h):h5 UT D UK aM UY gB (q+1) N fd U1 VX:=by
 let⟨G,V2,cv,i,Vr,w,k,ct,y,rfl,lk,g⟩:=P.ex;refine Hz lk g UM len λO VF m h U A UH UQ j=>?_;let⟨C,e,p⟩:=d k O VF m h U A UH (c _ _ _ k _ rfl lk) UQ j;exact⟨C,e.jN,p⟩
def Qt(P:fT UK f VN L N fd)(E:∀G V2 y k r,r.code=k->UK.lookup N=Z ⟨G,V2,.func r,y⟩->b k)(UM:ks Vb U1 (dm L))(I:U1.length=s)(am:∀a∈Vg,a<s)(J:∀(k:ab) (O:bw) (VF:List eu) (m:ai) (h:ax) (UH:fO),b k->dB q (O.deeper<|h3 VN (dm L) m.heap.objs.size N k)->h7 (ja gB UT D UK aM UY Vb VN (dm L) N k O VF m h UH).jN Vg (fL L) F):
  h5 UT D UK aM UY gB (q+1) N fd U1 (jY s<|dF s Vb.length Vg F):=by
 refine P.PB E UM (λU h A UH e=>e.1.trans I.symm) (λk O VF m h U A UH M UQ e=>⟨_,J k O VF m h UH M UQ,?_⟩);let⟨u,H,o,j,l,Vc,aj,d,p⟩:=e;have R:H.length=s:=Vc.length.trans u;unfold dF at d;rw[aK R]at d;have L:=w0 (t:=Vb.length-s) Vc;have T:start Vb U=U.map Z++List.replicate (Vb.length-s) Y:=by unfold start;rw[u]
 rw[T];have w:∀{g:a7}{Q:ax}{Vm:List ah}{U4:a4}{v:ak}{UG:List ah},ia Vg H U4 0=l->dt Vg (U.map Z++List.replicate (Vb.length-s) Y) g->bx Q U4 g Vm->b2 Q j v UG->a9 h o Q (Vm++UG)->A v Q:=λ{g Q Vm U4 v UG} S VK n x UI=>by
  let⟨bU,UU,z,al⟩:=uD (Vg:=Vg) (a:=0) UI.tup Vc n λi v B C=>by
   rw[xM]at B;rw[VK.2 i B,mc (by rw[bl];exact (eV.mp C).1),dU,C];rfl
  rw[S]at z;refine p v Q UG bU x z (UI.less (aN:=UU) ?_);rw[bq];exact (dO UG al).trans c8
 split at d
 ·rename_i VA U4 c;cases d;exact⟨_,o,.a5 j,U4,L,aj,c,λv g Q Vm UG VK n x UI=>w rfl VK n x UI⟩
 ·rename_i U4 c;cases d;exact⟨_,o,.bz,U4,L,aj,c,λg Q Vm VK n UI=>w rfl VK n ⟨rfl,rfl⟩ (by rw[b8];exact UI)⟩
 ·cases d
def SS(Vb:List aC)(e:(Θ UK f).isSome=X)(j:d4 UK f L N)(P:ey UK aM f L N U1)(g:Vb.Nodup->∀(k:ab) (O:bw) (VF:List eu) (m:ai) (h:ax) (UH:fO),(∃V0 du,Θ UK f=Z (V0,du)/\k=.ref V0)->dB q (O.deeper<|h3 f (dm L) m.heap.objs.size N k)->h7 (ja gB UT D UK aM UY Vb f (dm L) N k O VF m h UH).jN Vg (fL L) F)(UM:ks Vb U1 (dm L):=by exact Bk)(i:U1.length=s:=by rfl)(l:∀a∈Vg,a<s:=by decide):jZ UT D UK aM UY (q+1) f L N U1 s (dF s Vb.length Vg F):=by
 let⟨fd,c,d,t⟩:=P;let⟨U,U,U8⟩:=j;let⟨⟨V0,du⟩,bP⟩:=rH.mp e;refine⟨fd,c,d,t,Qt (b:=λk=>∃V0 du,Θ UK f=Z (V0,du)/\k=.ref V0) c (λG V2 y k r n lk=>⟨V0,du,bP,?_⟩) UM i l<|g UM.aj⟩;unfold Θ at bP;rw[U8]at bP;dsimp only at bP;rw[lk]at bP;dsimp only at bP;split at bP
 ·rename_i o p;split at bP
  ·split at bP
   ·cases bP;exact n.symm.trans p
   ·cases bP
  ·cases bP
 ·cases bP
end
end L2
namespace G
open L2
variable{b aa:List a0}{UM VJ:List aU}{U5:List bJ}{F:ay (List bJ)}{Vu Vp VE:Option ag}{UG:Option (List V×a4)}{Vi UR aN w:a4}{Vv j:List V}{c:ay ag}{Ve:fh}{own s:Nat}{q t:Int}{U8:List Int}{e:ag}{f r:a0}{o:ay Bool}{d:Bool}
def la:ay ag:=((cV<|aq (ae<|aD bH (au 0)<|ae<|cH vInt<|aq (ae<|aD e3 (au 1)<|ae<|az<|.str "down") aG)<|aq (au 0) aG))
def rq:bO:=((bE (cD 4<|cV<|aq (ae<|aD jT (ae<|aD bH (au 3)<|ae<|az<|.int 0)<|ae<|cH vInt<|aq (ae<|aD e3 (au 1)<|ae<|az<|.str "down") aG)<|aq (ae<|aD jT (ae<|aD bH (au 3)<|ae<|az<|.int 1)<|ae<|cH vInt<|aq (ae<|aD e3 (au 1)<|ae<|az<|.str "right") aG) aG)<|dP (gf (te 2)<|b1<|aD e3 (ae<|rg 2)<|au 4) (j_<|yk 2 kb<|uK 3)<|j_<|iy lE 2 ux<|aq (ae<|f_<|aq (au 3) aG) aG))
def y_:ay ag:=((cV<|aq (au 1)<|aq (ae<|aD tn (au 0)<|ae<|az<|.int 0)<|aq (ae<|cH vJ<|aq (au 0) aG) aG))
def C7:bO:=((bE (cD 2<|f_ aG)<|bE (g8 (dC<|ae<|q6 1 G.la<|aq (au 0) aG) (bG 3) G.rq)<|dd<|vC 2<|dh 1 [1] (dC<|au 2) (bG 0) et G.y_))
def sC:dA:=(dF 2 5 [0,1] C7)
def E6:bO:=((dd<|cH iK<|aq (ae<|aD dJ (ae<|bL 2 G.sC<|aq (au 0)<|aq (ae<|az<|.str "down") aG)<|ae<|bL 2 G.sC<|aq (au 0)<|aq (ae<|az<|.str "right") aG) aG))
def vI:dA:=(dF 1 1 [0] E6)
def jv(d:Bool)(o:a0):V:=(.tup [.int (dq d o).1,aH o])
def Qe(d:Bool)(o:a0):la [Z (.im<|aH o),Z<|.im<|bK d]=Z (.im<|jv d o,[Z (.im<|aH o),Z<|.im<|bK d]):=by cases d<;>rfl
theorem F_(d:Bool):∀U:List a0,mO la (bK d) (U.map aH)=Z (U.map<|jv d)
 |[]=>rfl
 |o::U=>by
  rw[cw,mO,Qe];show (mO la (bK d)<|U.map aH).map (jv d o::·)=_;rw[F_ d U];rfl
def Qg{o:a0}(e:jv d o=jv d r):o=r:=by
 unfold jv at e;simp only[V.tup.injEq,x1,and_true]at e;exact Aa e.2
def L0{o:a0}(e:bp (jv d o) (jv d r)=X):eN d o r:=by
 unfold jv aH at e;rw[bp,eK]at e;unfold eN;split at e
 ·rename_i c;have a:(dq d o).1=(dq d r).1:=V.int.inj ((V.beq_iff _ _).mp c);refine .inr ⟨a,?_⟩;rw[eK]at e;split at e
  ·rw[eK]at e;cases e
  ·rw[bp,eK]at e;split at e
   ·rename_i b;have b:o.1=r.1:=V.int.inj ((V.beq_iff _ _).mp b);rw[eK]at e;split at e
    ·rw[eK]at e;cases e
    ·rw[bp]at e;have e:=fY e;cases d
     ·exact e
     ·have a:o.2=r.2:=a;lia
   ·rw[bp]at e;have e:=fY e;cases d
    ·have a:o.1=r.1:=a;lia
    ·exact e
 ·rw[bp]at e;exact .inl (fY e)
def TJ(aj:aa.Nodup)(b:aa.length<=1000):ie (aa.map<|jv d):=by
 refine⟨⟨by rw[bl];exact b,λf a x e=>?_,kn (λf W x W c=>Qg c) aj⟩,.inl λf a=>?_⟩
 ·let⟨J,W,rfl⟩:=da.mp a;let⟨v,W,rfl⟩:=da.mp e;rfl
 ·let⟨o,g,rfl⟩:=da.mp a;rfl
def MJ(d:Bool){aa:List a0}(aj:aa.Nodup)(a:aa.length<=1000):∃u:List a0,uj la (bK d) [a3 aa]=Z (cn u)/\u.Perm aa/\u.Pairwise (eN d):=by
 have n:=TJ (d:=d) aj a;let⟨u,y,B⟩:=GG (jy<|aa.map<|jv d) aa rfl;refine⟨u,?_,y,?_⟩
 ·show (mO la (bK d)<|aa.map aH).bind (λM=>sk M<|aa.map aH)=_;rw[F_];show sk (aa.map<|jv d) (aa.map aH)=_;unfold sk;rw[aK (n3.mpr n),aK (by rw[e7];rfl),B,e7];rfl
 ·have:=q5 n.ord.aj n.ord.hL;rw[B]at this;exact (nU.mp this).imp λe=>L0 e
def fc(VJ:List aU):List ag:=(VJ.reverse.map λj=>.lst ((cls j).map aH))
def Av(VJ:List aU):ag:=(if VJ=[] then .lst [] else .dY (fc VJ))
def nt(j:aU)(C:List aU):Av (j::C)=.dY (fc (j::C)):=aL ↥0
def o9(j:aU)(C:List aU):fc (j::C)=fc C++[.lst ((cls j).map aH)]:=by
 unfold fc;rw[List.reverse_cons,gz];rfl
def BN(j:aU)(C:List aU):mM (fc (j::C))=Z ((cls j).map aH):=by
 unfold mM;rw[o9,dW];show (match (fc C++[ag.lst ((cls j).map aH)])[(fc C).length+1-1]? with|some (.lst I)=>Z I|_=>Y)=_;rw[ys,kH<|bb _,vx];rfl
def BV(d:Bool)(e:a0)(s:Nat):cls (d,e,s+1)=cls (d,e,s)++[bt d e (s:Int)]:=by
 unfold cls;rw[List.range_succ,gz];rfl
def NK(d:Bool)(e:a0){s:Nat}(a:1<=s):((cls (d,e,s)).map aH).getLast?=Z (aH<|bt d e<|(s:Int)-1):=by
 obtain⟨q,rfl⟩:∃q,s=q+1:=⟨s-1,⋯⟩;rw[BV,gz,cw,yO,tj,xb];rw[show ((q+1:Nat):Int)-1=(q:Int) by lia];rfl
abbrev eS(aa:List a0)(d:Bool)(VJ:List aU)(Vu VE:Option ag):a4:=[Z (a3 aa),Z<|.im<|bK d,Z<|Av VJ,Vu,VE]
def Q9(aa:List a0)(d:Bool)(VJ:List aU)(f:a0)(VE:Option ag):cD 4 (cV<|aq (ae<|aD jT (ae<|aD bH (au 3)<|ae<|az<|.int 0)<|ae<|cH vInt<|aq (ae<|aD e3 (au 1)<|ae<|az<|.str "down") aG)<|aq (ae<|aD jT (ae<|aD bH (au 3)<|ae<|az<|.int 1)<|ae<|cH vInt<|aq (ae<|aD e3 (au 1)<|ae<|az<|.str "right") aG) aG) (eS aa d VJ (Z<|.im<|aH f) VE)=
  Z (.bz,eS aa d VJ (Z<|.im<|aH f)<|Z<|.im<|aH<|bt d f<|-1):=by
 have c:∀a i:Int,(a,i)=bt d f (-1)->(V.tup [.int a,.int i])=aH (bt d f<|-1):=λa i e=>by rw[<-e];rfl
 cases d
 ·have:=c (f.1-0) (f.2-1) (vz (by show f.1-0=f.1;lia) (by show f.2-1=f.2 + -1;lia));rw[<-this];rfl
 ·have:=c (f.1-1) (f.2-0) (vz (by show f.1-1=f.1 + -1;lia) (by show f.2-0=f.2;lia));rw[<-this];rfl
def Qy(g o:a0):e3 (.im<|aH g) (.im<|aH o)=Z (.im<|.aE<|decide (g=o)):=by
 show (if (V.bQ 8 (aH g)&&V.bQ 8 (aH o))=X then Z (ag.im<|.aE<|ck (aH g)<|aH o) else Y)=_;rw[aK (show (V.bQ 8 (aH g)&&V.bQ 8 (aH o))=X from rfl),r4]
def Sh(g:∀j∈VJ,j.1=d/\1<=j.2.2)(p:VJ.length<=1000)(h:∀j∈VJ,j.2.2<=1000):
  rq (eS aa d VJ (Z<|.im<|aH f) VE)=Z (.bz,eS aa d (kl d VJ f) (Z<|.im<|aH f)<|Z<|.im<|aH<|bt d f<|-1):=by
 unfold rq;refine bM (Q9 aa d VJ f VE) ?_;cases VJ with
 |nil=>
  exact gp (wA rfl) (n5 (pD rfl rfl (b_ (bg<|Fe (b_ rfl rfl) rfl (fR rfl) rfl) rfl) rfl rfl rfl (by
   show _=eS aa d [(d,f,1)] _ _;have:cls (d,f,1)=[f]:=by rw[show cls (d,f,1)=[bt d f 0] from rfl,jt]
   show [Z (a3 aa),Z<|.im<|bK d,Z<|ag.dY [.lst [aH f]],_,_]=_;unfold eS;rw[nt,o9,this];rfl)))
 |cons j C=>
  let⟨a,e,s⟩:=j;let⟨rfl,i⟩:=g (a,e,s) (.head _);have q:=h (a,e,s) (.head _);have k:rg 2 (eS aa a ((a,e,s)::C) (Z<|.im<|aH f)<|Z<|.im<|aH<|bt a f<|-1)=Z (.im<|aH<|bt a e<|(s:Int)-1,eS aa a ((a,e,s)::C) (Z<|.im<|aH f)<|Z<|.im<|aH<|bt a f<|-1):=by
   unfold eS;rw[nt];show (mM<|fc ((a,e,s)::C)).bind _=_;rw[BN];show (((cls (a,e,s)).map aH).getLast?).map _=_;rw[NK _ _ i];rfl
  have ne:te 2 (eS aa a ((a,e,s)::C) (Z<|.im<|aH f)<|Z<|.im<|aH<|bt a f<|-1)=Z (X,eS aa a ((a,e,s)::C) (Z<|.im<|aH f)<|Z<|.im<|aH<|bt a f<|-1):=by
   unfold eS;rw[nt];show (if fc ((a,e,s)::C)=[] then Y else Z (X,_))=_;rw[aL (by rw[o9];simp)]
  have cond:gf (te 2) (b1<|aD e3 (ae<|rg 2)<|au 4) (eS aa a ((a,e,s)::C) (Z<|.im<|aH f)<|Z<|.im<|aH<|bt a f<|-1)=Z (decide (bt a e ((s:Int)-1)=bt a f (-1)),eS aa a ((a,e,s)::C) (Z<|.im<|aH f)<|Z<|.im<|aH<|bt a f<|-1):=o5 ne (eG<|cg (bg k) rfl rfl rfl<|Qy (bt a e<|(s:Int)-1)<|bt a f<|-1);by_cases b:bt a e ((s:Int)-1)=bt a f (-1)
  ·rw[dQ b]at cond;have c:kl a ((a,e,s)::C) f=(a,e,s+1)::C:=aK b;rw[c];refine j4 cond (n5 (r:=.im .aS) ?_);have Vs:f=bt a e (s:Int):=by
    have B:f=bt a (bt a f<|-1) 1:=by rw[pk];exact (jt a f).symm
    rw[B,<-b];exact wj ⋯
   unfold eS;rw[nt,nt];show (mM<|fc ((a,e,s)::C)).bind _=_;rw[BN];show (match kb (.lst<|(cls (a,e,s)).map aH) [.im (aH f)] with|some (.im j,.lst t)=>Z (ag.im j,_)|_=>Y)=_;have l:(cls (a,e,s)).length=s:=by unfold cls;rw[bl,fM]
   rw[show kb (.lst<|(cls (a,e,s)).map aH) [.im (aH f)]=Z (.im .aS,.lst<|(cls (a,e,s)).map aH++[aH f]) from zv (by rw[bl,l];lia)];have m:(fc ((a,e,s)::C)).set ((fc ((a,e,s)::C)).length-1) (.lst<|(cls (a,e,s)).map aH++[aH f])=fc ((a,e,s+1)::C):=by
    rw[o9,o9,dW,BV,gz,Vs];show (fc C++[_]).set ((fc C).length+1-1) _=_;rw[ys,HG _ _<|bb _,vx];rfl
   rw[<-m];rfl
  ·rw[el b]at cond;have c:kl a ((a,e,s)::C) f=(a,f,1)::(a,e,s)::C:=aL b;rw[c];have n:(fc ((a,e,s)::C)).length<100000:=by unfold fc;rw[bl,Dd];lia
   have o:ux (.dY<|fc ((a,e,s)::C)) [.lst [aH f]]=Z (.im .aS,.dY<|fc ((a,f,1)::(a,e,s)::C)):=by
    show (if _ then _ else _)=_;rw[aK n,o9 (a,f,1),show cls (a,f,1)=[bt a f 0] from rfl,jt];rfl
   refine gp cond (n5 (r:=.im .aS) ?_);unfold eS;rw[nt,nt];exact pD rfl rfl (b_ (bg<|Fe (b_ rfl rfl) rfl (fR rfl) rfl) rfl) rfl rfl o rfl
def Dm(U:List a0):Prop:=(∀o∈U,0<=o.1/\o.1<=30/\0<=o.2/\o.2<=30)
def OK(j:aU):(cls j).Nodup:=kn (λa W i W c=>by have:=xT c;lia) nr
section
variable{aa:List a0}
def RC{U_:Type}{I:List U_}(aj:I.Nodup)(e:∀f∈I,∀x∈I,f=x):I.length<=1:=by
 cases I with
 |nil=>exact gk _
 |cons g I=>
  cases I with
  |nil=>exact bb _
  |cons d I=>exact absurd (.head _) (e g (.head _) d (.tail _<|.head _) ▸ (gC.mp aj).1)
theorem GK{P:a0->Prop}:∀(b:List a0),(b.Pairwise λf x=>∀d,¬ cI.In P d f x)->∀{f x:a0}{d:Bool},f∈b->x∈b->cI.In P d f x->f=x
 |[],_,_,_,_,e,_,_=>nomatch e
 |g::b,O,f,x,d,j,h,p=>by
  have O:=gj.mp O;rcases b9.mp j with c|i
  ·rcases b9.mp h with k|a
   ·rw[c,k]
   ·exact absurd p (c ▸ O.1 x a d)
  ·rcases b9.mp h with c|a
   ·exact absurd p.symm (c ▸ O.1 f i d)
   ·exact GK b O.2 i a p
end
def ht(f:fu (s+1) e)(a:0<t)(c:t<1073741824):∃v S,dX [e,aA t]=Z (aA v,[S,aA t])/\0<=v/\v<t/\fu s S:=by
 let⟨r,m,@C,rfl,y,B,g,h,u⟩:=f;have w:¬ t=0:=⋯
 by_cases hd:0<r
 ·refine⟨r%t,f3 (r/t) m C,?_,n_ _ ⋯,pj _ a,r/t,m,C,rfl,Gi y ⋯,B,g,h,⋯⟩;unfold dX zu;have x:ot (aA r) (aA 0)=Z (.im<|.aE X):=congrArg (λd=>Z<|ag.im<|.aE d) (dQ hd);refine qk [Z (f3 (r/t) m C),Z<|aA t,Z<|aA<|r%t] rfl (mN ((A6<|eG<|cg (bg<|cg (r:=aA r) rfl rfl rfl rfl rfl) rfl rfl rfl x).trans ((ox ((BA (cg (bg<|cg (r:=aA r) rfl rfl rfl rfl rfl) rfl rfl rfl<|mj a) (show 2<3 by decide)).trans rfl)).trans<|(ox<|i1 (Vi:=[Z (f3 (r/t) m C),Z<|aA t,Z<|aA<|r%t]) (cg (bg<|cg (r:=aA r) rfl rfl rfl rfl rfl) rfl rfl rfl<|xE a c) rfl).trans rfl))) rfl
 ·obtain⟨UI,b⟩:∃UI:Int,UI=(m*48271+12345+7919*(C+1))%2147483647:=⟨_,rfl⟩;have i:0<=UI:=by rw[b];exact n_ _ ∅
  have z:UI<2147483647:=by
   rw[b];exact pj _ ∅
  have j:hn m 48271=X:=nM ∅ ∅;have k:hn 7919 (C+1)=X:=zK ∅ ∅;have l:hn UI UI=X:=nM ⋯ ⋯;refine⟨UI*UI%1999999973/31%t,f3 r UI<|C+1,?_,n_ _ ⋯,pj _ a,r,UI,C+1,rfl,y,i,⋯,⋯,⋯⟩;unfold dX zu;have x:ot (aA r) (aA 0)=Z (.im<|.aE av):=congrArg (λd=>Z<|ag.im<|.aE d) (el hd);have n:aD es (ae<|aD bH (au 0)<|ae<|az<|.int 1) (ae<|az<|.int 48271) [Z (f3 r m<|C+1),Z<|aA t,Y]=Z (aA<|m*48271,[Z (f3 r m<|C+1),Z<|aA t,Y]):=cg (bg<|cg (r:=aA m) rfl rfl rfl rfl rfl) rfl rfl rfl (js j);have o:aD es (ae<|az<|.int 7919) (ae<|aD bH (au 0)<|ae<|az<|.int 2) [Z (f3 r m<|C+1),Z<|aA t,Y]=Z (aA<|7919*(C+1),[Z (f3 r m<|C+1),Z<|aA t,Y]):=cg rfl (bg<|cg (r:=aA (C+1)) rfl rfl rfl rfl rfl) rfl rfl (js k);have p:aD fU (ae<|aD dJ (ae<|aD dJ (ae<|aD es (ae<|aD bH (au 0)<|ae<|az<|.int 1)<|ae<|az<|.int 48271)<|ae<|az<|.int 12345)<|ae<|aD es (ae<|az<|.int 7919)<|ae<|aD bH (au 0)<|ae<|az<|.int 2) (ae<|az<|.int 2147483647) [Z (f3 r m<|C+1),Z<|aA t,Y]=Z (aA UI,[Z (f3 r m<|C+1),Z<|aA t,Y]):=by
   rw[b];exact cg (bg<|cg (bg<|cg (bg n) rfl rfl rfl rfl) (bg o) rfl rfl rfl) rfl rfl rfl (mj ∅)
  have q:aD es (ae<|aD bH (au 0)<|ae<|az<|.int 1) (ae<|aD bH (au 0)<|ae<|az<|.int 1) [Z (f3 r UI<|C+1),Z<|aA t,Y]=Z (aA<|UI*UI,[Z (f3 r UI<|C+1),Z<|aA t,Y]):=cg (bg<|cg (r:=aA UI) rfl rfl rfl rfl rfl) (bg<|cg (r:=aA UI) rfl rfl rfl rfl rfl) rfl rfl (js l);exact qk [Z (f3 r UI<|C+1),Z<|aA t,Y] rfl ((ox<|(AU<|eG<|cg (bg<|cg (r:=aA r) rfl rfl rfl rfl rfl) rfl rfl rfl x).trans rfl).trans ((ox<|i1 (Vi:=[Z (f3 r m<|C+1),Z<|aA t,Y]) (cg (r:=aA (C+1)) (bg<|cg (r:=aA C) rfl rfl rfl rfl rfl) rfl rfl rfl rfl) rfl).trans ((ox<|i1 (Vi:=[Z (f3 r UI<|C+1),Z<|aA t,Y]) p rfl).trans (fQ (cg (bg (cg (bg (cg (bg q) rfl rfl rfl (mj ∅))) rfl rfl rfl (xE ∅ ∅))) rfl rfl rfl<|mj a))))) rfl
def Qp(b:0<=q):∃o,sS [.c2 (U8.map .int),aA q]=Z (aA o,[.c2 (U8.map .int),aA q]):=by
 by_cases a:q<(U8.length:Int)
 ·obtain⟨o,c⟩:∃o,U8[q.toNat]?=Z o:=⟨U8[q.toNat]'(by omega),by simp⟩;have e:eH (U8.map V.int) q=Z (.int o):=Ef b (by rw[dU,c];rfl);have lt:h8 (aA q) (aA ((U8.map V.int).length:Int))=Z (.im<|.aE X):=congrArg (λd=>Z<|ag.im<|.aE d) (dQ (by rw[bl];exact a));have f:bH (.c2<|U8.map .int) (aA q)=Z (aA o):=congrArg (Option.map ag.im) e;unfold sS A4;exact⟨o,qk [Z (.c2<|U8.map .int),Z<|aA q] rfl (mN<|(A6<|eG<|cg rfl (bg<|d5 rfl rfl rfl) rfl rfl lt).trans<|fQ<|eo f) rfl⟩
 ·have lt:h8 (aA q) (aA ((U8.map V.int).length:Int))=Z (.im<|.aE av):=congrArg (λd=>Z<|ag.im<|.aE d) (el (by rw[bl];exact a));unfold sS A4;exact⟨0,qk [Z (.c2<|U8.map .int),Z<|aA q] rfl ((ox<|(AU<|eG<|cg rfl (bg<|d5 rfl rfl rfl) rfl rfl lt).trans rfl).trans rfl) rfl⟩
def NP(c:0<=q)(r:q<1000):∃e,vv [.c2 (U8.map .int),aA q]=Z (e,[.c2 (U8.map .int),aA q])/\fu 1000000 e:=by
 let⟨@o,g⟩:=Qp (U8:=U8) c;have h:hn 7919 q=X:=zK ∅ ∅;have i:hn (7919*q) q=X:=nM ⋯ ⋯;have j:hn (o%2147483629+7919*q*q+11) 48271=X:=nM ∅ ∅;obtain⟨m,ar⟩:∃m:Int,m=(o%2147483629+7919*q*q+11)*48271%2147483647:=⟨_,rfl⟩;have u:0<=m:=by rw[ar];exact n_ _ ∅
 have s:m<2147483647:=by rw[ar];exact pj _ ∅
 have k:hn (10^60) (10^60)=X:=by decide +kernel
 have VI:hn (10^60*10^60) (10^60)=X:=by decide +kernel
 have l:∀(f:Int) (d:Bool),hn f (if d then 1 else 0)=X:=λf d=>nM (by cases d<;>decide) (by cases d<;>decide);have n:(0:Int)<10^60*10^60*10^60:=by decide
 have a:mr (aA 10) (aA 60)=Z (aA<|10^(60:Int).toNat):=I_ ∅;have b:mr (aA 10) (aA 18)=Z (aA<|10^(18:Int).toNat):=I_ ∅;rw[show (60:Int).toNat=60 from rfl]at a;rw[show (18:Int).toNat=18 from rfl]at b;have G:fu 1000000 (f3 (o%(10^60*10^60*10^60)*(if decide ((10:Int)^18<=o) then 1 else 0)) m 0):=by
  have y:=n_ o (show (10^60*10^60*10^60:Int)≠0 by decide);refine⟨_,_,_,rfl,?_,u,⋯,lL 0,by decide⟩;split
  ·rw[Cu];exact y
  ·rw[Int.mul_zero];exact lL 0
 refine⟨_,?_,G⟩;generalize (10:Int)^60=UT at *;generalize (10:Int)^18=UG at *;unfold vv EV;have p:cD 4 (aD fU (ae<|aD es (ae<|aD dJ (ae<|aD dJ (ae<|aD fU (au 2)<|ae<|az<|.int 2147483629)<|ae<|aD es (ae<|aD es (ae<|az<|.int 7919)<|au 1)<|au 1)<|ae<|az<|.int 11)<|ae<|az<|.int 48271)<|ae<|az<|.int 2147483647) [Z (.c2<|U8.map .int),Z<|aA q,Z<|aA o,Z<|aA<|UT*UT*UT,Y]=Z (.bz,[Z (.c2<|U8.map .int),Z<|aA q,Z<|aA o,Z<|aA<|UT*UT*UT,Z<|aA m]):=by
  rw[ar];exact i9 (cg (bg (cg (bg (cg (bg (cg (bg (eo (mj ∅))) (bg<|cg (bg<|eo<|js h) rfl rfl rfl<|js i) rfl rfl rfl)) rfl rfl rfl rfl)) rfl rfl rfl<|js j)) rfl rfl rfl (mj ∅)) (show 4<5 by decide) rfl
 exact fG rfl (bM (m4 (gQ rfl rfl rfl g) (show 2<5 by decide) rfl) (bM (m4 (e6 (c3<|e6 (c3<|e6 rfl rfl rfl rfl a) (c3<|e6 rfl rfl rfl rfl a) rfl rfl<|js k) (c3<|e6 rfl rfl rfl rfl a) rfl rfl<|js VI) (show 3<5 by decide) rfl)<|bM p<|fQ<|sa (ff (c3<|e6 (c3<|e6 rfl rfl rfl rfl<|mj n) (c3<|vu (ff (c3<|e6 rfl (c3<|e6 rfl rfl rfl rfl b) rfl rfl rfl) rfl) rfl rfl) rfl rfl<|js<|l _ _) rfl) rfl (fR rfl) rfl)) rfl
def Ld{VB:List (Int×Int)}{n:Int×Int}(e:VB.length<100000):kb (cn VB) [.im (aH n)]=Z (.im .aS,cn<|VB++[n]):=by
 have:kb (cn VB) [.im (aH n)]=Z (.im .aS,.lst<|VB.map aH++[aH n]):=zv (by rw[bl];exact e);rw[this];simp
def Ja(VB:List (Int×Int)):fo [cn VB]=Z (aA (VB.length:Int)):=by
 show Z (aA ((VB.map aH).length:Int))=_;rw[bl]
def B_{M VH V1:ay bJ}{f x k:bJ}{g d o:Int}(b:M w=Z (f,w))(c:VH w=Z (x,w))(e:d7 w f=Z (aA g))(a:d7 w x=Z (aA d))(h:V1 w=Z (k,w))(i:d7 w k=Z (aA o):=by rfl):b1 (jf gv gv M VH V1) w=Z (decide (g<=d)&&decide (d<=o),w):=by
 unfold b1 jf;rw[b];show ((VH w).bind _).bind _=_;rw[c];show ((d7 w f).bind _).bind _=_;rw[e];show ((d7 w x).bind _).bind _=_;rw[a];show ((if decide (g<=d)=X then _ else _):Option (ag×a4)).bind _=_;cases decide (g<=d) with
 |false=>rfl
 |true=>
  rw[aK rfl];show ((V1 w).bind _).bind _=_;rw[h];show ((d7 w x).bind _).bind _=_;rw[a];show ((d7 w k).bind _).bind _=_;rw[i];rfl
structure t9(t:Int)(VB:List a0):Prop where
 ne:VB≠[]
 aj:VB.Nodup
 len:(VB.length:Int)<=t
 pE:Dm VB
def EX:List a0:=([(0,1),(1,0),(0,-1),(-1,0)])
abbrev hR(e:ag)(t:Int)(VB:List a0)(q VE Vp a b c:Option ag):a4:=[Z e,Z<|aA t,Z<|cn VB,q,VE,Vp,a,b,c]
def R1{VB:List a0}{q g i a:Option ag}(h:fu (s+3) e)(F:t9 t VB)(co:t<=60):
  ∃S J am an ap as a1,uC (hR e t VB q VE Vp g i a)=Z (.bz,hR S t J q am an ap as a1)/\fu s S/\t9 t J:=by
 have cr:=List.length_pos_iff.mpr F.ne;have cs:=F.len;let⟨L,y,a2,bd,VL,UP⟩:=ht (s:=s+2) (t:=(VB.length:Int)) h ⋯ ⋯;obtain⟨l,be⟩:∃o,VB[L.toNat]?=Z o:=⟨VB[L.toNat]'⋯,by simp⟩;let⟨E,B,M,c5,dM,U6⟩:=ht (s:=s+1) (t:=2) UP ⋯ ⋯;let⟨v,db,bi,Vz,Vy,H⟩:=ht (s:=s) (t:=4) U6 ⋯ ⋯;obtain⟨r,hd⟩:∃r,EX[v.toNat]?=Z r:=⟨EX[v.toNat]'(by show v.toNat<4;lia),by simp⟩;have bm:=Cs bd be;have bn:=Cs Vz hd;let⟨N,I,rfl⟩:=L7 F.ne;have bs:eH ((N++[I]).map aH) (-1)=Z (aH I):=S3 ↥0;let⟨bv,rfl⟩:=h.lst;let⟨O,rfl⟩:=UP.lst;let⟨P,rfl⟩:=U6.lst;let⟨m,rfl⟩:=H.lst;generalize ds:N++[I]=VB at *;have Q:eX (aD bH (au 2)<|ae<|bL 2 G.dX<|aq (au 0)<|aq (ae<|cH fo<|aq (au 2) aG) aG) (g0 2<|d2 (bG 4)<|d2 (bG 5) hh) (hR (.lst bv) t VB q VE Vp g i a)=Z (.bz,hR (.lst O) t VB q (Z<|aA l.1) (Z<|aA l.2) g i a):=by
  exact i1 (e6 rfl (c3<|gQ (ff rfl<|ff (c3<|vu rfl rfl<|Ja VB) rfl) rfl rfl a2) rfl rfl<|congrArg (Option.map ag.im) bm) rfl
 obtain⟨o,R⟩:∃o:a0,dP (b1<|aD e3 (ae<|bL 2 G.dX<|aq (au 0)<|aq (ae<|az<|.int 2) aG)<|ae<|az<|.int 0) (eX (aD bH (au 2)<|ae<|k9<|az<|.int 1)<|g0 2<|d2 (bG 4)<|d2 (bG 5) hh) eD (hR (.lst O) t VB q (Z<|aA l.1) (Z<|aA l.2) g i a)=Z (.bz,hR (.lst P) t VB q (Z<|aA o.1) (Z<|aA o.2) g i a):=by
  by_cases u:E=0
  ·have p:=u5 E 0;rw[dQ u]at p;exact⟨I,j4 (qI<|e6 (c3<|gQ rfl rfl rfl M) rfl rfl rfl p)<|i1 (e6 rfl (c3<|P1 rfl) rfl rfl<|congrArg (Option.map ag.im) bs) rfl⟩
  ·have p:=u5 E 0;rw[el u]at p;exact⟨l,gp (qI<|e6 (c3<|gQ rfl rfl rfl M) rfl rfl rfl p) rfl⟩
 have T:eX (aD bH (ae<|f_<|aq (ae<|cV<|aq (ae<|az<|.int 0)<|aq (ae<|az<|.int 1) aG)<|aq (ae<|cV<|aq (ae<|az<|.int 1)<|aq (ae<|az<|.int 0) aG)<|aq (ae<|cV<|aq (ae<|az<|.int 0)<|aq (ae<|k9<|az<|.int 1) aG)<|aq (ae<|cV<|aq (ae<|k9<|az<|.int 1)<|aq (ae<|az<|.int 0) aG) aG)<|ae<|bL 2 G.dX<|aq (au 0)<|aq (ae<|az<|.int 4) aG) (g0 2<|d2 (bG 6)<|d2 (bG 7) hh) (hR (.lst P) t VB q (Z<|aA o.1) (Z<|aA o.2) g i a)=Z (.bz,hR (.lst m) t VB q (Z<|aA o.1) (Z<|aA o.2) (Z<|aA r.1) (Z<|aA r.2) a):=by
  have ca:eH [V.tup [.int 0,.int 1],.tup [.int 1,.int 0],.tup [.int 0,.int<|-1],.tup [.int (-1),.int 0]] v=Z (.tup [.int r.1,.int r.2]):=bn;exact i1 (e6 rfl (c3<|gQ rfl rfl rfl bi) rfl rfl<|congrArg (Option.map ag.im) ca) rfl
 obtain⟨n,cd⟩:∃n:a0,n=(o.1+r.1,o.2+r.2):=⟨_,rfl⟩;obtain⟨w,b⟩:∃w:a4,w=hR (.lst m) t VB q (Z<|aA o.1) (Z<|aA o.2) (Z<|aA r.1) (Z<|aA r.2) (Z<|.im<|aH n):=⟨_,rfl⟩;have U:cD 8 (cV<|aq (ae<|aD dJ (au 4)<|au 6)<|aq (ae<|aD dJ (au 5)<|au 7) aG) (hR (.lst m) t VB q (Z<|aA o.1) (Z<|aA o.2) (Z<|aA r.1) (Z<|aA r.2) a)=Z (.bz,w):=by
  rw[b,cd];rfl
 have z:b1 (aD g5 (au 8)<|au 2) w=Z (!decide (n∈VB),w):=by
  rw[b];exact eG (eo<|Mz VB n)
 have VT:b1 (jf gv gv (ae<|az<|.int 0) (ae<|aD bH (au 8)<|ae<|az<|.int 0)<|ae<|az<|.int 30) w=Z (decide (0<=n.1)&&decide (n.1<=30),w):=by
  rw[b];exact B_ rfl rfl rfl rfl rfl
 have ce:b1 (jf gv gv (ae<|az<|.int 0) (ae<|aD bH (au 8)<|ae<|az<|.int 1)<|ae<|az<|.int 30) w=Z (decide (0<=n.2)&&decide (n.2<=30),w):=by
  rw[b];exact B_ rfl rfl rfl rfl rfl
 have A:b1 (aD h8 (ae<|cH fo<|aq (au 2) aG)<|au 1) w=Z (decide ((VB.length:Int)<t),w):=by
  rw[b];exact eG (cg (bg<|d5 rfl rfl<|Ja VB) rfl rfl rfl rfl)
 have al:∀d:Bool,d=(!decide (n∈VB)&&(decide ((VB.length:Int)<t)&&((decide (0<=n.1)&&decide (n.1<=30))&&(decide (0<=n.2)&&decide (n.2<=30)))))->
   gf (b1<|aD g5 (au 8)<|au 2) (gf (b1<|aD h8 (ae<|cH fo<|aq (au 2) aG)<|au 1)<|gf (b1<|jf gv gv (ae<|az<|.int 0) (ae<|aD bH (au 8)<|ae<|az<|.int 0)<|ae<|az<|.int 30)<|b1<|jf gv gv (ae<|az<|.int 0) (ae<|aD bH (au 8)<|ae<|az<|.int 1)<|ae<|az<|.int 30) w=Z (d,w):=by
  intro d ch;rw[ch];cases j:decide (n∈VB) with
  |true=>rw[j]at z;exact wA z
  |false=>
   rw[j]at z;refine o5 z ?_;cases C:decide ((VB.length:Int)<t) with
   |false=>rw[C]at A;exact wA A
   |true=>
    rw[C]at A;refine o5 A ?_;cases u:(decide (0<=n.1)&&decide (n.1<=30)) with
    |false=>rw[u]at VT;exact wA VT
    |true=>rw[u]at VT;exact o5 VT ce
 unfold uC;by_cases D:n∉VB/\(VB.length:Int)<t/\0<=n.1/\n.1<=30/\0<=n.2/\n.2<=30
 ·have bP:=al X (by simp[D]);refine⟨.lst m,VB++[n],Z<|aA o.1,Z<|aA o.2,Z<|aA r.1,Z<|aA r.2,Z<|.im<|aH n,bM Q<|bM R<|bM T<|bM U<|j4 bP ?_,H,⟨by simp,dR.mpr ⟨F.aj,gh _ _,λf j x C c=>D.1 (by rw[cN.mp C]at c;rw[<-c];exact j)⟩,by rw[dW,jj];lia,λf j=>?_⟩⟩
  ·have ci:VB.length<100000:=⋯
   rw[b];exact n5 (pD rfl rfl rfl rfl rfl (Ld ci) rfl)
  ·rcases ed.mp j with k|k
   ·exact F.pE f k
   ·rw[cN.mp k];exact D.2.2
 ·have cl:=al av (by
   cases k:(!decide (n∈VB)&&(decide ((VB.length:Int)<t)&&((decide (0<=n.1)&&decide (n.1<=30))&&(decide (0<=n.2)&&decide (n.2<=30))))) with
   |false=>rfl
   |true=>
    simp at k;exact absurd ⟨k.1,⋯,k.2.2.1.1,k.2.2.1.2,k.2.2.2.1,k.2.2.2.2⟩ D)
  exact⟨.lst m,VB,Z<|aA o.1,Z<|aA o.2,Z<|aA r.1,Z<|aA r.2,Z<|.im<|aH n,bM Q (bM R (bM T (bM U (gp cl (by rw[b];rfl))))),H,F⟩
structure mA(aa:List a0):Prop where
 aj:aa.Nodup
 bn:Dm aa
 len:aa.length<=64
def Q0(h:fu (s+400) e)(u:1<=t)(v:t<=60):∃S aa,tg [e,aA t]=Z (a3 aa,[S,aA t])/\fu s S/\mA aa:=by
 let⟨j,B,x,y,al,U6⟩:=ht (s:=s+399) (t:=31) h ⋯ ⋯;let⟨k,m,z,Vz,Vy,n⟩:=ht (s:=s+398) (t:=31) U6 ⋯ ⋯;have A:t9 t [(j,k)]:=⟨by simp,gh _ _,by rw[jj];exact u,λd C=>by rw[cN.mp C];exact⟨y,by show j<=30;lia,Vz,by show k<=30;lia⟩⟩;let⟨U4,D,⟨H,VB,Vu,VE,Vp,b,g,i,rfl,l,F⟩⟩:=A5 (Ve:=bG 3) (d:=uC) (E:=hA 0 (2*t).toNat) (λa w=>∃e VB Vu VE Vp b g i,w=hR e t VB Vu VE Vp b g i/\fu (s+398-3*a) e/\t9 t VB) (w:=hR m t [(j,k)] Y Y Y Y Y Y) ⟨m,[(j,k)],Y,Y,Y,Y,Y,Y,rfl,n,A⟩
  (λa f w I ef=>by
   let⟨e,VB,Vu,VE,Vp,b,g,i,rfl,J,F⟩:=ef;have UN:a<(2*t).toNat:=by
    have:=(eV.mp I).1
    rwa [hA,bl,fM]at this
   let⟨S,L,am,an,ap,as,a1,c,Q,VZ⟩:=R1 (s:=s+398-3*(a+1)) (q:=Z (.im f)) (VE:=VE) (Vp:=Vp) (g:=b) (i:=g) (a:=i) (J.mono ⋯) F v;exact⟨hR e t VB (Z<|.im f) VE Vp b g i,.bz,_,rfl,c,.inl rfl,S,L,_,_,_,_,_,_,rfl,Q,VZ⟩)
 have M:(hA 0 (2*t).toNat).length=(2*t).toNat:=by rw[hA,bl,fM]
 rw[M]at l;have a2:=F.len;let⟨r,T,Vr,W⟩:=D6 F.aj ⋯;have T:iK [cn VB]=Z (cn r):=(q8 ee VB).trans T;refine⟨H,r,?_,l.mono ⋯,Vr.nodup_iff.mpr F.aj,λo N=>F.pE o<|Vr.mem_iff.mp N,by rw[Vr.length_eq];lia⟩;let⟨p,rfl⟩:=h.lst;let⟨bd,rfl⟩:=U6.lst;let⟨O,rfl⟩:=n.lst;let⟨P,rfl⟩:=l.lst;have R:pU (2*t):=⟨⋯,⋯⟩;have mk:hn 2 t=X:=zK ∅ ∅;have U:cD 2 (f_<|aq (ae<|cV<|aq (ae<|bL 2 G.dX<|aq (au 0)<|aq (ae<|az<|.int 31) aG)<|aq (ae<|bL 2 G.dX<|aq (au 0)<|aq (ae<|az<|.int 31) aG) aG) aG) [Z (.lst p),Z<|aA t,Y,Y,Y,Y,Y,Y,Y]=Z (.bz,hR (.lst O) t [(j,k)] Y Y Y Y Y Y):=
  m4 (sa (ff (c3<|sd (ff (c3<|gQ rfl rfl rfl x)<|ff (c3<|gQ rfl rfl rfl z) rfl) rfl (fR rfl) rfl) rfl) rfl (fR rfl) rfl) (f5 rfl) rfl;unfold tg E9;exact fG (w:=hR (.lst P) t VB Vu VE Vp b g i) rfl (bM U<|bM (jO (rm (b_ (bg<|eo<|js mk) rfl) rfl R) D rfl)<|fQ<|d5 (b_ (bg<|d5 (b_ rfl rfl) rfl T) rfl) rfl rfl) rfl
def jP(j o D:Int)(s:Nat):List a0:=((range s).map λ(q:Nat)=>(j+(0+(q:Int))/D,o+(0+(q:Int))%D))
def KG{j o D F:Int}(k:1<=F)(l:1<=D)(m:F*D<=64)(n:0<=j)(p:j<32-F)(r:0<=o)(s:o<32-D):mA (jP j o D (F*D).toNat):=by
 refine⟨kn (λa W i W c=>?_) nr,λf d=>?_,by unfold jP;rw[bl,fM];lia⟩
 ·have t:j+(0+(a:Int))/D=j+(0+(i:Int))/D:=congrArg Prod.fst c;have u:o+(0+(a:Int))%D=o+(0+(i:Int))%D:=congrArg Prod.snd c;have e:=CU (0+(a:Int)) D;have VL:=CU (0+(i:Int)) D;have g:(0+(a:Int))/D=(0+(i:Int))/D:=⋯
  rw[g]at e;lia
 ·let⟨q,b,rfl⟩:=da.mp d;have b:=eT.mp b;have h:0+(q:Int)<F*D:=⋯
  have c5:=Int.ediv_lt_of_lt_mul (show 0<D by lia) h;have dM:=Gi (show (0:Int)<=0+(q:Int) by lia) (show 0<=D by lia);have jA:=n_ (0+(q:Int)) (show D≠0 by lia);have jm:=pj (0+(q:Int)) (show 0<D by lia);exact⟨by show 0<=j+(0+(q:Int))/D;lia,by show j+(0+(q:Int))/D<=30;lia,by show 0<=o+(0+(q:Int))%D;lia,by show o+(0+(q:Int))%D<=30;lia⟩
def Lh{f r:V}{S:a4}(a:Ve (.im f) (List.replicate own Y++aN)=Z UR)(b:o UR=Z (X,Vi))(d:c Vi=Z (.im r,S))(e:Vv.length<100000)(q:fk own Ve o c j (Vv++[r]) (S.drop own)=UG):fk own Ve o c (f::j) Vv aN=UG:=by
 rw[fk,a];show (o UR).bind _=_;rw[b];show (c Vi).bind _=_;rw[d];show (if Vv.length<100000 then _ else _)=_;rw[aK e];exact q
def MP{f:V}(a:Ve (.im f) (List.replicate own Y++aN)=Z UR)(b:o UR=Z (av,Vi))(q:fk own Ve o c j Vv (Vi.drop own)=UG):fk own Ve o c (f::j) Vv aN=UG:=by
 rw[fk,a];show (o UR).bind _=_;rw[b];exact q
theorem AS{s:Nat}{t:Int}(c:1<=t)(d:t<=8):∀(U:List a0) (Vv:List V) {e:ag},fu (s+U.length) e->Vv.length+U.length<=1000->
  ∃(S:ag) (H:List a0),fk 1 (bG 0) G.Ax G.Bg (U.map aH) Vv [Z e,Z<|aA t]=Z (Vv++H.map aH,[Z S,Z<|aA t])/\fu s S/\H.Sublist U
 |[],Vv,e,h,_=>⟨e,[],by rw[yO,b8];rfl,h,.slnil⟩
 |o::U,Vv,e,h,g=>by
  rw[dz]at h g;let⟨v,y,i,k,VL,UP⟩:=ht (s:=s+U.length) (t:=t) h ⋯ ⋯;let⟨p,rfl⟩:=h.lst;let⟨j,rfl⟩:=UP.lst;have Vf:G.Ax [Z (.im<|aH o),Z<|.lst p,Z<|aA t]=Z (decide (v>0),[Z (.im<|aH o),Z<|.lst j,Z<|aA t]):=qI (e6 (c3<|gQ rfl rfl rfl i) rfl rfl rfl rfl);rw[cw];cases f:decide (v>0) with
  |false=>
   rw[f]at Vf;let⟨S,H,a,U6,b⟩:=AS c d U Vv UP ⋯;exact⟨S,H,MP rfl Vf a,U6,b.cons o⟩
  |true=>
   rw[f]at Vf;let⟨S,H,a,U6,b⟩:=AS c d U (Vv++[aH o]) UP (by rw[dW,jj];lia);refine⟨S,o::H,Lh rfl Vf rfl ⋯<|a.trans ?_,U6,b.cons_cons o⟩;rw[bq,cw];rfl
abbrev fa(e:ag)(a Vo Vu VE Vp b c:Option ag):a4:=[Z e,a,Vo,Vu,VE,Vp,b,c]
def OA(h:fu (s+600) e):∃S aa,uR [e]=Z (a3 aa,[S])/\fu s S/\mA aa:=by
 let⟨a,y,ce,hd,c5,UP⟩:=ht (s:=s+599) (t:=8) h ⋯ ⋯;let⟨u,B,ch,VL,dM,U6⟩:=ht (s:=s+598) (t:=8) UP ⋯ ⋯;let⟨k,he,ci,hf,jA,an⟩:=ht (s:=s+597) (t:=8) U6 ⋯ ⋯;let⟨ap,hm,as,hw,jm,L⟩:=ht (s:=s+596) (t:=8) an ⋯ ⋯;let⟨p,rfl⟩:=h.lst;let⟨a1,rfl⟩:=UP.lst;let⟨h0,rfl⟩:=U6.lst;let⟨a2,rfl⟩:=an.lst;let⟨cl,rfl⟩:=L.lst;have M:cD 1 (bL 2 G.dX<|aq (au 0)<|aq (ae<|az<|.int 8) aG) (fa (.lst p) Y Y Y Y Y Y Y)=Z (.bz,fa (.lst a1) (Z<|aA a) Y Y Y Y Y Y):=m4 (gQ rfl rfl rfl ce) (f5 rfl) rfl;have N:oH 2 3 (aq (ae<|aD dJ (ae<|az<|.int 1)<|ae<|bL 2 G.dX<|aq (au 0)<|aq (ae<|az<|.int 8) aG)<|aq (ae<|aD dJ (ae<|az<|.int 1)<|ae<|bL 2 G.dX<|aq (au 0)<|aq (ae<|az<|.int 8) aG) aG) (fa (.lst a1) (Z<|aA a) Y Y Y Y Y Y)=Z (.bz,fa (.lst a2) (Z<|aA a) (Z<|aA<|1+u) (Z<|aA<|1+k) Y Y Y Y):=D2 (ff (c3<|e6 rfl (c3<|gQ rfl rfl rfl ch) rfl rfl rfl)<|ff (c3<|e6 rfl (c3<|gQ rfl rfl rfl ci) rfl rfl rfl) rfl) rfl (f5 rfl) (f5 rfl) rfl;obtain⟨F,D,g,O,v,co,cr,cs,ii,io⟩:∃F D g,dP (b1<|aD e3 (ae<|bL 2 G.dX<|aq (au 0)<|aq (ae<|az<|.int 8) aG)<|ae<|az<|.int 0) (eX (aD bH (ae<|f_<|aq (ae<|cV<|aq (ae<|az<|.int 1)<|aq (ae<|az<|.int 31) aG)<|aq (ae<|cV<|aq (ae<|az<|.int 31)<|aq (ae<|az<|.int 1) aG)<|aq (ae<|cV<|aq (ae<|az<|.int 2)<|aq (ae<|az<|.int 31) aG)<|aq (ae<|cV<|aq (ae<|az<|.int 31)<|aq (ae<|az<|.int 2) aG) aG)<|ae<|bL 2 G.dX<|aq (au 0)<|aq (ae<|az<|.int 4) aG)<|g0 2<|d2 (bG 2)<|d2 (bG 3) hh) eD (fa (.lst a2) (Z<|aA a) (Z<|aA<|1+u) (Z<|aA<|1+k) Y Y Y Y)=Z (.bz,fa (.lst g) (Z<|aA a) (Z<|aA F) (Z<|aA D) Y Y Y Y)/\fu (s+595) (.lst g)/\1<=F/\1<=D/\F*D<=64/\F<=31/\D<=31:=by
  have x:=u5 ap 0;by_cases bd:ap=0
  ·rw[dQ bd]at x;let⟨l,it,db,jp,kt,v⟩:=ht (s:=s+595) (t:=4) L ⋯ ⋯;let⟨g,rfl⟩:=v.lst;obtain⟨F,D,ds,dL,eq,ev,ex,fd⟩:∃F D:Int,eH [V.tup [.int 1,.int 31],.tup [.int 31,.int 1],.tup [.int 2,.int 31],.tup [.int 31,.int 2]] l=Z (.tup [.int F,.int D])/\1<=F/\1<=D/\F*D<=64/\F<=31/\D<=31:=by
    have:l=0\/l=1\/l=2\/l=3:=⋯
    rcases this with rfl|rfl|rfl|rfl
    ·exact⟨1,31,rfl,by decide⟩
    ·exact⟨31,1,rfl,by decide⟩
    ·exact⟨2,31,rfl,by decide⟩
    ·exact⟨31,2,rfl,by decide⟩
   exact⟨F,D,g,j4 (qI<|e6 (c3<|gQ rfl rfl rfl as) rfl rfl rfl x)<|i1 (e6 (c3<|sa rfl rfl (fR rfl) rfl) (c3<|gQ rfl rfl rfl db) rfl rfl<|congrArg (Option.map ag.im) ds) rfl,v,dL,eq,ev,ex,fd⟩
  ·rw[el bd]at x;have:=Int.mul_le_mul (show 1+u<=8 by lia) (show 1+k<=8 by lia) (show 0<=1+k by lia) (show (0:Int)<=8 by decide);exact⟨1+u,1+k,cl,gp (qI<|e6 (c3<|gQ rfl rfl rfl as) rfl rfl rfl x) rfl,L.mono ⋯,⋯,⋯,⋯,⋯,⋯⟩
 let⟨j,kw,fn,fr,f0,be⟩:=ht (s:=s+594) (t:=32-F) v ⋯ ⋯;let⟨o,lc,f1,f2,f4,z⟩:=ht (s:=s+593) (t:=32-D) be ⋯ ⋯;let⟨lf,rfl⟩:=be.lst;let⟨b,rfl⟩:=z.lst;have Q:oH 4 5 (aq (ae<|bL 2 G.dX<|aq (au 0)<|aq (ae<|aD jT (ae<|az<|.int 32)<|au 2) aG)<|aq (ae<|bL 2 G.dX<|aq (au 0)<|aq (ae<|aD jT (ae<|az<|.int 32)<|au 3) aG) aG) (fa (.lst g) (Z<|aA a) (Z<|aA F) (Z<|aA D) Y Y Y Y)=Z (.bz,fa (.lst b) (Z<|aA a) (Z<|aA F) (Z<|aA D) (Z<|aA j) (Z<|aA o) Y Y):=D2 (ff (c3<|gQ rfl rfl rfl fn)<|ff (c3<|gQ rfl rfl rfl f1) rfl) rfl (f5 rfl) (f5 rfl) rfl;have P:=KG (j:=j) (o:=o) co cr cs fr f0 f2 f4;have Wc:0<=F*D:=Int.mul_nonneg ⋯ ⋯;have A:cD 6 (dh 1 [4,3,5] (ha<|aq (ae<|aD es (au 2)<|au 3) aG) (bG 0) et G.zZ) (fa (.lst b) (Z<|aA a) (Z<|aA F) (Z<|aA D) (Z<|aA j) (Z<|aA o) Y Y)=Z (.bz,fa (.lst b) (Z<|aA a) (Z<|aA F) (Z<|aA D) (Z<|aA j) (Z<|aA o) (Z<|cn<|jP j o D (F*D).toNat) Y):=by
  have c4:dh 1 [4,3,5] (ha<|aq (ae<|aD es (au 2)<|au 3) aG) (bG 0) et G.zZ (fa (.lst b) (Z<|aA a) (Z<|aA F) (Z<|aA D) (Z<|aA j) (Z<|aA o) Y Y)=Z (.lst<|(range (F*D).toNat).map λ(q:Nat)=>aH (j+(0+(q:Int))/D,o+(0+(q:Int))%D),fa (.lst b) (Z<|aA a) (Z<|aA F) (Z<|aA D) (Z<|aA j) (Z<|aA o) Y Y):=by
   refine hv (E:=(range (F*D).toNat).map λ(q:Nat)=>V.int<|0+(q:Int)) (n:=Y) (UR:=fa (.lst b) (Z<|aA a) (Z<|aA F) (Z<|aA D) (Z<|aA j) (Z<|aA o) Y Y) (rm (i:=F*D) (b_ (bg (eo (js (nM ⋯ ⋯)))) rfl) rfl ⟨⋯,⋯⟩) (jo (λ(q:Nat)=>V.int<|0+(q:Int)) (λ(q:Nat)=>aH (j+(0+(q:Int))/D,o+(0+(q:Int))%D)) _ (λq li=>?_) (by rw[fM];lia)) rfl;exact⟨[Z (aA<|0+(q:Int)),Z<|aA j,Z<|aA D,Z<|aA o],_,[Z (aA<|0+(q:Int)),Z<|aA j,Z<|aA D,Z<|aA o],rfl,rfl,qD (b_ (bg (cg rfl (bg (eo (xE ⋯ ⋯))) rfl rfl rfl)) (b_ (bg (cg rfl (bg (eo (mj ⋯))) rfl rfl rfl)) rfl)) rfl (fR rfl) rfl,rfl⟩
  refine i9 (c4.trans ?_) (f5 rfl) rfl;show Z (ag.lst _,_)=Z (ag.lst<|(jP j o D (F*D).toNat).map aH,_);unfold jP;rw[e7];rfl
 unfold uR HO;generalize jP j o D (F*D).toNat=U at P A;by_cases bi:a<2
 ·have C:h8 (aA a) (aA 2)=Z (.im<|.aE X):=congrArg (λd=>Z<|ag.im<|.aE d) (dQ bi);exact⟨.lst b,U,fG (w:=fa (.lst b) (Z<|aA a) (Z<|aA F) (Z<|aA D) (Z<|aA j) (Z<|aA o) (Z<|cn U) Y) rfl (bM M<|bM N<|bM O<|bM Q<|bM A<|mN<|j4 (eG<|eo C)<|fQ<|d5 (b_ rfl rfl) rfl rfl) rfl,z.mono ⋯,P⟩
 ·have C:h8 (aA a) (aA 2)=Z (.im<|.aE av):=congrArg (λd=>Z<|ag.im<|.aE d) (el bi);by_cases bm:a<6
  ·have R:h8 (aA a) (aA 6)=Z (.im<|.aE X):=congrArg (λd=>Z<|ag.im<|.aE d) (dQ bm);let⟨c,f8,T,ga,ge,m⟩:=ht (s:=s+592) (t:=4) z ⋯ ⋯;let⟨I,rfl⟩:=m.lst;obtain⟨t,al,bs,bv⟩:∃t:Int,eH [V.int 2,.int 3,.int 4,.int 8] c=Z (.int t)/\1<=t/\t<=8:=by
    have:c=0\/c=1\/c=2\/c=3:=⋯
    rcases this with rfl|rfl|rfl|rfl
    ·exact⟨2,rfl,by decide,by decide⟩
    ·exact⟨3,rfl,by decide,by decide⟩
    ·exact⟨4,rfl,by decide,by decide⟩
    ·exact⟨8,rfl,by decide,by decide⟩
   have aT:=P.len;let⟨gl,H,c4,r,cz⟩:=AS (s:=s) bs bv U [] (m.mono ⋯) (by rw[iW];lia);let⟨J,rfl⟩:=r.lst;rw[lQ]at c4;refine⟨.lst J,H,fG (w:=fa (.lst J) (Z<|aA a) (Z<|aA F) (Z<|aA D) (Z<|aA j) (Z<|aA o) (Z<|cn U) (Z<|aA t)) rfl (bM M<|bM N<|bM O<|bM Q<|bM A ?_) rfl,r,P.aj.sublist cz,λf go=>P.bn f<|cz.subset go,df cz.length_le aT⟩;refine bM (gp (eG<|eo C) rfl) (mN<|j4 (eG<|eo R) ?_);refine bM (UR:=fa (.lst I) (Z<|aA a) (Z<|aA F) (Z<|aA D) (Z<|aA j) (Z<|aA o) (Z<|cn U) (Z<|aA t)) (m4 (e6 (c3<|sa rfl rfl (fR rfl) rfl) (c3<|gQ rfl rfl rfl T) rfl rfl<|congrArg (Option.map ag.im) al) (f5 rfl) rfl) (fQ ?_);exact vu (ff (c3<|hv (n:=Z (6,cn U)) (UR:=fa (.lst I) (Z<|aA a) (Z<|aA F) (Z<|aA D) (Z<|aA j) (Z<|aA o) (Z .cQ) (Z<|aA t)) rfl c4 rfl) rfl) rfl rfl
  ·have R:h8 (aA a) (aA 6)=Z (.im<|.aE av):=congrArg (λd=>Z<|ag.im<|.aE d) (el bm);let⟨c,f8,T,ga,ge,m⟩:=ht (s:=s+592) (t:=3) z ⋯ ⋯;let⟨I,rfl⟩:=m.lst;obtain⟨t,al,bs,bv⟩:∃t:Int,eH [V.int 6,.int 24,.int 60] c=Z (.int t)/\1<=t/\t<=60:=by
    have:c=0\/c=1\/c=2:=⋯
    rcases this with rfl|rfl|rfl
    ·exact⟨6,rfl,by decide,by decide⟩
    ·exact⟨24,rfl,by decide,by decide⟩
    ·exact⟨60,rfl,by decide,by decide⟩
   let⟨am,gl,gt,lm,ln,r⟩:=ht (s:=s+591) (t:=t) m ⋯ ⋯;let⟨J,rfl⟩:=r.lst;let⟨ls,aa,g1,ca,g2⟩:=Q0 (s:=s) (t:=1+am) (r.mono ⋯) ⋯ ⋯;let⟨cd,rfl⟩:=ca.lst;refine⟨.lst cd,aa,fG (w:=fa (.lst cd) (Z<|aA a) (Z<|aA F) (Z<|aA D) (Z<|aA j) (Z<|aA o) (Z<|cn U) Y) rfl (bM M<|bM N<|bM O<|bM Q<|bM A ?_) rfl,ca,g2⟩;refine bM (gp (eG<|eo C) rfl) (bM (gp (eG<|eo R) rfl)<|fQ ?_);have g3:aD bH (ae<|f_<|aq (ae<|az<|.int 6)<|aq (ae<|az<|.int 24)<|aq (ae<|az<|.int 60) aG) (ae<|bL 2 G.dX<|aq (au 0)<|aq (ae<|az<|.int 3) aG) (fa (.lst b) (Z<|aA a) (Z<|aA F) (Z<|aA D) (Z<|aA j) (Z<|aA o) (Z<|cn U) Y)=Z (aA t,fa (.lst I) (Z<|aA a) (Z<|aA F) (Z<|aA D) (Z<|aA j) (Z<|aA o) (Z<|cn U) Y):=e6 (f:=.dv (.lst [.int 6,.int 24,.int 60])) (UR:=fa (.lst b) (Z<|aA a) (Z<|aA F) (Z<|aA D) (Z<|aA j) (Z<|aA o) (Z<|cn U) Y) rfl (c3<|eb (U5:=[.bF 0,.dv<|aA 3]) rfl rfl rfl T rfl) rfl rfl (congrArg (Option.map ag.im) al);have mk:aD dJ (ae<|az<|.int 1) (ae<|bL 2 G.dX<|aq (au 0)<|aq (ae<|aD bH (ae<|f_<|aq (ae<|az<|.int 6)<|aq (ae<|az<|.int 24)<|aq (ae<|az<|.int 60) aG)<|ae<|bL 2 G.dX<|aq (au 0)<|aq (ae<|az<|.int 3) aG) aG) (fa (.lst b) (Z<|aA a) (Z<|aA F) (Z<|aA D) (Z<|aA j) (Z<|aA o) (Z<|cn U) Y)=Z (aA<|1+am,fa (.lst J) (Z<|aA a) (Z<|aA F) (Z<|aA D) (Z<|aA j) (Z<|aA o) (Z<|cn U) Y):=e6 (UR:=fa (.lst b) (Z<|aA a) (Z<|aA F) (Z<|aA D) (Z<|aA j) (Z<|aA o) (Z<|cn U) Y) (f:=.dv (aA 1)) rfl (c3<|eb (U5:=[.bF 0,.dv<|aA t]) (ff rfl<|ff (c3 g3) rfl) rfl rfl gt rfl) rfl rfl rfl;exact eb (U5:=[.bF 0,.dv<|aA<|1+am]) (ff rfl<|ff (c3 mk) rfl) rfl rfl g1 rfl
def Rh{t:Nat}(e:∀j∈VJ,j.1=d/\1<=j.2.2/\j.2.2<=t):(∀j∈kl d VJ f,j.1=d/\1<=j.2.2/\j.2.2<=t+1)/\(kl d VJ f).length<=VJ.length+1:=by
 have a:∀j∈VJ,j.1=d/\1<=j.2.2/\j.2.2<=t+1:=λj UQ=>⟨(e j UQ).1,(e j UQ).2.1,Aj (e j UQ).2.2⟩;have one:(d,f,1).1=d/\1<=(d,f,1).2.2/\(d,f,1).2.2<=t+1:=⟨rfl,bb 1,Jo<|gk t⟩;cases VJ with
 |nil=>exact⟨λj UQ=>by rw[cN.mp UQ];exact one,bb 1⟩
 |cons j C=>
  unfold kl;dsimp only;split
  ·refine⟨λm ar=>?_,by rw[dz,dz];lia⟩;rcases b9.mp ar with rfl|ar
   ·have:=e j (.head _);exact⟨rfl,by show 1<=j.2.2+1;lia,by show j.2.2+1<=t+1;lia⟩
   ·exact a m (.tail _ ar)
  ·refine⟨λm ar=>?_,bb _⟩;rcases b9.mp ar with rfl|ar
   ·exact one
   ·exact a m ar
theorem Jp{aa:List a0}{d:Bool}:∀(a:List a0) (VJ:List aU) (t:Nat) (Vu VE:Option ag),(∀j∈VJ,j.1=d/\1<=j.2.2/\j.2.2<=t)->VJ.length<=t->t+a.length<=1000->
  ∃c g,en (bG 3) rq (a.map aH) (eS aa d VJ Vu VE)=Z (.bz,eS aa d (ov d VJ a) c g)/\(∀j∈ov d VJ a,j.1=d/\1<=j.2.2/\j.2.2<=1000)/\(ov d VJ a).length<=1000
 |[],VJ,t,Vu,VE,e,h,b=>⟨Vu,VE,rfl,λj UQ=>⟨(e j UQ).1,(e j UQ).2.1,by have:=(e j UQ).2.2;rw[iW]at b;lia⟩,by rw[iW]at b;exact df h ⋯⟩
 |f::a,VJ,t,Vu,VE,e,h,b=>by
  rw[dz]at b;let⟨i,l⟩:=Rh (f:=f) e;let⟨c,g,k,p⟩:=Jp (aa:=aa) a (kl d VJ f) (t+1) (Z<|.im<|aH f) (Z<|.im<|aH<|bt d f<|-1) i ⋯ ⋯;refine⟨c,g,?_,p⟩;rw[cw,en];show (rq<|eS aa d VJ (Z<|.im<|aH f) VE).bind _=_;rw[Sh (λj UQ=>⟨(e j UQ).1,(e j UQ).2.1⟩) ⋯ λj UQ=>by have:=(e j UQ).2.2;lia];exact k
def RQ(e:∀j∈VJ,j.1=d/\1<=j.2.2/\j.2.2<=1000)(c:VJ.length<=1000):∃VI f h,vC 2 (dh 1 [1] (dC<|au 2) (bG 0) et G.y_) (eS aa d VJ Vu VE)=Z (bB VJ.reverse,[Z (a3 aa),Z<|.im<|bK d,VI,f,h]):=by
 cases VJ with
 |nil=>exact⟨_,_,_,rfl⟩
 |cons j C=>
  generalize i:j::C=a at e c;have k:Av a=.dY (fc a):=by rw[<-i];exact nt j C
  have l:p4 (fc a)=Z (a.reverse.map λj=>(cls j).map aH):=by
   unfold fc;generalize a.reverse=I;induction I with
   |nil=>rfl
   |cons g I p=>
    rw[cw,p4,p];rfl
  have c4:dh 1 [1] (dC<|au 2) (bG 0) et G.y_ [Z (a3 aa),Z<|.im<|bK d,Z<|.c2<|(a.reverse.map λj=>(cls j).map aH).map .aT,Vu,VE]=Z (bB a.reverse,[Z (a3 aa),Z<|.im<|bK d,Z<|.c2<|(a.reverse.map λj=>(cls j).map aH).map .aT,Vu,VE]):=by
   rw[e7];refine hv (E:=a.reverse.map λj=>.aT<|(cls j).map aH) (n:=Y) (UR:=[Z (a3 aa),Z<|.im<|bK d,Z<|.c2<|a.reverse.map λj=>.aT<|(cls j).map aH,Vu,VE]) rfl (jo (λj=>.aT<|(cls j).map aH) aw a.reverse (λm ar=>?_) (by rw[Dd];lia)) rfl;let⟨rfl,q,u⟩:=e m (List.mem_reverse.mp ar);let⟨b,o,s⟩:=m;have r:tn (.im<|.aT<|(cls (b,o,s)).map aH) (.im<|.int 0)=Z (.im<|aH o):=by
    show (eH ((cls (b,o,s)).map aH) 0).map ag.im=_;have:((cls (b,o,s)).map aH)[0]?=Z (aH o):=by
     unfold cls;rw[dU,dU,Hx q];show Z (aH<|bt b o ((0:Nat):Int))=_;rw[show ((0:Nat):Int)=0 from rfl,jt]
    rw[show (0:Int)=((0:Nat):Int) from rfl,F2 this];rfl
   have t:vJ [.im (.aT<|(cls (b,o,s)).map aH)]=Z (.im<|.int (s:Int)):=by
    show Z (ag.im<|.int (((cls (b,o,s)).map aH).length:Int))=_;rw[bl,cls,bl,fM]
   exact⟨[Z (.im<|.aT<|(cls (b,o,s)).map aH),Z<|.im<|bK b],_,[Z (.im<|.aT<|(cls (b,o,s)).map aH),Z<|.im<|bK b],rfl,rfl,qD (b_ rfl<|b_ (bg<|eo r)<|b_ (bg<|d5 (b_ rfl rfl) rfl t) rfl) rfl (fR rfl) rfl,rfl⟩
  refine⟨Z<|.c2<|(a.reverse.map λj=>(cls j).map aH).map .aT,Vu,VE,?_⟩;unfold eS;rw[k];show (p4<|fc a).bind _=_;rw[l];exact c4
def GY(d:Bool)(aj:aa.Nodup)(m:aa.length<=900):∃UO:List aU,sC [a3 aa,.im<|bK d]=Z (bB UO,[a3 aa,.im<|bK d])/\UO.Perm (b3 aa d):=by
 let⟨u,y,B,a⟩:=MJ d aj ⋯;let⟨b,c,f,g,h⟩:=Jp (aa:=aa) (d:=d) u [] 0 Y Y (λ_ e=>by cases e) (bb 0) (by rw[B.length_eq];lia);let⟨i,j,k,Wf⟩:=RQ (aa:=aa) (Vu:=b) (VE:=c) g h;refine⟨(ov d [] u).reverse,?_,Rl ⋯ a B⟩;have l:q6 1 G.la (aq (au 0) aG) (eS aa d [] Y Y)=Z (cn u,eS aa d [] Y Y):=by
  show (uj la (bK d) [a3 aa]).map _=_;rw[y];rfl
 have af:dC (ae<|q6 1 G.la<|aq (au 0) aG) (eS aa d [] Y Y)=Z ((u.map aH,Y),eS aa d [] Y Y):=by
  unfold dC;rw[c3 l];rfl
 unfold sC C7;exact fG (w:=[Z (a3 aa),Z<|.im<|bK d,i,j,k]) rfl (bM (UR:=eS aa d [] Y Y) rfl<|bM (jO (n:=Y) af f rfl)<|fQ Wf) rfl
def KH{O Vx:List aU}(u:O.Perm Vx)(a:nQ O)(b:nQ Vx):O=Vx:=by
 refine IH (λf x W W y B=>?_) a b u;have:=rz (zJ f x) (zJ x f) y B;rw[qi]at this;cases this
def L9(aj:aa.Nodup)(p:aa.length<=400):∃UO:List aU,Cg [a3 aa]=Z (d8 UO,[a3 aa])/\vI [a3 aa]=Z (bB UO,[a3 aa])/\UO.length<=1000/\UO.Perm (b3 aa X++b3 aa av)/\nQ UO:=by
 have q:=nO (aa:=aa) (d:=X);have r:=nO (aa:=aa) (d:=av);have s:(b3 aa X++b3 aa av).Nodup:=dR.mpr ⟨As aj,As aj,λf h x i c=>by
  have e:=(kA ⋯ h).1;have j:=(kA ⋯ i).1;rw[c,j]at e;cases e⟩
 have gg:(b3 aa X++b3 aa av).length<=1000:=by rw[dW];lia
 let⟨O,k,VL⟩:=GY X aj (by lia:aa.length<=900);let⟨Vx,c5,dM⟩:=GY av aj (by lia:aa.length<=900);have Vr:=VL.append dM;let⟨UH,a,b,g⟩:=xw s gg;let⟨UO,m,n,o⟩:=xw (Vr.nodup_iff.mpr s) (by rw[Vr.length_eq];exact gg);have:UO=UH:=KH (n.trans<|Vr.trans b.symm) o g;subst this;refine⟨UO,?_,?_,by rw[b.length_eq];exact gg,b,g⟩
 ·have a:iK [bB (b3 aa X++b3 aa av)]=Z (bB UO):=(q8 a6 _).trans a;have ad:dJ (bB<|b3 aa X) (bB<|b3 aa av)=Z (bB<|b3 aa X++b3 aa av):=by
   show (if ((b3 aa X).map aw).length+((b3 aa av).map aw).length<=100000 then Z (ag.lst<|(b3 aa X).map aw++(b3 aa av).map aw) else Y)=_;rw[aK (by rw[bl,bl];lia),<-gz]
  unfold Cg Cm;exact fG (w:=[Z (a3 aa)]) rfl (fQ (d5 (b_ (bg (d5 (b_ (bg (cg (bg (eb (U5:=[.bF 0,.dv<|.im<|bK X]) rfl rfl rfl (xP aj ⋯ X) rfl)) (bg (eb (U5:=[.bF 0,.dv<|.im<|bK av]) rfl rfl rfl (xP aj ⋯ av) rfl)) rfl rfl ad)) rfl) rfl a)) rfl) rfl rfl)) rfl
 ·have a:iK [bB (O++Vx)]=Z (bB UO):=(q8 a6 _).trans m;have aB:=VL.length_eq;have l:=dM.length_eq;have ad:dJ (bB O) (bB Vx)=Z (bB<|O++Vx):=by
   show (if (O.map aw).length+(Vx.map aw).length<=100000 then Z (ag.lst<|O.map aw++Vx.map aw) else Y)=_;rw[aK (by rw[bl,bl];lia),<-gz]
  unfold vI E6;exact fG (w:=[Z (a3 aa)]) rfl (fQ<|d5 (b_ (bg<|cg (bg<|eb (U5:=[.bF 0,.dv<|.im<|bK X]) rfl rfl rfl k rfl) (bg<|eb (U5:=[.bF 0,.dv<|.im<|bK av]) rfl rfl rfl c5 rfl) rfl rfl ad) rfl) rfl a) rfl
def Rb(I:List V):hV I I=I.map λr=>.tup [r,r]:=by
 induction I with
 |nil=>rfl
 |cons r j a=>rw[hV,a];rfl
def qH(s:Nat){I:List V}(c:I.length<=1000)(e:∀r∈I,i4 (s+1) [.im r,.im r]=Z (k6 X,[.im r,.im r])):i4 (s+2) [.im (.tup I),.im<|.tup I]=Z (k6 X,[.im (.tup I),.im<|.tup I]):=by
 have b:dh 2 [] (AG<|aq (au 0)<|aq (au 1) aG) (g0 2<|d2 (bG 0)<|d2 (bG 1) hh) et (G.A9<|i4<|s+1) [Z (.im<|.tup I),Z<|.im<|.tup I]=Z (.lst<|I.map λ_=>.aE X,[Z (.im<|.tup I),Z<|.im<|.tup I]):=by
  refine hv (E:=I.map λr=>.tup [r,r]) (n:=Y) (UR:=[Z (.im<|.tup I),Z<|.im<|.tup I]) ?_ (jo (λr=>.tup [r,r]) (λ_=>.aE X) I (λr hd=>?_) ⋯) rfl
  ·show Z ((hV I I,Y),_)=_;rw[Rb]
  ·exact⟨[Z (.im r),Z<|.im r],_,[Z (.im r),Z<|.im r],rfl,rfl,eb (U5:=[.bF 0,.bF 1]) rfl rfl rfl (e r hd) rfl,rfl⟩
 have a:=Tu (λ_:V=>X) I;rw[show (I.all λ_=>X)=X from kg.mpr λ_ W=>rfl]at a;have p:=GU (I.length:Int) (I.length:Int);rw[dQ rfl]at p;rw[i4];unfold zL;exact fG (w:=[Z (.im<|.tup I),Z<|.im<|.tup I]) rfl (mN<|j4 rfl<|bM (gp (nc rfl<|eG<|cg (bg<|d5 rfl rfl rfl) (bg<|d5 rfl rfl rfl) rfl rfl p) rfl)<|fQ<|d5 (b_ (bg b) rfl) rfl a) rfl
def r3(s:Nat)(a:Int):i4 (s+1) [aA a,aA a]=Z (k6 X,[aA a,aA a]):=by
 rw[i4];unfold zL;have p:=u5 a a;rw[dQ rfl]at p;exact qk [Z (aA a),Z<|aA a] rfl (bM (gp rfl rfl)<|bM (gp rfl rfl)<|fQ<|KL<|o5 rfl<|o5 rfl<|eG<|eo p) rfl
def SO(s:Nat)(d:Bool):i4 (s+1) [.im (bK d),.im<|bK d]=Z (k6 X,[.im (bK d),.im<|bK d]):=by cases d<;>rfl
def HL:ay ag:=((cV<|aq (ae<|aD dJ (ae<|aD bH (au 1)<|ae<|az<|.int 0)<|ae<|aD es (au 0)<|ae<|cH vInt<|aq (ae<|aD e3 (au 2)<|ae<|az<|.str "down") aG)<|aq (ae<|aD dJ (ae<|aD bH (au 1)<|ae<|az<|.int 1)<|ae<|aD es (au 0)<|ae<|cH vInt<|aq (ae<|aD e3 (au 2)<|ae<|az<|.str "right") aG) aG))
def D3:bO:=((bE (eX (dS 0)<|g0 3<|d2 (bG 1)<|d2 (bG 2)<|d2 (bG 3) hh)<|dd<|dh 1 [2,1] (ha<|aq (au 3) aG) (bG 0) et G.HL))
def nW:dA:=(dF 1 4 [0] D3)
def ED:ay ag:=((aD hP (au 0)<|au 1))
def B0:ay ag:=((aD hP (au 0)<|au 1))
def Dx:bO:=((j_<|iy lE 4 wi<|aq (ae<|bL 1 G.nW<|aq (au 5) aG) aG))
def C3:ay ag:=((aD hP (au 0)<|au 1))
def BL:ay ag:=((dS 0))
def DX:ay Bool:=((b1<|aD hP (au 0)<|au 1))
def Iy:ay ag:=((aD h8 (ae<|cH fo<|aq (ae<|dh 1 [1] (dC<|ae<|bL 1 G.nW<|aq (au 0) aG) (bG 0) G.DX G.BL) aG)<|ae<|az<|.int 2))
def Em:bO:=((bE (cD 3<|bL 1 G.vI<|aq (au 0) aG)<|bE (dP (iO (hB<|gX<|ae<|kB "tuple"<|au 1)<|iO (hB<|gX<|ae<|kB "tuple"<|au 2)<|b1<|aD jd (ae<|cH fo<|aq (au 1) aG)<|ae<|cH fo<|aq (au 2) aG) (dd<|az<|.aE av) eD)<|bE (dP (iO (hB<|gX<|ae<|cH k_<|aq (ae<|dh 1 [3] (dC<|au 1) (bG 0) et G.ED) aG)<|hB<|gX<|ae<|cH k_<|aq (ae<|dh 1 [0] (dC<|au 2) (bG 0) et G.B0) aG) (dd<|az<|.aE av) eD)<|bE (dP (iO (b1<|aD jd (ae<|cH tf<|aq (au 1) aG)<|ae<|lY<|aq (au 1) aG)<|b1<|aD jd (ae<|cH tf<|aq (au 2) aG)<|ae<|lY<|aq (au 2) aG) (dd<|az<|.aE av) eD)<|bE (cD 4<|f_ aG)<|bE (g8 (dC<|au 1) (bG 5) G.Dx)<|bE (dP (hB<|gX<|ae<|cH k_<|aq (ae<|dh 1 [4] (dC<|au 0) (bG 0) et G.C3) aG) (dd<|az<|.aE av) eD)<|dd<|cH k_<|aq (ae<|dh 1 [2] (dC<|au 3) (bG 0) et G.Iy) aG))
def vX:dA:=(dF 3 6 [0,1,2] Em)
def wN:bO:=((bE (cD 4<|bL 1 G.uR<|aq (au 2) aG)<|bE (cD 5<|bL 1 G.oa<|aq (au 4) aG)<|bE (dP (iO (hB<|gX<|ae<|kB "tuple"<|au 5)<|iO (b1<|aD jd (ae<|cH fo<|aq (au 5) aG)<|ae<|az<|.int 2)<|hB<|gX<|ae<|bL 3 G.vX<|aq (au 4)<|aq (ae<|aD bH (au 5)<|ae<|az<|.int 0)<|aq (ae<|aD bH (au 5)<|ae<|az<|.int 1) aG) (dd<|az<|.aE av) eD)<|dP (iO (hB<|gX<|ae<|bL 2 (G.i4 8)<|aq (au 5)<|aq (au 5) aG)<|hB<|gX<|ae<|bL 2 (G.i4 8)<|aq (ae<|bL 1 G.oa<|aq (au 4) aG)<|aq (au 5) aG) (dd<|az<|.aE av) eD))
def wB:bO:=((bE (cD 2<|bL 2 G.vv<|aq (au 0)<|aq (au 1) aG)<|g8 (ha<|aq (ae<|az<|.int 2) aG) (bG 3) G.wN))
def Dp:bO:=((bE (g8 (ha<|aq (ae<|cH qL<|aq (ae<|az<|.int 1)<|aq (ae<|cH q9<|aq (ae<|az<|.int 6)<|aq (ae<|cH fo<|aq (au 0) aG) aG) aG) aG) (bG 1) G.wB)<|dd<|aD e3 (ae<|bL 1 G.oa<|aq (ae<|cV aG) aG)<|ae<|cV<|aq (ae<|cV aG)<|aq (ae<|cV aG) aG))
def pP:dA:=(dF 1 6 [0] Dp)
def IY{j:aU}(e:j.2.2<=1000):nW [.im (aw j)]=Z (cn<|cls j,[.im (aw j)]):=by
 let⟨d,o,s⟩:=j;have e:s<=1000:=e;have mk:∀(f:Int) (d:Bool),es (aA f) (aA<|if d then 1 else 0)=Z (aA<|f*(if d then 1 else 0)):=λf d=>js (nM (by cases d<;>decide) (by cases d<;>decide));have c4:dh 1 [2,1] (ha<|aq (au 3) aG) (bG 0) et G.HL [Z (.im<|aw (d,o,s)),Z<|.im<|bK d,Z<|.im<|aH o,Z<|aA (s:Int)]=Z (.lst<|(range s).map λ(q:Nat)=>aH<|bt d o q,[Z (.im<|aw (d,o,s)),Z<|.im<|bK d,Z<|.im<|aH o,Z<|aA (s:Int)]):=by
  refine hv (E:=(range s).map λ(q:Nat)=>V.int<|0+(q:Int)) (n:=Y) (UR:=[Z (.im<|aw (d,o,s)),Z<|.im<|bK d,Z<|.im<|aH o,Z<|aA (s:Int)]) (rm (i:=(s:Int)) rfl rfl ⟨⋯,⋯⟩) (jo (λ(q:Nat)=>V.int<|0+(q:Int)) (λ(q:Nat)=>aH<|bt d o q) _ (λq g=>?_) (by rw[fM];lia)) rfl;refine⟨[Z (aA<|0+q),Z<|.im<|aH o,Z<|.im<|bK d],_,[Z (aA<|0+q),Z<|.im<|aH o,Z<|.im<|bK d],rfl,rfl,?_,rfl⟩;have c:aH (bt d o q)=.tup [.int (o.1+(0+(q:Int))*(if d then 1 else 0)),.int<|o.2+(0+(q:Int))*(if (!d) then 1 else 0)]:=by
   cases d
   ·show aH (o.1,o.2+(q:Int))=.tup [.int (o.1+(0+(q:Int))*0),.int<|o.2+(0+(q:Int))*1];rw[show o.1+(0+(q:Int))*0=o.1 by lia,show o.2+(0+(q:Int))*1=o.2+q by lia];rfl
   ·show aH (o.1+(q:Int),o.2)=.tup [.int (o.1+(0+(q:Int))*1),.int<|o.2+(0+(q:Int))*0];rw[show o.1+(0+(q:Int))*1=o.1+q by lia,show o.2+(0+(q:Int))*0=o.2 by lia];rfl
  rw[c];have a:=mk (0+(q:Int)) d;have b:=mk (0+(q:Int)) (!d);cases d
  ·exact qD (b_ (bg<|cg (bg<|cg rfl rfl rfl rfl rfl) (bg<|cg rfl (bg<|d5 (b_ (bg rfl) rfl) rfl rfl) rfl rfl a) rfl rfl rfl)<|b_ (bg<|cg (bg<|cg rfl rfl rfl rfl rfl) (bg<|cg rfl (bg<|d5 (b_ (bg rfl) rfl) rfl rfl) rfl rfl b) rfl rfl rfl) rfl) rfl (fR rfl) rfl
  ·exact qD (b_ (bg<|cg (bg<|cg rfl rfl rfl rfl rfl) (bg<|cg rfl (bg<|d5 (b_ (bg rfl) rfl) rfl rfl) rfl rfl a) rfl rfl rfl)<|b_ (bg<|cg (bg<|cg rfl rfl rfl rfl rfl) (bg<|cg rfl (bg<|d5 (b_ (bg rfl) rfl) rfl rfl) rfl rfl b) rfl rfl rfl) rfl) rfl (fR rfl) rfl
 unfold nW D3;refine fG (w:=[Z (.im<|aw (d,o,s)),Z<|.im<|bK d,Z<|.im<|aH o,Z<|aA (s:Int)]) rfl (bM (UR:=[Z (.im<|aw (d,o,s)),Z<|.im<|bK d,Z<|.im<|aH o,Z<|aA (s:Int)]) rfl<|fQ<|c4.trans ?_) rfl;unfold cls cn;rw[e7];rfl
theorem Gl:∀(I Vv:List (List V)),(Vv++I).Nodup->I.foldl ir Vv=Vv++I
 |[],Vv,_=>by rw[b8];rfl
 |q::I,Vv,aj=>by
  have a:q∉Vv:=λk=>(dR.mp aj).2.2 q k q (.head _) rfl;rw[lg,show ir Vv q=Vv++[q] from aL a,Gl I (Vv++[q]) (by rw[bq];exact aj),bq];rfl
def BS{M:List (List V)}(aj:M.Nodup)(h:M.length<=290)(b:ie (M.map .tup))(ok:∀q∈M,V.keys 7 q=X)(c:(M.map V.tup).Pairwise λg d=>bp g d=X)(e:F w=Z (U5,UR))(f:gw UR U5=Z [.im (.tup<|M.map .tup)]):lY F w=Z (.lst<|M.map .tup,UR):=by
 have a:hp M=M:=by
  unfold hp;rw[Gl _ [] (by rw[lQ];exact aj),lQ]
 unfold lY;rw[e];show (gw UR U5).bind _=_;rw[f];show (pd<|M.map V.tup).bind _=_;rw[DE];have y:uU M=X:=by
  rw[FD,a];exact⟨ok,⋯⟩
 have B:pg ((hp M).map .tup)=X:=by
  rw[a];exact n3.mpr b
 refine (aK ⟨y,B⟩).trans ?_;rw[a,<-Rk b.1 (.refl _) c]
def O4(J:nQ UM):UM.Nodup:=J.imp λ{g d} c k=>by rw[k,qi]at c;cases c
def LD(J:qZ b):b.Nodup:=J.imp λ{g d} c k=>by rw[k,qi]at c;cases c
def PL(J:nQ UM)(b:UM.length<=290)(d:F w=Z (U5,UR))(e:gw UR U5=Z [d8 UM]):lY F w=Z (bB UM,UR):=by
 have a:(UM.map a6).map V.tup=UM.map aw:=by rw[e7];rfl
 have aj:=O4 J;have:=BS (M:=UM.map a6) (kn (λf W x W c=>gr _ _ c) aj) (by rw[bl];exact b) (by rw[a];exact C2 aj ⋯) (λq g=>by let⟨j,W,rfl⟩:=da.mp g;exact g6 j) (by rw[a];exact nU.mpr J) d (by rw[a];exact e);rw[a]at this;exact this
def Mo(J:qZ b)(d:b.length<=290)(e:F w=Z (U5,UR))(g:gw UR U5=Z [a3 b]):lY F w=Z (cn b,UR):=by
 have a:(b.map ee).map V.tup=b.map aH:=by rw[e7];rfl
 have aj:=LD J;have:=BS (M:=b.map ee) (kn (λf W x W c=>vL c) aj) (by rw[bl];exact d) (by rw[a];exact Hb aj ⋯) (λq h=>by let⟨j,W,rfl⟩:=da.mp h;exact uv j) (by rw[a];exact nU.mpr J) e (by rw[a];exact g);rw[a]at this;exact this
def IV(j:aU):V.bQ 8 (aw j)=X:=by let⟨d,o,s⟩:=j;cases d<;>rfl
theorem yu:∀UM:List aU,V.dj 8 (UM.map aw)=X
 |[]=>rfl
 |j::UM=>by rw[cw,V.dj,IV,yu UM];rfl
def Ci(j:aU):ck (aw j) (aw j)=X:=by
 let⟨d,o,s⟩:=j;have c:ck (aw (d,o,s)) (aw (d,o,s))=(ck (bK d) (bK d)&&(ck (aH o) (aH o)&&((V.int (s:Int)).beq (.int s)&&X))):=by cases d<;>rfl
 rw[show ck (aw (d,o,s)) (aw (d,o,s))=(ck (bK d) (bK d)&&(ck (aH o) (aH o)&&(((s:Int)==(s:Int))&&X))) from rfl,r4,dQ rfl];cases d<;>simp<;>rfl
theorem GR:∀UM:List aU,eY (UM.map aw) (UM.map aw)=X
 |[]=>rfl
 |j::UM=>by rw[cw,eY,Ci,GR UM];rfl
def NO{UO:List aU}{j:aU}(e:j∈UO):hP (.im<|aw j) (bB UO)=Z (.im<|.aE X):=by
 show (gW (aw j)<|bB UO).map (λj=>ag.im<|.aE j)=_;rw[Bz,IV,yu,aK<|show (X&&X)=X from rfl];rw[show ((UO.map aw).any λf=>ck f<|aw j)=X from ve.mpr ⟨aw j,xN e,Ci j⟩];rfl
def If(UM:List aU):jd (bB UM) (bB UM)=Z (.im<|.aE av):=by
 show (if (V.dj 8 (UM.map aw)&&V.dj 8 (UM.map aw))=X then Z (ag.im<|.aE<|!eY (UM.map aw) (UM.map aw)) else Y)=_;rw[yu,aK<|show (X&&X)=X from rfl,GR];rfl
def QU(b:List a0):jd (cn b) (cn b)=Z (.im<|.aE av):=by
 show (if (V.dj 8 (b.map aH)&&V.dj 8 (b.map aH))=X then Z (ag.im<|.aE<|!eY (b.map aH) (b.map aH)) else Y)=_;rw[wk,aK<|show (X&&X)=X from rfl,Cc,dQ rfl];rfl
def HF(j:aU):(cls j).length=j.2.2:=by rw[cls,bl,fM]
theorem D1{a b Vo Vu:Option ag}:∀(UM:List aU) (ar:List a0) (Vp:Option ag),(∀j∈UM,j.2.2<=100)->ar.length+100*UM.length<=100000->
  ∃c d,en (bG 5) Dx (UM.map aw) [a,b,Vo,Vu,Z<|cn ar,Vp]=Z (.bz,[a,b,Vo,Vu,Z<|cn c,d])/\(∀o∈ar,o∈c)/\∀j∈UM,∀o∈cls j,o∈c
 |[],ar,Vp,_,_=>⟨ar,Vp,rfl,λ_ e=>e,λ_ e=>nomatch e⟩
 |j::UM,ar,Vp,UQ,g=>by
  rw[dz]at g;have p:=UQ j (.head _);have q:=HF j;let⟨c,d,h,f,i⟩:=D1 (a:=a) (b:=b) (Vo:=Vo) (Vu:=Vu) UM (ar++cls j) (Z<|.im<|aw j) (λm k=>UQ m<|.tail _ k) (by rw[dW];lia);refine⟨c,d,?_,λo k=>f o<|fl _ k,λm l o k=>?_⟩
  ·rw[cw];refine qu (UR:=[a,b,Vo,Vu,Z<|cn ar,Z<|.im<|aw j]) rfl ?_ h;have n:wi (cn ar) [cn (cls j)]=Z (.im .aS,cn<|ar++cls j):=by
    show (if (ar.map aH).length+((cls j).map aH).length<=100000 then Z (ag.im .aS,ag.lst<|ar.map aH++(cls j).map aH) else Y)=_;rw[aK (by rw[bl,bl];lia),<-gz]
   exact n5 (pD (o:=cn ar) rfl rfl (b_ (bg (eb (U5:=[.bF 5]) rfl rfl rfl (IY ⋯) rfl)) rfl) rfl rfl n rfl)
  ·rcases b9.mp l with F|F
   ·rw[F]at k;exact f o (dT _ k)
   ·exact i m F o k
def MY(aj:aa.Nodup)(q:aa.length<=100){UM:List aU}{b:List a0}(W:zk aa UM b):vX [a3 aa,d8 UM,a3 b]=Z (k6 X,[a3 aa,d8 UM,a3 b]):=by
 let⟨UO,U,r,M,u,U⟩:=L9 aj ⋯;have a:∀j,j∈UO↔j∈b3 aa X\/j∈b3 aa av:=λj=>by rw[u.mem_iff,ed]
 have s:=df W.dI q;have N:b.length<=100:=by rw[<-W.len];exact s
 have m:∀j∈UO,∃d,j∈b3 aa d:=λj UQ=>by
  rcases (a j).mp UQ with k|k
  ·exact⟨X,k⟩
  ·exact⟨av,k⟩
 let⟨ar,Vp,y,U,t⟩:=D1 (a:=Z (a3 aa)) (b:=Z (d8 UM)) (Vo:=Z (a3 b)) (Vu:=Z (bB UO)) UM [] Y (λj UQ=>by
  let⟨d,k⟩:=m j ((a j).mpr<|W.j1 j UQ);have:=(kA ⋯ k).2.2;lia) (by rw[iW];lia)
 have v:fo [d8 UM]=Z (aA (UM.length:Int)):=by
  show Z (ag.im<|.int ((UM.map aw).length:Int))=_;rw[bl]
 have ne:jd (aA (UM.length:Int)) (aA (b.length:Int))=Z (.im<|.aE av):=(GU _ _).trans (by rw[W.len,dQ rfl];rfl);have z:dh 1 [3] (dC<|au 1) (bG 0) et G.ED [Z (a3 aa),Z<|d8 UM,Z<|a3 b,Z<|bB UO,Y,Y]=Z (.lst<|UM.map λ_=>.aE X,[Z (a3 aa),Z<|d8 UM,Z<|a3 b,Z<|bB UO,Y,Y]):=
  hv (E:=UM.map aw) (n:=Y) (UR:=[Z (a3 aa),Z<|d8 UM,Z<|a3 b,Z<|bB UO,Y,Y]) rfl (jo aw (λ_=>.aE X) _ (λj UQ=>⟨[Z (.im<|aw j),Z<|bB UO],_,[Z (.im<|aw j),Z<|bB UO],rfl,rfl,eo<|NO<|(a j).mpr<|W.j1 j UQ,rfl⟩) ⋯) rfl;have c:dh 1 [0] (dC<|au 2) (bG 0) et G.B0 [Z (a3 aa),Z<|d8 UM,Z<|a3 b,Z<|bB UO,Y,Y]=Z (.lst<|b.map λ_=>.aE X,[Z (a3 aa),Z<|d8 UM,Z<|a3 b,Z<|bB UO,Y,Y]):=
  hv (E:=b.map aH) (n:=Y) (UR:=[Z (a3 aa),Z<|d8 UM,Z<|a3 b,Z<|bB UO,Y,Y]) rfl (jo aH (λ_=>.aE X) _ (λo g=>⟨[Z (.im<|aH o),Z<|a3 aa],_,[Z (.im<|aH o),Z<|a3 aa],rfl,rfl,eo ((CN aa o).trans (by rw[dQ (show o∈aa from W.ap.1 o g)])),rfl⟩) ⋯) rfl;have A:dh 1 [4] (dC<|au 0) (bG 0) et G.C3 [Z (a3 aa),Z<|d8 UM,Z<|a3 b,Z<|bB UO,Z<|cn ar,Vp]=Z (.lst<|aa.map λ_=>.aE X,[Z (a3 aa),Z<|d8 UM,Z<|a3 b,Z<|bB UO,Z<|cn ar,Vp]):=by
  refine hv (E:=aa.map aH) (n:=Y) (UR:=[Z (a3 aa),Z<|d8 UM,Z<|a3 b,Z<|bB UO,Z<|cn ar,Vp]) rfl (jo aH (λ_=>.aE X) _ (λo g=>?_) ⋯) rfl;let⟨j,UQ,e⟩:=W.hold o g;exact⟨[Z (.im<|aH o),Z<|cn ar],_,[Z (.im<|aH o),Z<|cn ar],rfl,rfl,eo ((RL ar o).trans (by rw[dQ (t j UQ o e)])),rfl⟩
 have B:dh 1 [2] (dC<|au 3) (bG 0) et G.Iy [Z (a3 aa),Z<|d8 UM,Z<|a3 b,Z<|bB UO,Z<|cn ar,Vp]=Z (.lst<|UO.map λ_=>.aE X,[Z (a3 aa),Z<|d8 UM,Z<|a3 b,Z<|bB UO,Z<|cn ar,Vp]):=by
  refine hv (E:=UO.map aw) (n:=Z (3,bB UO)) (UR:=[Z (a3 aa),Z<|d8 UM,Z<|a3 b,Z .cQ,Z<|cn ar,Vp]) rfl (jo aw (λ_=>.aE X) _ (λj UQ=>?_) ⋯) rfl;refine⟨[Z (.im<|aw j),Z<|a3 b],_,[Z (.im<|aw j),Z<|a3 b],rfl,rfl,?_,rfl⟩;let⟨d,h⟩:=m j UQ;have gg:=(kA ⋯ h).2.2;have Q:(cls j).length<=aa.length:=by rw[HF];exact gg
  have c:dh 1 [1] (dC<|ae<|bL 1 G.nW<|aq (au 0) aG) (bG 0) G.DX G.BL [Z (.im<|aw j),Z<|a3 b]=Z (cn<|(cls j).filter λo=>decide (o∈b),[Z (.im<|aw j),Z<|a3 b]):=by
   refine hv (E:=(cls j).map aH) (n:=Y) (UR:=[Z (.im<|aw j),Z<|a3 b]) ?_ (pG aH (λo=>decide (o∈b)) aH _ [] (λo U=>?_) (by rw[iW];lia)) rfl
   ·have C:bL 1 G.nW (aq (au 0) aG) [Z (.im<|aw j),Z<|a3 b]=Z (cn<|cls j,[Z (.im<|aw j),Z<|a3 b]):=eb (U5:=[.bF 0]) rfl rfl rfl (IY ⋯) rfl;unfold dC;rw[c3 C];rfl
   ·exact⟨[Z (.im<|aH o),Z<|a3 b],[Z (.im<|aH o),Z<|a3 b],rfl,eG<|eo<|CN b o,λ_=>rfl,λ_=>⟨[Z (.im<|aH o),Z<|a3 b],rfl,rfl⟩⟩
  have one:((cls j).filter λo=>decide (o∈b)).length<=1:=RC ((OK j).sublist GI) λf D x F=>by
   let⟨H,i⟩:=qj.mp D;let⟨I,l⟩:=qj.mp F;have i:=fY i;have l:=fY l;have p:=((jH ⋯ h).mp H).symm.trans ((jH ⋯ h).mp I);exact GK b W.ap.2 i l p
  refine cg (bg<|d5 (b_ (bg c) rfl) rfl rfl) rfl rfl rfl ?_;show Z (ag.im<|.aE<|decide (((((cls j).filter λo=>decide (o∈b)).map aH).length:Int)<2))=_;rw[bl,dQ ⋯]
 have J:lY (aq (au 1) aG) [Z (a3 aa),Z<|d8 UM,Z<|a3 b,Z<|bB UO,Y,Y]=Z (bB UM,[Z (a3 aa),Z<|d8 UM,Z<|a3 b,Z<|bB UO,Y,Y]):=PL (U5:=[.bF 1]) W.wg ⋯ rfl rfl;have L:lY (aq (au 2) aG) [Z (a3 aa),Z<|d8 UM,Z<|a3 b,Z<|bB UO,Y,Y]=Z (cn b,[Z (a3 aa),Z<|d8 UM,Z<|a3 b,Z<|bB UO,Y,Y]):=Mo (U5:=[.bF 2]) W.T1 ⋯ rfl rfl;have aT:dC (au 1) [Z (a3 aa),Z<|d8 UM,Z<|a3 b,Z<|bB UO,Z<|cn [],Y]=Z ((UM.map aw,Y),[Z (a3 aa),Z<|d8 UM,Z<|a3 b,Z<|bB UO,Z<|cn [],Y]):=rfl;unfold vX Em;refine fG (w:=[Z (a3 aa),Z<|d8 UM,Z<|a3 b,Z<|bB UO,Z<|cn ar,Vp]) rfl ?_ rfl;refine bM (UR:=[Z (a3 aa),Z<|d8 UM,Z<|a3 b,Z<|bB UO,Y,Y]) (i9 (eb (U5:=[.bF 0]) rfl rfl rfl r rfl) (f5 rfl) rfl) ?_;refine bM (UR:=[Z (a3 aa),Z<|d8 UM,Z<|a3 b,Z<|bB UO,Y,Y]) (gp (nc rfl<|nc rfl<|eG<|cg (bg<|d5 (b_ rfl rfl) rfl v) (bg<|d5 (b_ rfl rfl) rfl<|TH b) rfl rfl ne) rfl) ?_;refine bM (UR:=[Z (a3 aa),Z<|d8 UM,Z<|a3 b,Z<|bB UO,Y,Y]) (gp (nc (p_<|oJ (bg<|d5 (b_ (bg z) rfl) rfl<|uX UM) rfl rfl)<|p_<|oJ (bg<|d5 (b_ (bg c) rfl) rfl<|uX b) rfl rfl) rfl) ?_;refine bM (UR:=[Z (a3 aa),Z<|d8 UM,Z<|a3 b,Z<|bB UO,Y,Y]) (gp (nc (eG<|cg (bg<|d5 (b_ rfl rfl) rfl rfl) (bg J) rfl rfl<|If UM)<|eG<|cg (bg<|d5 (b_ rfl rfl) rfl rfl) (bg L) rfl rfl<|QU b) rfl) ?_;refine bM (UR:=[Z (a3 aa),Z<|d8 UM,Z<|a3 b,Z<|bB UO,Z<|cn [],Y]) rfl ?_;refine bM (UR:=[Z (a3 aa),Z<|d8 UM,Z<|a3 b,Z<|bB UO,Z<|cn ar,Vp]) (jO (n:=Y) aT y rfl) ?_;refine bM (UR:=[Z (a3 aa),Z<|d8 UM,Z<|a3 b,Z<|bB UO,Z<|cn ar,Vp]) (gp (p_<|oJ (bg<|d5 (b_ (bg A) rfl) rfl<|uX aa) rfl rfl) rfl) ?_;exact fQ (d5 (b_ (bg B) rfl) rfl<|uX UO)
abbrev l3(UM:List aU)(b:List a0):ag:=.im (.tup [.tup (UM.map aw),.tup<|b.map aH])
def Kb(a:UM.length<=1000)(c:b.length<=1000):i4 8 [l3 UM b,l3 UM b]=Z (k6 X,[l3 UM b,l3 UM b]):=
 qH 6 (fR rfl) λr hd=>by
  simp only[b9,iZ,lH]at hd;rcases hd with rfl|rfl
  ·refine qH 5 (by rw[bl];exact a) λr hd=>?_;let⟨⟨d,o,s⟩,W,rfl⟩:=da.mp hd;refine qH 4 (fR rfl) λr hd=>?_;simp only[a6,b9,iZ,lH]at hd;rcases hd with rfl|rfl|rfl
   ·exact SO 4 d
   ·refine qH 3 (fR rfl) λr hd=>?_;rcases b9.mp hd with rfl|hd
    ·exact r3 3 o.1
    ·rw[cN.mp hd];exact r3 3 o.2
   ·exact r3 4 (s:Int)
  ·refine qH 5 (by rw[bl];exact c) λr hd=>?_;let⟨o,W,rfl⟩:=da.mp hd;refine qH 4 (fR rfl) λr hd=>?_;rcases b9.mp hd with rfl|hd
   ·exact r3 4 o.1
   ·rw[cN.mp hd];exact r3 4 o.2
def M_{a c:Option ag}(h:fu (s+600) e):∃S i j,wN [a,c,Z e,Vu,VE,Vp]=Z (.bz,[a,c,Z S,Vu,i,j])/\fu s S:=by
 let⟨S,aa,k,Q,P⟩:=OA h;have f3:=P.len;let⟨UM,b,f,W⟩:=HP P.aj ⋯;have m:=W.dI;have n:=W.len;have l:=MY P.aj ⋯ W;have g:=Kb (UM:=UM) (b:=b) ⋯ ⋯;let⟨o,rfl⟩:=h.lst;let⟨d,rfl⟩:=Q.lst;refine⟨_,Z<|a3 aa,Z<|l3 UM b,?_,Q⟩;unfold wN;refine bM (UR:=[a,c,Z<|.lst d,Vu,Z<|a3 aa,Vp]) (m4 (UR:=[a,c,Z<|.lst d,Vu,VE,Vp]) (eb (U5:=[.bF 2]) rfl rfl rfl k rfl) (f5 rfl) rfl) (bM (UR:=[a,c,Z<|.lst d,Vu,Z<|a3 aa,Z<|l3 UM b]) (i9 (eb (U5:=[.bF 4]) rfl rfl rfl f rfl) (f5 rfl) rfl) ?_);refine bM (UR:=[a,c,Z<|.lst d,Vu,Z<|a3 aa,Z<|l3 UM b]) (gp (nc rfl<|nc rfl<|p_<|oJ (bg<|eb (U5:=[.bF 4,.dv<|d8 UM,.dv<|a3 b]) (b_ rfl<|b_ (bg<|cg rfl rfl rfl rfl rfl)<|b_ (bg<|cg rfl rfl rfl rfl rfl) rfl) rfl rfl l rfl) rfl rfl) rfl) ?_;exact gp (nc (p_<|oJ (bg<|eb (U5:=[.bF 5,.bF 5]) rfl rfl rfl g rfl) rfl rfl)<|p_<|oJ (bg<|eb (U5:=[.dv (l3 UM b),.bF 5]) (b_ (bg<|eb (U5:=[.bF 4]) rfl rfl rfl f rfl)<|b_ rfl rfl) rfl rfl g rfl) rfl rfl) rfl
def Tp{Vo:Option ag}(k:0<=q)(Vf:q<1000):∃VI i b g,wB [Z (.c2<|U8.map .int),Z<|aA q,Vo,Vu,VE,Vp]=Z (.bz,[Z (.c2<|U8.map .int),Z<|aA q,VI,i,b,g]):=by
 let⟨y,l,UP⟩:=NP (U8:=U8) k Vf;let⟨j,rfl⟩:=UP.lst;let⟨U4,m,B,i,b,g,rfl,W⟩:=A5 (Ve:=bG 3) (d:=wN) (E:=hA 0 2) (λa w=>∃e i b g,w=[Z (.c2<|U8.map .int),Z<|aA q,Z e,i,b,g]/\fu (1000000-1000*a) e) (w:=[Z (.c2<|U8.map .int),Z<|aA q,Z<|.lst j,Vu,VE,Vp]) ⟨_,_,_,_,rfl,UP⟩
  (λa f w o ef=>by
   let⟨e,i,b,g,rfl,h⟩:=ef;have UN:a<2:=by
    have:=(eV.mp o).1
    rwa [hA,bl,fM]at this
   let⟨S,p,r,c,Q⟩:=M_ (s:=1000000-1000*(a+1)) (e:=e) (a:=Z (.c2<|U8.map .int)) (c:=Z (aA q)) (Vu:=Z (.im f)) (VE:=b) (Vp:=g) (h.mono ⋯);exact⟨[Z (.c2<|U8.map .int),Z<|aA q,Z e,Z<|.im f,b,g],.bz,_,rfl,c,.inl rfl,_,_,_,_,rfl,Q⟩)
 refine⟨Z B,i,b,g,?_⟩;unfold wB;exact bM (UR:=[Z (.c2<|U8.map .int),Z<|aA q,Z<|.lst j,Vu,VE,Vp]) (i9 (eb (U5:=[.bF 0,.bF 1]) rfl rfl rfl l rfl) (f5 rfl) rfl) (jO (n:=Y) rfl m rfl)
def L3:oa [a3 []]=Z (l3 [] [],[a3 []]):=by
 let⟨UM,b,c,W⟩:=HP (aa:=[]) g4 (gk _);have u:UM=[]:=lT (Nat.le_zero.mp W.dI);subst u;have a:b=[]:=lT W.len.symm;subst a;exact c
def Ry(U8:List Int)(m:U8.length<100000):∃l,pP [.c2 (U8.map .int)]=Z (.im<|.aE X,l):=by
 obtain⟨t,e,n,o⟩:∃t:Int,t=(if (if (U8.length:Int)<6 then (U8.length:Int) else 6)>1 then (if (U8.length:Int)<6 then (U8.length:Int) else 6) else 1)/\1<=t/\t<=6:=⟨_,rfl,by split<;>lia,by split<;>(try split)<;>lia⟩;let⟨U4,g,b,Vo,Vu,VE,Vp,rfl⟩:=A5 (Ve:=bG 1) (d:=wB) (E:=hA 0 t.toNat) (λa w=>∃b Vo Vu VE Vp,w=[Z (.c2<|U8.map .int),b,Vo,Vu,VE,Vp]) (w:=[Z (.c2<|U8.map .int),Y,Y,Y,Y,Y]) ⟨Y,Y,Y,Y,Y,rfl⟩
  (λa f w h ef=>by
   let⟨b,Vo,Vu,VE,Vp,rfl⟩:=ef;let⟨UN,i⟩:=eV.mp h;have p:a<t.toNat:=by rwa [hA,bl,fM]at UN
   have Vs:f=.int (0+(a:Int)):=by
    rw[<-i];simp[hA]
   subst Vs;let⟨VI,r,s,u,c⟩:=Tp (U8:=U8) (q:=0+(a:Int)) (Vo:=Vo) (Vu:=Vu) (VE:=VE) (Vp:=Vp) ⋯ ⋯;exact⟨[Z (.c2<|U8.map .int),Z<|aA<|0+(a:Int),Vo,Vu,VE,Vp],.bz,_,rfl,c,.inl rfl,_,_,_,_,_,rfl⟩)
 refine⟨[.c2 (U8.map .int)],?_⟩;unfold pP Dp;have j:pU t:=⟨⋯,⋯⟩;have f3:fo [.c2 (U8.map .int)]=Z (aA (U8.length:Int)):=by
  show Z (aA ((U8.map V.int).length:Int))=_;rw[bl]
 have af:ha (aq (ae<|cH qL<|aq (ae<|az<|.int 1)<|aq (ae<|cH q9<|aq (ae<|az<|.int 6)<|aq (ae<|cH fo<|aq (au 0) aG) aG) aG) aG) [Z (.c2<|U8.map .int),Y,Y,Y,Y,Y]=Z ((hA 0 t.toNat,Y),[Z (.c2<|U8.map .int),Y,Y,Y,Y,Y]):=by
  have k:=TG 6 (U8.length:Int);have VL:=QS 1 (if (U8.length:Int)<6 then (U8.length:Int) else 6);rw[<-e]at VL;exact rm (b_ (bg<|d5 (b_ rfl<|b_ (bg<|d5 (b_ rfl<|b_ (bg<|d5 rfl rfl f3) rfl) rfl k) rfl) rfl VL) rfl) rfl j
 exact fG (w:=[Z (.c2<|U8.map .int),b,Vo,Vu,VE,Vp]) rfl (bM (jO af g rfl)<|fQ<|cg (bg<|eb (U5:=[.dv (a3 [])]) rfl rfl rfl L3 rfl) rfl rfl rfl rfl) rfl
end G
namespace L2
end L2
namespace L2
open Spec PyProof.Rows
section
variable{b:aO}
variable{a i:Nat}{f x:aC}{g d:bh}{t q k UZ:Pos}
def Mb{VC:eZ}{A Vt s}(F:b.calm=X)(C:b.N.Nodup)(UN:b.N[a]?=Z f)(G:b.N[i]?=Z x)(H:hc b.env.scope f)(I:hc b.env.scope x)(J:hz b [g,d] VC)(L:tT [.Tuple [.Name f t,.Name x q] A k] (.Tuple [g,d] Vt s) b.env=pure Y)(ar:u2 [.Tuple [.Name f t,.Name x q] A k] (.Tuple [g,d] Vt s) UZ.line b.env=pure av)(M:(fm [.Tuple [.Name f t,.Name x q] A k] b.env).map (·.2)=[hr (.Tuple [.Name f t,.Name x q] A k) b.env])(O:(fm [.Name f t,.Name x q] b.env).length=2)(P:(fm [.Name f t,.Name x q] b.env).findIdx? (·.1)=Y)(VK:b.fn f=X\/b.env.scope.names.lookup f=Z .local)(T:b.fn x=X\/b.env.scope.names.lookup x=Z .local):
  hT b (.Assign [.Tuple [.Name f t,.Name x q] A k] (.Tuple [g,d] Vt s) UZ) (QI a i VC):=by
 intro R m z h w l e;refine BB (Tuple_<|bZ (J _ R m z h _ l e) λVa j ⟨U,UP,al,am,y⟩=>?_) ar L;let⟨v,D,B,y⟩:=y;subst B;obtain⟨o,r,rfl,an,ap⟩:∃o r,Va=[o,r]/\bY v o/\bY D r:=by
  cases am with
  |cons u p=>
   cases p with
   |cons as a1=>
    cases a1;exact⟨_,_,rfl,u,as⟩
 refine gu ?_ (by show 2<=sizeLine;decide);have a2:aF b R z UP {j with heap:=j.heap.push {cls:=.type "tuple",data:=.seq [o,r].toArray} }:=al.kept (Vd:=j.toks) λd n c=>bT _ c;rw[M];show wpAny _ _ (hr (.Tuple [.Name f t,.Name x q] A k) b.env<|.ref j.heap.objs.size) _ _ _;refine DI (items:=#[o,r]) (l.ok.hd F) (rM.new j.heap _) (by rw[O];rfl) P λS bd=>?_;have be:=a2.kept (S:=S) (Vd:=j.toks) λd n c=>bd d n (cT<|bW c) c;have bi:oK b [.Name f t,.Name x q] _:=z6 (x7 C UN H VK) (z6 (x7 C G I T) CW);refine bZ (bi R _ z UP [v,D] [o,r] (λE Q=>E=(z.set a<|Z v).set i (Z D)/\Q=UP) be (.cons an<|.cons ap .nil) ⟨v,[D],rfl,D,[],rfl,rfl,rfl,rfl⟩) λ_ bs ⟨E,Q,bm,B,bn⟩=>?_;subst B bn;exact⟨_,_,bm,y⟩
def EI{Vg:List Nat}{F:ay (List bJ)}{A Vt l}(o:b.calm=X)(r:b.N.Nodup)(UN:b.N[a]?=Z f)(s:b.N[i]?=Z x)(u:hc b.env.scope f)(C:hc b.env.scope x)(D:fA b [g,d] F)(E:a∉Vg)(I:i∉Vg)(M:tT [.Tuple [.Name f t,.Name x q] A k] (.Tuple [g,d] Vt l) b.env=pure Y:=by rfl)(ar:u2 [.Tuple [.Name f t,.Name x q] A k] (.Tuple [g,d] Vt l) UZ.line b.env=pure av:=by rfl)(Q:(fm [.Tuple [.Name f t,.Name x q] A k] b.env).map (·.2)=[hr (.Tuple [.Name f t,.Name x q] A k) b.env]:=by rfl)(R:(fm [.Name f t,.Name x q] b.env).length=2:=by rfl)(S:(fm [.Name f t,.Name x q] b.env).findIdx? (·.1)=Y:=by rfl)(VK:b.fn f=X\/b.env.scope.names.lookup f=Z .local:=by first|exact .inl rfl|exact .inr rfl|assumption)(T:b.fn x=X\/b.env.scope.names.lookup x=Z .local:=by first|exact .inl rfl|exact .inr rfl|assumption):
  iw b Vg (.Assign [.Tuple [.Name f t,.Name x q] A k] (.Tuple [g,d] Vt l) UZ) (oH a i F):=by
 refine kq (Mb o r UN s u C D M ar Q R S VK T) λUH z h ⟨w,P,aT,U4,L,aj,al,p⟩=>?_;let⟨⟨U5,UR⟩,y,B⟩:=bN.mp al;let⟨⟨H,Vi⟩,am,e⟩:=bN.mp B;refine⟨w,P,U5,UR,L,aj,y,λU UP U3 ce an ap as=>?_⟩;let⟨G,bU,a1,Vc,Vr⟩:=nE an ap am;dsimp only at e;split at e
 ·rename_i Vz Vy c;split at e
  ·rename_i m;cases e;let⟨v,j,O,Vx,rfl,a2,bd,rfl⟩:=Vc;let⟨J,VA,ch,ci,rfl,be,⟨rfl,rfl⟩,rfl⟩:=bd;let⟨bi,n,bm,bn⟩:=a1.put (a:=a) a2 m.1;let⟨bs,bv,ca,cd⟩:=bm.put (a:=i) be (by rw[u9];exact m.2);refine⟨v,J,rfl,p _ UP bs ((dt.set E).trans<|dt.set I) ca<|(as.k4 Vr.symm).less (aN:=bv++n) ?_⟩;rw[<-bq,b8,<-bq];refine (eQ n cd).trans ?_;rw[bq];refine (dO bi c8).trans ?_;rw[<-bq];exact eQ _ bn
  ·cases e
 ·cases e
end
end L2
set_option maxHeartbeats 4000000
namespace K12
open L2 PyProof.Rows
variable{N:ah}{o:fi}{q:Nat}{O:bw}
def ei(a:Nat):cM:=(PySem.Challenge.pw_mowfloor_k12_fewest_runs.main.body.getD a (.Pass ⟨0,0,0,0⟩))
structure fv(aM:aC->Option ab):Prop where
 rZ:aM "all" = Y
 RJ:aM "bool" = Y
 nZ:aM "int" = Y
 lZ:aM "isinstance" = Y
 j2:aM "len" = Y
 xp:aM "list" = Y
 S2:aM "max" = Y
 P7:aM "min" = Y
 pI:aM "range" = Y
 DH:aM "set" = Y
 nP:aM "sorted" = Y
 CZ:aM "str" = Y
 k2:aM "tuple" = Y
 P4:aM "zip" = Y
 De:∃C,aM "DOWN" = Z (.str "down" C)
 Lb:∃C,aM "RIGHT" = Z (.str "right" C)
def rt:e9 "all" = Z (.builtin "all"):=by decide +kernel
def Sg:e9 "bool" = Z (.type "bool"):=by decide +kernel
def oM:e9 "int" = Z (.type "int"):=by decide +kernel
def lM:e9 "isinstance" = Z (.builtin "isinstance"):=by decide +kernel
def j6:e9 "len" = Z (.builtin "len"):=by decide +kernel
def y1:e9 "list" = Z (.type "list"):=by decide +kernel
def OZ:e9 "max" = Z (.builtin "max"):=by decide +kernel
def Is:e9 "min" = Z (.builtin "min"):=by decide +kernel
def rh:e9 "sorted" = Z (.builtin "sorted"):=by decide +kernel
def HJ:e9 "str" = Z (.type "str"):=by decide +kernel
def kr:e9 "tuple" = Z (.type "tuple"):=by decide +kernel
def c6(UQ:dB q O):O.units+20<bR:=by have:=UQ.un;omega
def Cf(UQ:dB q O):O.units+30<bR:=by have:=UQ.un;omega
abbrev w6:cM:=ei 1
abbrev Np:List aC:=["things","found","thing"]
abbrev AL:cM:=ei 5
abbrev TN:List aC:=["word","cell","many"]
abbrev zb:cM:=ei 6
abbrev Nx:List aC:=["free","word","cell","many"]
abbrev vc:cM:=ei 7
abbrev It:List aC:=["floor","word","free"]
abbrev xv:cM:=ei 8
abbrev QV:List aC:=["run"]
abbrev yV:cM:=ei 10
abbrev Qq:List aC:=["floor","held","right","cell","across","down"]
abbrev yQ:cM:=ei 11
abbrev LU:List aC:=["across","down_of","starts","came","waiting","down","right"]
abbrev y9:cM:=ei 12
abbrev O7:List aC:=["down_of","right_of","came","end","right","down","given_up"]
abbrev vf:cM:=ei 13
abbrev CM:List aC:=["across","down_of","right_of","found"]
abbrev q0:cM:=ei 14
abbrev x5:List aC:=["floor","pairing","down_of","came","some","cells"]
abbrev xF:cM:=ei 16
abbrev OQ:List aC:=["_law_script","_law_k"]
abbrev ye:cM:=ei 17
abbrev Mf:List aC:=["_law_script","_law_k","_law_cell","_law_bound","_law_seed"]
abbrev y7:cM:=ei 18
abbrev Q2:List aC:=["_law_hand_here","_law_many","_law_digit"]
abbrev xI:cM:=ei 20
abbrev J7:List aC:=["_law_hand_here","_law_many","_law_some","_law_turn","_law_row","_law_column","_law_down","_law_right","_law_cell"]
abbrev so:cM:=ei 19
abbrev xB:List aC:=["_law_hand_here","_law_way","_law_high","_law_wide","_law_row","_law_column","_law_some","_law_often"]
abbrev vB:cM:=ei 21
abbrev M9:List aC:=["_law_floor_here","_law_word","_law_some","_law_cell","_law_ahead"]
abbrev xO:cM:=ei 22
abbrev Ri:List aC:=["_law_run","_law_word","_law_cell","_law_many"]
abbrev wX:cM:=ei 23
abbrev QK:List aC:=["_law_floor_here"]
abbrev uJ:cM:=ei 24
abbrev LN:List aC:=["_law_got","_law_due"]
abbrev x3:cM:=ei 25
abbrev Ms:List aC:=["_law_floor_here","_law_some","_law_cells","_law_both","_law_held","_law_run"]
abbrev yh:cM:=ei 26
abbrev RV:List aC:=["_law_script","_law_k","_law_hand_here","_law_turn","_law_floor_here","_law_told"]
section
variable{UT:bC}{D:bc}{UK:Φ}{aM:aC->Option ab}{UY:aZ}
abbrev HK(o:fi)(N:ah):Prop:=fE o 1 "lookup" w6 N ["things"] 1 G.ru
def QB(P:ey o.K o.aM "lookup" w6 N ["things"])(UO:fv o.aM):HK o N:=by
 refine gc Np P λaj k O VF m h UH UQ=>?_;exact (b4 (eP 1 aj p3) (b4 (kT (VK:=[0]) ip rfl (hq<|aI 0) (gU 2 aj) (cG<|ic lx<|lD (cY 1) (fw<|cY 2)<|pK<|c6 UQ) ∅ (IX ∅))<|cG<|dZ<|fw<|cY 1))
abbrev wO(o:fi)(N:ah):Prop:=fE o 1 "further" AL N ["word","cell","many"] 3 G.o6
def QE(P:ey o.K o.aM "further" AL N ["word","cell","many"])(UO:fv o.aM):wO o N:=by
 refine gc TN P λaj k O VF m h UH UQ=>?_;exact (b4 (fI (e0 (jD<|c6 UQ) (aI 0) (a_<|wZ rfl UO.De.choose_spec)<|eJ _) (cG (dZ (h1 (by exact (cK (di hb (ep UQ (aI 1) bu)<|aI 2)<|ep UQ (aI 1) bu))))) gb) (cG (dZ (h1 (by exact (cK (ep UQ (aI 1) bu)<|di hb (ep UQ (aI 1) bu)<|aI 2))))))
abbrev Gg(o:fi)(N:ah):Prop:=fE o 2 "run_from" zb N ["free","word","cell"] 3 G.rd
def QM(P:ey o.K o.aM "run_from" zb N ["free","word","cell"])(UO:fv o.aM){b:ah}(c:wO o b):Gg o N:=by
 refine gc Nx P λaj k O VF m h UH UQ=>?_;exact (b4 (eP 3 aj j8) (b4 (wt 1000000 ip (e0 (o7<|c6 UQ) (a_<|c_ c UQ<|h9 (aI 1) (aI 2)<|aI 3) (aI 0) rfl) (cG (PQ (a:=3) aj rfl (Or.inl rfl) j8 L5 ∅))) (cG (dZ (h1 (by exact (h9 (aI 1) (aI 2)<|aI 3)))))))
abbrev CL(o:fi)(N:ah):Prop:=fE o 3 "runs_of_word" vc N ["floor","word"] 2 G.lA
def NZ(P:ey o.K o.aM "runs_of_word" vc N ["floor","word"])(UO:fv o.aM){c:ah}(d:HK o c){e:ah}(f:wO o e){g:ah}(i:Gg o g):CL o N:=by
 refine gc It P λaj k O VF m h UH UQ=>?_;exact (b4 (mB (a:=2) aj rfl (Or.inr rfl) (c_ d UQ<|cq<|aI 0) ∅) (cG (dZ (s_ (own:=["cell"]) (Vh:=[1,2]) rfl (nv (dm vc) It (by decide +kernel)) ∅ (hq<|aI 0) (λb=>(gq 0)) (λb=>(vS<|e0 (sW<|c6 UQ) (a_<|c_ f UQ<|h9 (aI 1) (aI 0)<|a_<|uP j8) (aI 2) rfl))<|λb=>(c_ i UQ<|h9 (aI 2) (aI 1)<|aI 0)))))
abbrev Fs(o:fi)(N:ah):Prop:=fE o 2 "run_cells" xv N ["run"] 1 G.nj
def Mv(P:ey o.K o.aM "run_cells" xv N ["run"])(UO:fv o.aM){a:ah}(b:wO o a):Fs o N:=by
 refine gc QV P λaj k O VF m h UH UQ=>?_;exact (cG<|dZ<|l_ ["many"] [0] (pM rfl UO.pI<|cq<|ep UQ (aI 0) bu) (λc=>(gq 0))<|λc=>(c_ b UQ<|h9 (ep UQ (aI 1) bu) (ep UQ (aI 1) bu)<|aI 0))
abbrev GW(o:fi)(N:ah):Prop:=fE o 4 "runs_across" yV N ["floor"] 1 G.vr
def Th(P:ey o.K o.aM "runs_across" yV N ["floor"])(UO:fv o.aM){c:ah}(a0:CL o c){d:ah}(b:Fs o d):GW o N:=by
 refine gc Qq P λaj k O VF m h UH UQ=>?_;exact (b4 (mB (a:=1) aj rfl (Or.inr rfl) p3 ∅) (b4 (kT (VK:=[0]) ip rfl (hq<|a_<|c_ a0 UQ<|cK (aI 0)<|a_<|wZ rfl UO.Lb.choose_spec) (gU 2 aj) (cG (kT (VK:=[0]) ip rfl (hq<|a_<|c_ b UQ<|cq<|aI 2) (gU 3 aj) (cG<|ic (fw<|cY 2)<|lD (cY 1) (fw<|cY 3)<|pK<|c6 UQ) ∅ rY)) ∅ rY) (b4 (eP 4 aj p3) (b4 (kT (VK:=[0]) ip rfl (hq<|a_<|c_ a0 UQ<|cK (aI 0)<|a_<|wZ rfl UO.De.choose_spec) (gU 5 aj) (cG<|ic (TB<|l_ ["cell"] [1] (hq<|a_<|c_ b UQ<|cq<|aI 5) (λe=>(gq 0))<|λe=>(k7 UQ (aI 1)<|aI 0))<|lD (cY 4) (fw<|cY 5)<|pK<|c6 UQ) ∅ rY)<|cG<|dZ<|Fv<|fw<|cY 4))))
abbrev FO(o:fi)(N:ah):Prop:=fE o 1 "search" yQ N ["across","down_of","starts"] 3 G.oi
def J_(P:ey o.K o.aM "search" yQ N ["across","down_of","starts"])(UO:fv o.aM):FO o N:=by
 refine gc LU P λaj k O VF m h UH UQ=>?_;exact (b4 (eP 3 aj p3) (b4 (eP 4 aj<|iB y6 rfl UO.xp y1<|cq<|aI 2) (b4 (wt 1000000 ip (ik<|aI 4) (b4 (eP 5 aj<|J0 r2 rD PySem.F.slot_list_pop PySem.F.type_list_pop SA<|cY 4) (cG (kT (VK:=[0,1,2]) ip rfl (hq<|a_<|JU<|k7 UQ (aI 0)<|aI 5) (gU 6 aj) (cG (fI (e0 (sW<|c6 UQ) (aI 6) (aI 3) rfl) (b4 (ic (fw<|cY 5)<|lD (cY 3) (fw<|cY 6)<|pK<|c6 UQ) (b4 (fI (e0 (sW<|c6 UQ) (aI 6) (aI 1) rfl) (cG (dZ (h1 (by exact (cK (aI 3)<|aI 6))))) gb)<|cG<|pS<|tQ r2 rD u3 vy wY (cY 4)<|cq<|ep UQ (aI 1)<|aI 6)) gb)) ∅ rY)))) (cG (dZ (h1 (by exact (cK (aI 3)<|a_ yH))))))))
abbrev HA(o:fi)(N:ah):Prop:=fE o 1 "pair_along" y9 N ["down_of","right_of","came","end"] 4 G.tK
def Ow(P:ey o.K o.aM "pair_along" y9 N ["down_of","right_of","came","end"])(UO:fv o.aM):HA o N:=by
 refine gc O7 P λaj k O VF m h UH UQ=>?_;exact (b4 (eP 4 aj<|fw<|cY 3)<|cG<|wt 1000000 ip (e0 P2 (aI 4) (a_ yH)<|eJ _)<|b4 (eP 5 aj<|k7 UQ (aI 2)<|aI 4)<|b4 (eP 6 aj<|TC (c6 UQ) (cY 1)<|fw<|cY 5)<|b4 (ic (fw<|cY 5)<|lD (cY 0) (fw<|cY 4)<|pK<|c6 UQ)<|b4 (ic (fw<|cY 4)<|lD (cY 1) (fw<|cY 5)<|pK<|c6 UQ)<|cG<|eP 4 aj<|fw<|cY 6)
abbrev Fg(o:fi)(N:ah):Prop:=fE o 2 "greatest_pairing" vf N ["across"] 1 G.vi
def S_(P:ey o.K o.aM "greatest_pairing" vf N ["across"])(UO:fv o.aM){c:ah}(d:FO o c){e:ah}(f:HA o e):Fg o N:=by
 refine gc CM P λaj k O VF m h UH UQ=>?_;exact (b4 (eP 1 aj p3) (b4 (mB (a:=2) aj rfl (Or.inr rfl) p3 ∅) (cG (wt 1000000 ip (ik<|a_ lx) (b4 (eP 3 aj (c_ d UQ (h9 (aI 0) (aI 1) (a_ (s_ (own:=["down"]) (Vh:=[2]) rfl (nv (dm vf) CM (by decide +kernel)) ∅ (Qh<|aI 0) (λb=>(gq 0)) (λb=>(vS<|e0 (sW<|c6 UQ) (aI 0) (aI 1) rfl))<|λb=>(fw<|cY 0)))))) (b4 (fI (e0 SQ (a_<|ph (cY 3) mT) (a_ yH)<|eJ _) (cG (dZ (h1 (by exact (cK (aI 1)<|a_<|ph (cY 3) mT))))) gb) (cG (pS (c_ f UQ (nI (aI 1) (by exact (h9 (aI 2) (a_<|ph (cY 3) mT)<|a_<|ph (cY 3) mT))))))))))))
abbrev Ce(o:fi)(N:ah):Prop:=fE o 5 "fewest_runs" q0 N ["floor"] 1 G.oa
def O8(P:ey o.K o.aM "fewest_runs" q0 N ["floor"])(UO:fv o.aM){c:ah}(d:Fg o c){e:ah}(f:GW o e):Ce o N:=by
 refine gc x5 P λaj k O VF m h UH UQ=>?_;exact (b4 (eP 1 aj<|c_ d UQ<|cq<|a_<|c_ f UQ<|cq<|aI 0) (b4 (eP 2 aj<|Fv<|ph (cY 1) mT) (b4 (mB (a:=3) aj rfl (Or.inr rfl) (ph (cY 1) mT) ∅) (b4 (yZ (a:=4) (own:=["right" ,"down"]) (Vh:=[3]) aj rfl (Or.inl rfl) rfl (nv (dm q0) x5 (by decide +kernel)) ∅ (CJ<|aI 2) (λb=>(oE (gq 0)<|gq 1)) (λb=>tO) (λb=>(TO (e0 (o7<|c6 UQ) (aI 0) (aI 2) rfl) (fw<|cY 0)<|fw<|cY 1)) ∅) (b4 (yZ (a:=5) (own:=["right" ,"down"]) (Vh:=[]) aj rfl (Or.inl rfl) rfl (nv (dm q0) x5 (by decide +kernel)) ∅ (CJ<|aI 2) (λb=>(oE (gq 0)<|gq 1)) (λb=>tO) (λb=>(h1 (by exact (cK (ep UQ (ep UQ (aI 0) bu) bu)<|ep UQ (ep UQ (aI 1) bu) bu)))) ∅) (cG (dZ (h1 (by exact (cK (a_<|iB rL rfl UO.k2 kr<|cq<|a_<|fD (tW rfl<|c6 UQ) UO.nP rh<|cq<|aI 4)<|a_<|iB rL rfl UO.k2 kr<|cq<|a_<|fD (tW rfl<|c6 UQ) UO.nP rh<|cq<|aI 5))))))))))
abbrev Ii(o:fi)(N:ah):Prop:=fE o 1 "_law_cell_at" xF N ["_law_script","_law_k"] 2 G.sS
def MQ(P:ey o.K o.aM "_law_cell_at" xF N ["_law_script","_law_k"])(UO:fv o.aM):Ii o N:=by
 refine gc OQ P λaj k O VF m h UH UQ=>?_;exact (b4 (fI (e0 rT (aI 1) (a_<|fD kK UO.j2 j6<|cq<|aI 0)<|eJ _) (cG<|dZ<|k7 UQ (aI 0)<|aI 1) gb)<|cG<|dZ j8)
abbrev H9(o:fi)(N:ah):Prop:=fE o 2 "_law_hand" ye N ["_law_script","_law_k"] 2 G.vv
def Pe(P:ey o.K o.aM "_law_hand" ye N ["_law_script","_law_k"])(UO:fv o.aM){a:ah}(b:Ii o a):H9 o N:=by
 refine gc Mf P λaj k O VF m h UH UQ=>?_;exact (b4 (eP 2 aj<|c_ b UQ<|cK (aI 0)<|aI 1) (b4 (eP 3 aj<|mm iT (di iT (di v5 bu bu)<|di v5 bu bu)<|di v5 bu bu) (b4 (eP 4 aj<|mm mL (di iT (di hb (di hb (di mL (aI 2) bu)<|di iT (di iT bu<|aI 1)<|aI 1) bu) bu) bu) (cG (dZ (mf (by exact (h9 (di iT (di mL (aI 2)<|aI 3)<|a_<|iB pa rfl UO.nZ oM<|cq<|a_<|iV R5 (aI 2) (di v5 bu bu)<|eJ _) (aI 4) bu))))))))
abbrev xG(o:fi)(N:ah):Prop:=fE o 1 "_law_pick" y7 N ["_law_hand_here","_law_many"] 2 G.dX
def Mr(P:ey o.K o.aM "_law_pick" y7 N ["_law_hand_here","_law_many"])(UO:fv o.aM):xG o N:=by
 refine gc Q2 P λaj k O VF m h UH UQ=>?_;exact (b4 (fI (e0 Bl (ep UQ (aI 0) bu) bu<|eJ _) (b4 (eP 2 aj<|mm mL (ep UQ (aI 0) bu)<|aI 1)<|b4 (ic (mm AI (ep UQ (aI 0) bu)<|aI 1)<|lD (cY 0) j8<|yl<|c6 UQ)<|cG<|dZ<|fw<|cY 2) gb)<|b4 (ic (mm hb (ep UQ (aI 0) bu) bu)<|lD (cY 0) j8<|yl<|c6 UQ)<|b4 (ic (mm mL (di hb (di hb (di iT (ep UQ (aI 0) bu) bu) bu)<|di iT bu<|ep UQ (aI 0) bu) bu)<|lD (cY 0) j8<|yl<|c6 UQ)<|cG<|dZ<|mm mL (di AI (di mL (di iT (ep UQ (aI 0) bu)<|ep UQ (aI 0) bu) bu) bu)<|aI 1)
abbrev Cz(o:fi)(N:ah):Prop:=fE o 2 "_law_grown" xI N ["_law_hand_here","_law_many"] 2 G.tg
def Qw(P:ey o.K o.aM "_law_grown" xI N ["_law_hand_here","_law_many"])(UO:fv o.aM){b:ah}(a:xG o b):Cz o N:=by
 refine gc J7 P λaj k O VF m h UH UQ=>?_;exact (b4 (eP 2 aj (mf (by exact (cq (iQ (by exact (cK (a_<|c_ a UQ<|cK (aI 0) bu)<|a_<|c_ a UQ<|cK (aI 0) bu))))))) (b4 (kT (VK:=[0,1]) ip rfl (pM rfl UO.pI<|cq<|di iT bu<|aI 1) (gU 3 aj) (b4 (ic (k7 UQ (aI 2)<|a_<|c_ a UQ<|cK (aI 0)<|a_<|fD kK UO.j2 j6<|cq<|aI 2)<|oE (gU 4 aj)<|gU 5 aj) (b4 (fI (e0 (jD<|c6 UQ) (a_<|c_ a UQ<|cK (aI 0) bu) bu<|eJ _) (cG<|ic (k7 UQ (aI 2)<|a_<|uP j8)<|oE (gU 4 aj)<|gU 5 aj) gb) (b4 (ic (k7 UQ (a_ (mf (by exact (nI (iQ (by exact (cK bu bu))) (by exact (h9 (iQ (by exact (cK bu bu))) (iQ (by exact (cK bu<|a_<|uP j8))) (iQ (by exact (cK (a_<|uP j8) bu)))))))))<|a_<|c_ a UQ<|cK (aI 0) bu)<|oE (gU 6 aj)<|gU 7 aj) (b4 (eP 8 aj (h1 (by exact (cK (di hb (aI 4)<|aI 6)<|di hb (aI 5)<|aI 7))))<|cG<|fI (hx.nf<|vT (e0 (sW<|c6 UQ) (aI 8) (aI 2) rfl)<|vT (e0 rT (a_<|fD kK UO.j2 j6<|cq<|aI 2) (aI 1)<|eJ _)<|vT (FR wm wm bu (ep UQ (aI 8) bu) bu)<|EY<|FR wm wm bu (ep UQ (aI 8) bu) bu) (cG<|pS<|tQ r2 rD u3 vy wY (cY 2)<|cq<|aI 8) gb)))) ∅ yD)<|cG<|dZ<|iB rL rfl UO.k2 kr<|cq<|a_<|fD (tW rfl<|c6 UQ) UO.nP rh<|cq<|aI 2))
abbrev Dg(o:fi)(N:ah):Prop:=fE o 3 "_law_floor" so N ["_law_hand_here"] 1 G.uR
def PT(P:ey o.K o.aM "_law_floor" so N ["_law_hand_here"])(UO:fv o.aM){d:ah}(b:xG o d){e:ah}(f:Cz o e):Dg o N:=by
 refine gc xB P λaj k O VF m h UH UQ=>?_;exact (b4 (eP 1 aj<|c_ b UQ<|cK (aI 0) bu) (b4 (EI (a:=2) (i:=3) rfl aj rfl rfl (Or.inl rfl) (Or.inr rfl) (cK (di hb bu<|a_<|c_ b UQ<|cK (aI 0) bu)<|di hb bu<|a_<|c_ b UQ<|cK (aI 0) bu) ∅ ∅) (b4 (fI (e0 (jD<|c6 UQ) (a_<|c_ b UQ<|cK (aI 0) bu) bu<|eJ _) (cG (ic (k7 UQ (a_ (mf (by exact (nI (iQ (by exact (cK bu bu))) (by exact (h9 (iQ (by exact (cK bu bu))) (iQ (by exact (cK bu bu))) (iQ (by exact (cK bu bu)))))))))<|a_<|c_ b UQ<|cK (aI 0) bu) (oE (gU 2 aj) (rf (a:=3) aj rfl (Or.inr rfl) ∅)))) gb) (b4 (EI (a:=4) (i:=5) rfl aj rfl rfl (Or.inr rfl) (Or.inr rfl) (cK (a_<|c_ b UQ<|cK (aI 0)<|di wc bu<|aI 2)<|a_<|c_ b UQ<|cK (aI 0)<|di wc bu<|aI 3) ∅ ∅) (b4 (yZ (a:=6) (own:=["_law_k"]) (Vh:=[4,3,5]) aj rfl (Or.inl rfl) rfl (nv (dm so) xB (by decide +kernel)) ∅ (pM rfl UO.pI<|cq<|di iT (aI 2)<|aI 3) (λc=>(gq 0)) (λc=>tO) (λc=>(h1 (by exact (cK (di hb (aI 1)<|di AI (aI 0)<|aI 2)<|di hb (aI 3)<|di mL (aI 0)<|aI 2)))) ∅) (b4 (fI (e0 rT (aI 1) bu<|eJ _) (cG<|dZ<|iB rL rfl UO.k2 kr<|cq<|aI 6) gb) (b4 (fI (e0 rT (aI 1) bu<|eJ _) (b4 (mB (a:=7) aj rfl (Or.inr rfl) (k7 UQ (a_ (mf (by exact (nI bu (by exact (h9 bu bu bu))))))<|a_<|c_ b UQ<|cK (aI 0) bu) ∅) (cG (dZ (iB rL rfl UO.k2 kr (cq (a_ (s_ (own:=["_law_cell"]) (Vh:=[0,7]) rfl (nv (dm so) xB (by decide +kernel)) ∅ (hq<|aI 6) (λc=>(gq 0)) (λc=>(vS<|e0 Bl (a_<|c_ b UQ<|cK (aI 1)<|aI 2) bu<|eJ _))<|λc=>(fw<|cY 0)))))))) gb) (cG (dZ (c_ f UQ (cK (aI 0) (di hb bu (a_ (c_ b UQ (cK (aI 0) (ep UQ (a_ (mf (by exact (h9 bu bu bu))))<|a_<|c_ b UQ<|cK (aI 0) bu))))))))))))))))
abbrev EG(o:fi)(N:ah):Prop:=fE o 6 "_law_runs_of" vB N ["_law_floor_here","_law_word"] 2 G.sC
def J8(a:(Θ o.K "_law_runs_of").isSome=X)(j:d4 o.K "_law_runs_of" vB N)(P:ey o.K o.aM "_law_runs_of" vB N ["_law_floor_here","_law_word"])(UO:fv o.aM):EG o N:=by
 refine SS M9 a j P λaj k O VF m h UH ⟨V0,du,bP,b⟩ UQ=>?_;exact (b4 (eP 2 aj (mf (by exact o8))) (b4 (kT (VK:=[0,1]) ip rfl (hq (a_ (N2 (S:=1) (dK := "_law_one") (E := "_law_word") bP b UQ UO.nP rh (cq<|aI 0) (J9 (by kernel_rfl)) (λ_ U U U UQ=>(h1 (by exact (cK (ep UQ (aI 0)<|a_<|iB pa rfl UO.nZ oM<|cq<|a_<|iV (jD<|c6 UQ) (aI 1) (a_ oP)<|eJ _)<|aI 0))))))) (gU 3 aj) (b4 (eP 4 aj (h1 (by exact (cK (di wc (ep UQ (aI 3) bu)<|a_<|iB pa rfl UO.nZ oM<|cq<|a_<|iV (jD<|c6 UQ) (aI 1) (a_ oP)<|eJ _)<|di wc (ep UQ (aI 3) bu)<|a_<|iB pa rfl UO.nZ oM<|cq<|a_<|iV (jD<|c6 UQ) (aI 1) (a_ oP)<|eJ _)))) (cG (fI (hx.nf<|vT (Nw (c6 UQ)<|cY 2)<|EY<|e0 (jD<|c6 UQ) (a_<|S8 (cY 2) y8 y8) (aI 4)<|eJ _) (cG<|pS<|Q_ u3 vy wY (cY 2) y8<|Nu<|cY 3) (cG (pS (tQ r2 rD u3 vy Jy (cY 2) (cq (a_ (mf (by exact (cq<|aI 3))))))))))) ∅ rY) (cG (dZ (Ju 2 (l_ ["_law_one"] [1] (hq<|aI 2) (λc=>(gq 0)) (λc=>(h1 (by exact (h9 (aI 1) (a_<|C_ OP (aI 0) bu<|λ_ U=>rfl)<|a_<|fD Tr UO.j2 j6<|cq<|aI 0))))))))))
abbrev CI(o:fi)(N:ah):Prop:=fE o 1 "_law_cells_of" xO N ["_law_run"] 1 G.nW
def LF(P:ey o.K o.aM "_law_cells_of" xO N ["_law_run"])(UO:fv o.aM):CI o N:=by
 refine gc Ri P λaj k O VF m h UH UQ=>?_;exact (b4 (ic (fw<|cY 0) (IQ rfl (sF (rf (a:=1) aj rfl (Or.inr rfl) ∅) (sF (rf (a:=2) aj rfl (Or.inr rfl) ∅)<|sF (gU 3 aj) A8)))) (cG (dZ (l_ ["_law_k"] [2,1] (pM rfl UO.pI<|cq<|aI 3) (λb=>(gq 0)) (λb=>(h1 (by exact (cK (di hb (ep UQ (aI 1) bu)<|di iT (aI 0)<|a_<|iB pa rfl UO.nZ oM<|cq<|a_<|iV (jD<|c6 UQ) (aI 2) (a_ oP)<|eJ _)<|di hb (ep UQ (aI 1) bu)<|di iT (aI 0)<|a_<|iB pa rfl UO.nZ oM<|cq<|a_<|iV (jD<|c6 UQ) (aI 2) (a_ oP)<|eJ _))))))))
abbrev FG(o:fi)(N:ah):Prop:=fE o 7 "_law_all_runs" wX N ["_law_floor_here"] 1 G.vI
def MN(P:ey o.K o.aM "_law_all_runs" wX N ["_law_floor_here"])(UO:fv o.aM){b:ah}(a:EG o b):FG o N:=by
 refine gc QK P λaj k O VF m h UH UQ=>?_;exact (cG<|dZ<|fD (tW rfl<|c6 UQ) UO.nP rh<|cq<|di hb (a_<|c_ a UQ<|cK (aI 0)<|a_ oP)<|a_<|c_ a UQ<|cK (aI 0)<|a_ oP)
theorem Bd{o:fi}{N:ah}(P:ey o.K o.aM "_law_same" uJ N ["_law_got","_law_due"])(UO:fv o.aM):∀q,fE o (1+q) "_law_same" uJ N ["_law_got","_law_due"] 2 (G.i4 q)
 |0=>Tb P
 |q+1=>by
  have a:=Bd P UO  q;refine gc LN P λaj k O VF m h UH UQ=>?_;exact (b4 (fI (ik<|a_<|lR rfl UO.lZ lM rfl UO.k2 kr<|aI 1) (b4 (fI (hx.nf<|mS (ko<|ik<|a_<|lR rfl UO.lZ lM rfl UO.k2 kr<|aI 0)<|pR<|e0 (pq<|c6 UQ) (a_<|fD kK UO.j2 j6<|cq<|aI 0) (a_<|fD kK UO.j2 j6<|cq<|aI 1)<|eJ _) (cG<|dZ lx) gb)<|cG<|dZ<|fD (qM rfl) UO.rZ rt<|cq<|a_<|l_ ["_law_one" ,"_law_other"] [] (Tn rfl UO.P4<|cK (aI 0)<|aI 1) (λb=>(oE (gq 0)<|gq 1))<|λb=>(Rn a UQ (bb _)<|cK (aI 0)<|aI 1)) gb)<|b4 (fI (ik<|a_<|lR rfl UO.lZ lM rfl UO.CZ HJ<|aI 1) (cG<|dZ<|yw (pB<|lR rfl UO.lZ lM rfl UO.CZ HJ<|aI 0)<|pB<|Bw<|iV (jD<|c6 UQ) (aI 0) (aI 1)<|eJ _) gb)<|cG<|dZ<|yw (pB<|lR rfl UO.lZ lM rfl UO.nZ oM<|aI 0)<|yw (pB<|L6<|pB<|lR rfl UO.lZ lM rfl UO.RJ Sg<|aI 0)<|pB<|Bw<|iV (jD<|c6 UQ) (aI 0) (aI 1)<|eJ _)
abbrev GN(o:fi)(N:ah):Prop:=fE o 8 "_law_is_fewest" x3 N ["_law_floor_here","_law_some","_law_cells"] 3 G.vX
def Qu(P:ey o.K o.aM "_law_is_fewest" x3 N ["_law_floor_here","_law_some","_law_cells"])(UO:fv o.aM){d:ah}(e:FG o d){f:ah}(c:CI o f):GN o N:=by
 refine gc Ms P λaj k O VF m h UH UQ=>?_;exact (b4 (mB (a:=3) aj rfl (Or.inr rfl) (c_ e UQ<|cq<|aI 0) ∅) (b4 (fI (hx.nf<|mS (ko<|ik<|a_<|lR rfl UO.lZ lM rfl UO.k2 kr<|aI 1)<|mS (ko<|ik<|a_<|lR rfl UO.lZ lM rfl UO.k2 kr<|aI 2)<|pR<|e0 (pq<|c6 UQ) (a_<|fD kK UO.j2 j6<|cq<|aI 1) (a_<|fD kK UO.j2 j6<|cq<|aI 2)<|eJ _) (cG<|dZ lx) gb) (b4 (fI (hx.nf<|mS (ko<|ik<|a_<|fD (qM rfl) UO.rZ rt<|cq<|a_<|l_ ["_law_one"] [3] (hq<|aI 1) (λb=>(gq 0))<|λb=>(iV (o7<|c6 UQ) (aI 0) (aI 1) rfl))<|pR<|ko<|ik<|a_<|fD (qM rfl) UO.rZ rt<|cq<|a_<|l_ ["_law_one"] [0] (hq<|aI 2) (λb=>(gq 0))<|λb=>(iV (o7<|c6 UQ) (aI 0) (aI 1) rfl)) (cG<|dZ lx) gb) (b4 (fI (hx.nf<|mS (e0 (pq<|c6 UQ) (a_<|iB y6 rfl UO.xp y1<|cq<|aI 1) (a_<|E7 (Cf UQ) rfl UO.nP rfl UO.DH<|cq<|aI 1)<|eJ _)<|pR<|e0 (pq<|c6 UQ) (a_<|iB y6 rfl UO.xp y1<|cq<|aI 2) (a_<|E7 (Cf UQ) rfl UO.nP rfl UO.DH<|cq<|aI 2)<|eJ _) (cG<|dZ lx) gb) (b4 (mB (a:=4) aj rfl (Or.inr rfl) (mf (by exact o8)) ∅) (b4 (kT (VK:=[0,1,2]) ip rfl (hq<|aI 1) (gU 5 aj) (cG<|pS<|tQ r2 rD PySem.F.slot_list_extend PySem.F.type_list_extend Nb (cY 4)<|cq<|a_<|c_ c UQ<|cq<|aI 5) ∅ (IX ∅)) (b4 (fI (ko<|ik<|a_<|fD (qM rfl) UO.rZ rt<|cq<|a_<|l_ ["_law_cell"] [4] (hq<|aI 0) (λb=>(gq 0))<|λb=>(iV (o7<|c6 UQ) (aI 0) (aI 1) rfl)) (cG<|dZ lx) gb) (cG (dZ (fD (qM rfl) UO.rZ rt (cq (a_ (l_ ["_law_run"] [2] (hq<|aI 3) (λb=>(gq 0)) (λb=>(iV rT (a_ (fD kK UO.j2 j6 (cq (a_ (s_ (own:=["_law_cell"]) (Vh:=[1]) rfl (PY (by with_unfolding_all rfl)) ∅ (hq<|a_<|c_ c UQ<|cq<|aI 0) (λb=>(gq 0)) (λb=>(vS<|e0 (o7<|c6 UQ) (aI 0) (aI 1) rfl))<|λb=>(fw<|cY 0)))))) bu<|eJ _)))))))))))))))
abbrev O6(o:fi)(N:ah):Prop:=fE o 10 "law" yh N ["_law_script"] 1 G.pP
def Py(P:ey o.K o.aM "law" yh N ["_law_script"])(UO:fv o.aM){c:ah}(d:H9 o c){e:ah}(f:Dg o e){g:ah}(a:Ce o g){i:ah}(j:GN o i){l:ah}(b:fE o 9 "_law_same" uJ l ["_law_got","_law_due"] 2 (G.i4 8)):O6 o N:=by
 refine gc RV P λaj k O VF m h UH UQ=>?_;exact (b4 (kT (VK:=[0]) ip rfl (pM rfl UO.pI<|cq<|a_<|fD (Nh rfl<|c6 UQ) UO.S2 OZ<|cK bu<|a_<|fD (PO rfl<|c6 UQ) UO.P7 Is<|cK bu<|a_<|fD kK UO.j2 j6<|cq<|aI 0) (gU 1 aj) (b4 (eP 2 aj<|c_ d UQ<|cK (aI 0)<|aI 1) (cG (kT (VK:=[0]) ip rfl (pM rfl UO.pI<|cq bu) (gU 3 aj) (b4 (eP 4 aj<|c_ f UQ<|cq<|aI 2)<|b4 (eP 5 aj<|c_ a UQ<|cq<|aI 4)<|b4 (fI (hx.nf<|mS (ko<|ik<|a_<|lR rfl UO.lZ lM rfl UO.k2 kr<|aI 5)<|mS (e0 (pq<|c6 UQ) (a_<|fD kK UO.j2 j6<|cq<|aI 5) bu<|eJ _)<|pR<|ko<|ik<|a_<|c_ j UQ<|h9 (aI 4) (ep UQ (aI 5) bu)<|ep UQ (aI 5) bu) (cG<|dZ lx) gb)<|cG<|fI (hx.nf<|mS (ko<|ik<|a_<|c_ b UQ<|cK (aI 5)<|aI 5)<|pR<|ko<|ik<|a_<|c_ b UQ<|cK (a_<|c_ a UQ<|cq<|aI 4)<|aI 5) (cG<|dZ lx) gb) ∅ yD))) ∅ yD) (cG (dZ (iV (jD<|c6 UQ) (a_ (c_ a UQ (cq (iQ (by exact o8))))) (iQ (by exact (cK (iQ (by exact o8)) (iQ (by exact o8)))))<|eJ _))))
end
end K12
namespace L2
open Spec PyProof.Rows
end L2
namespace K12
open L2 PyProof.Rows
variable{I:PySem.W.OpenLaw}
def all_mk{D:bc}{UK:Φ}{e:aZ}{aM:aC->Option ab}{d k l n p q r s t u w x y z A B C E F H J L:ah}(b:UK.In e)(a:e.Ns dx aM)(M:aM "law" = Z (.ref d)){f g:iz}(N:d4 UK "lookup" w6 k)(O:d4 UK "further" AL l)(P:d4 UK "run_from" zb n)(Q:d4 UK "runs_of_word" vc p)(R:d4 UK "run_cells" xv q)(S:d4 UK "runs_across" yV r)(T:d4 UK "search" yQ s)(U:d4 UK "pair_along" y9 t)(al:d4 UK "greatest_pairing" vf u)(am:d4 UK "fewest_runs" q0 w)(an:d4 UK "_law_cell_at" xF x)(ap:d4 UK "_law_hand" ye y)(as:d4 UK "_law_pick" y7 z)(a1:d4 UK "_law_grown" xI A)(a2:d4 UK "_law_floor" so B)(h:d4 UK "_law_runs_of" vB C)(bd:d4 UK "_law_cells_of" xO E)(be:d4 UK "_law_all_runs" wX F)(bi:d4 UK "_law_same" uJ H)(bm:d4 UK "_law_is_fewest" x3 J)(i:d4 UK "law" yh L)(bn:(Θ UK "_law_runs_of").isSome=X)(bs:Ψ UK dx "DOWN" = Z (Z<|.str "down" f))(bv:Ψ UK dx "RIGHT" = Z (Z<|.str "right" g))(ca:Ψ UK dx "all" = Z Y)(cd:Ψ UK dx "bool" = Z Y)(ce:Ψ UK dx "int" = Z Y)(ch:Ψ UK dx "isinstance" = Z Y)(ci:Ψ UK dx "len" = Z Y)(cl:Ψ UK dx "list" = Z Y)(co:Ψ UK dx "max" = Z Y)(cr:Ψ UK dx "min" = Z Y)(cs:Ψ UK dx "range" = Z Y)(db:Ψ UK dx "set" = Z Y)(ds:Ψ UK dx "sorted" = Z Y)(dL:Ψ UK dx "str" = Z Y)(eq:Ψ UK dx "tuple" = Z Y)(ev:Ψ UK dx "zip" = Z Y):
  ∃fd:gG,(∀(m:ai) (v:ab),nu m fd ⟨[v],[]⟩ [("_law_script",v)])/\∀UY:aZ,UK.In UY->UY.Ns dx aM->h5 I.prog D UK aM UY gB 10 d fd ["_law_script"] (jY 1 G.pP):=by
 have UO:fv aM:=⟨ih b a ca,ih b a cd,ih b a ce,ih b a ch,ih b a ci,ih b a cl,ih b a co,ih b a cr,ih b a cs,ih b a db,ih b a ds,ih b a dL,ih b a eq,ih b a ev,⟨f,oq b a bs⟩,⟨g,oq b a bv⟩⟩;have h_w18:=bi.dM (U1:=["_law_got","_law_due"]) b a;refine NB i b a M (λ_ K K K K K K K=>.of_eq rfl) λUY=>?_;let o:fi:=⟨I.prog,D,UK,aM,UY⟩
 have ex:=QB (o:=o) (N.c5 b a) UO;have c:=QE (o:=o) (O.jA b a) UO;have fn:=QM (o:=o) (P.jA b a) UO c;have fr:=NZ (o:=o) (Q.dM b a) UO ex c fn;have f0:=Mv (o:=o) (R.c5 b a) UO c;have f1:=Th (o:=o) (S.c5 b a) UO fr f0;have f2:=J_ (o:=o) (T.jA b a) UO;have f4:=Ow (o:=o) (U.jm b a) UO;have f8:=S_ (o:=o) (al.c5 b a) UO f2 f4;have ga:=O8 (o:=o) (am.c5 b a) UO f8 f1;have ge:=MQ (o:=o) (an.dM b a) UO;have gl:=Pe (o:=o) (ap.dM b a) UO ge;have j:=Mr (o:=o) (as.dM b a) UO;have go:=Qw (o:=o) (a1.dM b a) UO j;have gt:=PT (o:=o) (a2.c5 b a) UO j go;have g1:=J8 (o:=o) bn h (h.dM b a) UO;have g2:=LF (o:=o) (bd.c5 b a) UO;have g3:=MN (o:=o) (be.c5 b a) UO g1;have hd:=Bd (o:=o) h_w18 UO  8;have he:=Qu (o:=o) (bm.jA b a) UO g3 g2;exact Py (o:=o) (i.c5 b a) UO gl gt ga he hd
def walk{p:bC}{d:List aC}{i:(aC->Option ab)->aZ->Prop}{a:bc->aZ->Prop}{r:DefRec}{UK:vK->Φ}(j:I.most=Z 63)(l:r.params.defaults=[])(n:∀(D:bc) (e:aZ),a D e->(UK D.params).In e)(o:∀u,s9 (UK u)=X)(P:∀(D:bc) (aM:aC->Option ab) (b:ah) (e:aZ),(UK D.params).In e->e.Ns dx aM->aM r.name=Z (.ref b)->
   ∃fd:gG,(∀(m:ai) (J:ab),nu m fd ⟨[J],[]⟩ [("_law_script",J)])/\∀UY:aZ,(UK D.params).In UY->UY.Ns dx aM->h5 I.prog D (UK D.params) aM UY gB 10 b fd ["_law_script"] (jY 1 G.pP))(t:((recsOf p).find? λc=>c.name==("_law_runs_of" : aC)).isSome=X)(v:∀u,(Θ (UK u) "_law_runs_of").isSome=X)(w:∀u,Φd (UK u)=X):
  PySem.W.WalkO p d i a I.row.toRowW r [] (λN U=>PySem.call N U):=
 L2.Tt (s:=63) (q:=10) (f := "_law_script") (V3:=λ_=>gB) (VX:=λD=>jY 1 G.pP) j ∅ l ⟨rfl,by decide,by decide,rfl⟩ n P (λD h g U8 x y z=>JH (o D.params) h g U8 y z (G.Ry U8 (uq x ∅))) (λ_ T T T T k=>k) t v w
end K12
namespace PySem.W.Fast
def tw4385939069049459188:=(0)
def tw6667405373023084544:=(0)
def tw9531480658718198048:=(0)
def tw14784668307468592162:=(0)
def tw7671162540282045570:=(0)
def tw15960294227123791554:=(0)
def tw11013651868957710499:=(0)
def tw9246625960074816899:=(0)
def tw3634252078491858595:=(0)
def tw4113549702832595747:=(0)
def tw14321996501917930628:=(0)
def tw12074177617366678597:=(0)
def tw14694220885828947429:=(0)
def tw13897015809107574405:=(0)
def tw5546934894704423909:=(0)
def tw3315500737180742086:=(0)
def tw6739551139910810246:=(0)
def tw15527087635697747687:=(0)
def tw10046399793629625352:=(0)
def tw12622447832897783848:=(0)
def tw11138557666295735528:=(0)
def tw16844531967531431208:=(0)
def tw11928387786804005352:=(0)
def tw12681554159063090024:=(0)
def tw11313463279102769128:=(0)
def tw8161094968461937161:=(0)
def tw15257962280561938057:=(0)
def tw7802309368049982345:=(0)
def tw11592804353120402794:=(0)
def tw7119632131346050251:=(0)
def tw12036684924068160267:=(0)
def tw14688071852233228557:=(0)
def tw10867982329636860237:=(0)
def tw6449884897975966413:=(0)
def tw3123234899345397485:=(0)
def tw965416779629885294:=(0)
def tw3413753953993634702:=(0)
def tw197250353167847631:=(0)
def tw11853416968504483279:=(0)
def tw10913181551495760591:=(0)
def tw15888062520565023632:=(0)
def tw17080222828924125265:=(0)
def tw2792475314044103473:=(0)
def tw9675382385067886802:=(0)
def tw15020450733927861202:=(0)
def tw12909578315987711059:=(0)
def tw11310063256274481619:=(0)
def tw9168652618269200179:=(0)
def tw16070506795211880820:=(0)
def tw5125788704366951796:=(0)
def tw6050660197541800372:=(0)
def tw14176069436041659956:=(0)
def tw305448166379691860:=(0)
def tw4975951896347730389:=(0)
def tw12676499002556568662:=(0)
def tw17893287400770563222:=(0)
def tw671111977039176310:=(0)
def tw17625636210375052118:=(0)
def tw15704343269923587095:=(0)
def tw13245866862793473591:=(0)
def tw2550214535806713463:=(0)
def tw4976261888097587863:=(0)
def tw17026735071155520407:=(0)
def tw2611632464139658296:=(0)
def tw2276247689717389720:=(0)
def tw9478231300391767608:=(0)
def tw906122422079555192:=(0)
def tw17010328094938307353:=(0)
def tw2493703412364916601:=(0)
def tw7123350588892867834:=(0)
def tw4310247164364262587:=(0)
def tw2211343326944707803:=(0)
def tw16478740343142301339:=(0)
def tw13056001874817366747:=(0)
def tw6866925242800302811:=(0)
def tw7639724576677984092:=(0)
def tw11917763150255537148:=(0)
def tw11250975039818614878:=(0)
def tw7729511763803908734:=(0)
def tw15249913460013438686:=(0)
def tw11537493364359519038:=(0)
def tw3443326479111834815:=(0)
def tw9585027711622862399:=(0)
def tw11556055054511164159:=(0)
end PySem.W.Fast
end
open PySem PySem.W PyProof.Rows
set_option maxRecDepth 100000 in
set_option maxHeartbeats 0 in
theorem PySem.Challenge.cw_mowfloor_k12_fewest_runs_holds : PySem.Challenge.rw_mowfloor_k12_fewest_runs.Holds := by
  w_on; o_law; k_head; (case hw => w_witness2)
  k_fill
  refine' K12.walk (I := PySem.Challenge.rw_mowfloor_k12_fewest_runs) rfl rfl (fun w h Y => PySem.W.km_in_of Y) ?hK ?F ?hrc ?htb ?hnt
  case hK => intro p; rfl
  case hrc => kernel_rfl
  case htb => intro p; kernel_rfl
  case hnt => intro p; kernel_rfl
  case F =>
    intro w mg fa h KX G hmg
    apply K12.all_mk KX G hmg
    iterate 21 (apply L2.Ga; iterate 4 k_is)
    kernel_rfl
    iterate 16 k_is
