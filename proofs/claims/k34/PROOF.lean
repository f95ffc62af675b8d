import PyProof.Rows.All
import Wide.All
import OpenK.AllK
import Wide.FinOn
import Lean
import PyProof.EqAt
import PyProof.EqKinds
import PyProof.TupleCall
import PyProof.IsiNone
import PyProof.NeKinds
import PyProof.MaxThree
import PyProof.Rows.SetFrom
import PyProof.WalksMore
import PyProof.CallStr
import KE.KRevIter
import PySem.Challenge.RW_mowfloor_k34_bars_shown
set_option maxHeartbeats 4000000
set_option Elab.async false
set_option compiler.extract_closed false
open List (range range')
open Nat (beq)
noncomputable section
local macro_rules|`(∅)=>`(by decide)
local macro_rules|`(⇑$e)=>`(by simpa using $e)
local macro_rules|`(↥$_)=>`(by simp)
local macro_rules|`(tactic|let $p:term:=$e)=>do
 let q:=p.raw
 let X (s:Lean.Syntax):=s.isOfKind ``Lean.Parser.Term.explicit
 let I (s:String):=Lean.mkIdent (.mkSimple s)
 let l:=(if X q then q[1] else q)[1].getSepArgs
 let n:=l.size
 let j:=if X q then 0 else ((l.findIdx? X).map (·+1)).getD 99
 let mut b:Array Lean.Ident:=#[]
 let mut t:Array (Lean.TSyntax `tactic):=#[]
 let w:=I "ζ"
 let E:=e.raw
 let u:=E.getId
 let c:=j<99&&E.isIdent&&l.any fun s=>s.getId==u||s[1].getId==u
 let h:=I "ξ"
 let u:=u.toString
 let u:=if u.startsWith "ζ" then u else "ζ"
 let d:Lean.Term:=if c then h else e
 let r ←if c then `(tactic|(revert $(⟨e⟩):ident;intro $h:ident)) else `(tactic|skip)
 if j<99&&E.isIdent then t:=t.push (←`(tactic|try clear $(⟨d⟩):ident))
 for i in [0:n] do
  let s:=if i+1==j then l[i]![1] else l[i]!
  let z:=I s!"{u}{i}"
  if s.isIdent&&(j==99||s.getId != `rfl) then b:=b.push ⟨s⟩
  else
   b:=b.push z
   if s.isIdent then t:=t.push (←`(tactic|subst $z))
   else if !s.isOfKind ``Lean.Parser.Term.hole then t:=t.push (←`(tactic|let $(⟨s⟩):term:=$z))
 let A:=b.extract j n
 let B:=b.extract 0 j
 let k:=I s!"xE{j}"
 if j==99 then `(tactic|(obtain ⟨$[$b:ident],*⟩:=$e;$t;*)) else if j==0 then `(tactic|($r;refine $(I s!"xA{n}") ($d :) fun $b* =>?_;$t;*)) else if j+1==n then `(tactic|($r;refine $k ($d :) fun $b* =>?_;$t;*)) else `(tactic|($r;refine $k ($d :) fun $B* $w=>?_;refine $(I s!"xA{n-j}") $w fun $A* =>?_;clear $w;$t;*))
local macro_rules|`(command|def $i:declId $s:optDeclSig:=$v)=>if v.raw.isOfKind ``Lean.Parser.Term.paren then `(command|noncomputable def $i $s:optDeclSig:=$v) else (·.raw.rewriteBottomUp (·.setInfo .none))<$>`(command|theorem $i $(⟨.node .none ``Lean.Parser.Command.declSig #[s.raw[0],s.raw[1][0]]⟩):declSig:=$v)|`(command|def $i:declId $s:optDeclSig $v:matchAlts)=>`(command|noncomputable def $i $s:optDeclSig $v:matchAlts)|`(command|@[simp] def $i:declId $s:optDeclSig:=$v)=>`(command|@[simp] noncomputable def $i $s:optDeclSig:=$v)|`(command|@[simp] def $i:declId $s:optDeclSig $v:matchAlts)=>`(command|@[simp] noncomputable def $i $s:optDeclSig $v:matchAlts)|`(command|abbrev $i:declId $s:optDeclSig:=$v)=>`(command|noncomputable abbrev $i $s:optDeclSig:=$v)
local macro_rules|`(⋯)=>`(by lia)
open PySem renaming wpAny_bind->aA,wpAny_pure->aU,wpAny_holding->fK,wpAny_newObj_type->hD,wpAny_callSpecial?_slot->lG,wpAny_call_entry->j4,wpAny_seqItems->i2,wpAny_field->hB,codeAny_builtin->kz,wpAny_truthy_bool->m6,wpAny_mono->iz,plainId_quiet->kG,wpAny_typeNameOfWhole_keyiter->v_,wpAny_forIn_list->ot,wpAny_rule->ki,wpAny_Call_Name_kw->q7,wpAny_setField_rec->pO,wpAny_specialOf->od,wpAny_passesOwn->ob,wpAny_pyIter_list->tr,wpAny_setState_of->r7,wpAny_letGo->n3,wpAny_dictEntries->uE,wpAny_tryCatch->tC,builtinLookup_eq_fast->zv,wpAny_isInstance->vh,wpAny_attempt->sf,wpAny_updateSeq_pair->AM,wpAny_execs_nil->wG,codeAny_mono->rH,call_meets->ro,wpAny_setField->w_,wpAny_sequenceKey->zA,wpAny_of_eq->ta,wpAny_standAt->uK,wpAny_onRaise->uS,noFill_tuple_add->Ad,wpAny_pyNext_list_item->Hc,richCompare_meets_room->CO,wpAny_dictEpoch->zG,typeLookup_type->zY,wpAny_updateSeq->Bi,codeAny_of_tree->yN,wpAny_pyNext_list_end->CJ,wpAny_notOrdered_dict->DN,wpAny_isOneOf_keyiter->D6,sizeLine_eq->wU,seqIndex_of->vx,isSubtype_type->y6,seq_tuple_add->xx,evalPart_none->A0,wpAny_newList->yf,wpAny_dictSet_heap->D4,eqIsQuiet_byValue->Co,wpAny_assign_Name->Dr,concat_meets->xu,seqIndex_neg->xN,slot_list_getitem->B4,list_append->Gm,wpAny_storeSet_of->IT,wpAny_pyHash_int->GN,wpAny_pyHash_str->CV,wpAny_execs_cons->HD,wpAny_pyIter_zip->Cq,wpAny_ret_mkInt->Fn,wpAny_Name->z2,wpAny_fieldsOf->Cw,isSubtype_stop->Jm,wpAny_newTuple->Hi,callType_codes->GQ,wpAny_runValue->Fo,evalPart_some->BO,call_list_seq->C1,wpAny_handled->GR,intBits_le_64->I2
open List renaming length_map->aZ,append_assoc->bM,getD_eq_getElem?_getD->cP,length_append->b_,mem_singleton->cM,size_toArray->cV,mem_cons->cg,perm_append_comm->dW,append_nil->cO,getElem?_eq_getElem->eB,length_cons->dm,mem_append_right->ej,nodup_append->dD,mem_map->cn,mem_append_left->ed,map_cons->cS,mem_append->dw,pairwise_singleton->e9,length_singleton->eO,getElem?_eq_some_iff->gk,map_append->d9,mem_of_getElem?->fH,take_append_drop->gi,getElem?_map->fp,all_eq_true->e_,length_drop->f9,pairwise_cons->gL,mem_range->fI,getElem?_append_left->jN,length_take->gK,map_map->fc,length_nil->gB,not_mem_nil->hi,drop_eq_getElem_cons->kr,length_range->hR,getElem?_append_right->kM,nodup_nil->gU,foldl_cons->h4,nodup_iff_pairwise_ne->m3,nodup_cons->iw,mem_of_mem_drop->lj,map_congr_left->k_,lookup_cons->j6,mem_cons_of_mem->l8,length_pos_iff->lp,mem_filter->j8,pairwise_map->kH,mem_iff_getElem->mg,eq_nil_of_length_eq_zero->ry,pairwise_iff_getElem->oE,length_reverse->mZ,mem_cons_self->m_,mem_of_mem_take->nt,find?_cons->kV,map_drop->jE,drop_of_length_le->og,map_take->kF,getElem?_drop->ng,getElem?_set_ne->oA,drop_zero->l_,filterMap_cons->pf,cons_append->nD,getElem?_take->oo,getLast?_concat->qw,take_of_length_le->sP,mem_nil_iff->pa,length_filter_le->rF,getElem?_zip_eq_some->uI,length_zip->ox,getElem_drop->qh,ext_getElem?->qj,flatMap_cons->rk,any_cons->nZ,eraseIdxIfInBounds_toArray->Bo,drop_drop->oM,take_length->rC,any_eq_true->pR,map_id->mG,getElem?_set_self->xb,nil_append->pw,getElem?_eq_none->uX,take_sublist->rS,reverse_cons->s9,take_zero->pX,getElem?_of_mem->vm,of_mem_zip->sh,mem_filterMap->uO,getElem_take->vO,drop_take->t5,drop_sublist->u_,take_succ_eq_append_getElem->IM,pairwise_lt_range->yY,length_pos_of_mem->BI,getElem?_toArray->A8,nodup_range->w5,getElem_mem->w9,any_toArray->w3,forIn_cons->vN,take_succ_cons->xX,take_take->xf,setIfInBounds_toArray->CH,zip_cons_cons->yZ,perm_ext_iff_of_nodup->Fi,exists_cons_of_ne_nil->FL,getLast?_eq_getElem?->Jy,foldl_append->zc,reverse_perm->zl,length_erase_of_mem->I_,drop_length->yu,zipIdx_cons->zT,mem_flatMap->zJ,map_reverse->Bl,cons_ne_nil->AD,all_map->uT,length_set->zU,range_succ->Af,dropLast_eq_take->BQ,length_dropLast->FC,pairwise_append->EJ,extract_toArray->Jr,mem_erase_of_ne->HY,dropLast_concat->H2,foldl_nil->BB,filter_eq_self->BU,mem_map_of_mem->CT,reverse_append->Hk,filterMap_map->H6,zip_nil_right->C0,ne_nil_of_mem->E6,getElem?_set->H3,set_set->Az,any_map->zp,getElem_inj->HB,map_toArray->Ck,ext_getElem->Fz,getElem_map->Ep,filter_cons->FO,countP_cons->Cc,mem_reverse->Ef,flatMap_nil->F7,zipIdx_nil->Dc,zip_append->BK,forIn_nil->IK,all_cons->G6,set_comm->DU
open Option renaming bind_eq_some_iff->bZ,map_eq_some_iff->cU,bind_some->rP,map_some->tI,isSome_map->wk,isSome_iff_exists->Cs,getD_some->zr,getD_none->CK
open PySem.Heap renaming get?_push_of_some->cv,get?_push_size->d4,lt_size->cu,get?_update_other->lP,get?_update_self->pJ,size_push->oy,get?_none_of_le->As
open Nat renaming le_refl->bb,ne_of_lt->dP,lt_of_lt_of_le->gm,le_of_ble_eq_true->ie,le_trans->fu,lt_or_ge->gv,zero_le->f7,le_add_right->nM,lt_irrefl->lN,lt_trichotomy->oN,lt_succ_self->pL,min_eq_left->qa,le_of_lt_succ->tV,le_of_lt->oJ,ne_of_gt->oL,add_assoc->q1,add_lt_add_iff_right->y_,lt_of_le_of_lt->uh,lt_trans->pC,not_lt_zero->vH,add_comm->sz,lt_add_of_pos_right->EY,sub_self->w2,eq_of_beq_eq_true->Jt,not_lt->xq,eq_zero_or_pos->Jl,add_zero->AR,zero_add->BA,succ_pos->z4,lt_succ_of_le->Cu,min_eq_right->Cx,le_zero->zw,min_self->BN,sub_zero->Du,le_succ->CG,mod_lt->EC
open Bool renaming and_eq_true->cy,false_ne_true->dz,false_eq_true->hJ,not_eq_true'->k2,eq_iff_iff->k6,or_eq_true->pQ,not_true->qx,and_true->Bv,and_false->Hu,false_or->E1,true_bne->GD,true_and->Ht,true_or->E2
open PySem.W renaming kasC_pure->bx,kasC_bind->bB,mg_none_of->iW,kasC_range->gV,mg_of->mL,kasC_modify->lA,kasC_get->kI,kasC_lift->pj,cellsFrom_some->D9,callWith_K->Dx,kat_item->vL,kas_swaps_map->B5
open Array renaming length_toList->eb,getElem?_toList->fD,getElem?_eq_getElem->pl,getElem?_eq_some_iff->qV,ext'->lF,forIn_toList->vq,toList_filterMap->Ba,getD_eq_getD_getElem?->EN,perm_iff_toList_perm->Js,getElem_toList->IA,size_map->xY,mem_toList_iff->JJ,toArray_toList->Cm,toList_push->Dn,size_append->G7
open List.Perm renaming append_left->eL,append_right->gj,map->yF,of_eq->Gg,eq_of_pairwise->LO,cons_inv->Ss
open PyProof.Rows renaming slot_tuple_getitem->mR,callWith_type1->p2,callWith_builtin1->ER,entry_tuple_getitem->AS,slicePart_none->wR,args_tuple_getitem->zS,subscriptTail_builtinR->Ce,tupleItemsOf_->Al,get?_update_seq->FH,entry_list_sort->I8,Subscript_->yc,elem'_eq->u9,slot_list_sort->Ib,args_list_sort->Ff,slicePart_int->JM,listUpdate_at->GW,plain_sorted->HV,entry_sorted->Jq,args_sorted1->E3,tail_any->z0,lt_int->T7,gt_int->UX
open PySem.PassesOwn renaming never->g5
open PySem.F renaming plainAttrs_list->ka,slot_list_append->oa,type_list_append->nf,slot_dict_keyiterator_next->sZ,called_set->n2,slot_tuple_iterator_next->vZ,slot_tuple_hash->sC,args_tuple_add_2->Bf,slot_list_getattribute->A_,entry_tuple_add->y5,slot_tuple_add->xW,slot_list_pop->yV,type_list_pop->BC,args_dict_keyiterator_next_1->IH,entry_dict_keyiterator_next->FY,args_tuple_iterator_next_1->Jj,slot_zip_next->wg,entry_tuple_iterator_next->C8,plain_set_new->FA,args_list_append_2->EV,called_tuple->zF,entry_list_append->D_,slot_list_append->Gk,args_zip_next_1->CL,plain_list_iadd->DJ,plain_tuple_new->F6,entry_list_pop->I0,slot_dict_iter->Ja,entry_zip_next->JE,slot_list_pop->Ha,slot_dict_len->Cz
open PySem.Around renaming under_plainId->kP
open Classical renaming byContradiction->oq
open Int renaming emod_lt_of_pos->nc,emod_nonneg->l5,le_refl->jR,toNat_natCast->p0,add_sub_cancel->wh,sub_add_cancel->HZ,le_trans->zE,le_of_lt->z_,ediv_nonneg->Fg,not_lt->zi,mul_le_mul->Iz,ediv_one->HJ,mul_one->HC,mul_pos->B_
open PySem.Heap.SameBut renaming update->pH
open PyProof.Rows.F renaming plain_set_update_loop->zM,entry_set_update_loop->FR
open Ne renaming symm->g6
open PySem.Calls renaming call_function_entry->zL,Name_function_global->EM,spliced_cons->AB,spliced_nil->y8,callWith_builtin->Gf
open PySem.AutoSeq1 renaming sub_tuple_tuple->A7
open List.cons renaming injEq->sV
open PySem.Obj renaming data_mapFields->xm,isFreed_of_fields->BW,cls_mapFields->En
open Prod renaming ext_iff->tF,ext->E0
open PySem.SetTable renaming toList_insertAt->HU
open List.Pairwise renaming sublist->FD,filterMap->RI,filter->ND,imp₂->Og,map->Ph
open Prod.mk renaming injEq->AI
open PySem.SeqAt.EqAt renaming int_str->Dq,str_int->FT,none_tuple->L1,bool_tuple->Qf,tuple_none->Kp,tuple_bool->O5,none_bool->TP,bool_none->U3,bool_bool->Vm,int_tuple->MD,str_tuple->Tt,tuple_int->LX,tuple_str->PZ,none_int->Tf,none_str->KD,bool_int->Kj,bool_str->U8,int_none->Mf,int_bool->Mi,str_none->K5,str_bool->MA,int_int->Sn,str_str->Ku,of_refs->Ul
open PySem.SeqAt.RcAt renaming tuples->F5,lists_lengths->O0,none_tuple->Pm,bool_tuple->JX,tuple_none->KC,tuple_bool->QO,none_none->L0,none_bool->MH,bool_none->SD,bool_bool->PC,int_tuple->UM,str_tuple->NR,tuple_int->LZ,tuple_str->SA,none_int->OW,none_str->MM,bool_int->Mu,bool_str->U4,int_none->Va,int_bool->PO,str_none->S3,str_bool->L9,int_int->Lz,int_str->Kx,str_int->KW,str_str->Ur,lists->Pe
open PySem.IsL renaming update->Eo
open PySem.SeqAt.RcNeAt renaming lists_lengths->Qu,none_tuple->PD,bool_tuple->Th,tuple_none->Vc,tuple_bool->Ug,none_none->Mj,none_bool->NI,bool_none->M8,bool_bool->Lb,int_tuple->Vv,str_tuple->Ny,tuple_int->RW,tuple_str->QB,none_int->Vj,none_str->L4,bool_int->J2,bool_str->Qp,int_none->Q5,int_bool->Uw,str_none->Mp,str_bool->Qn,int_int->Mm,int_str->Ru,str_int->U9,str_str->Sp,tuples->Oy,lists->NV
open PySem.W.Looks renaming of_pure->Fp
open PySem renaming Scope->hQ,Str->aI,Heap->a_,Value->ag,CmpOp->m7,Sem->er,Addr->aj,Stmt->cp,Expr->bF,Obj->bk,Shared->au,Around->bH,World->bA,Program->bS,Builtin->bl,cLine->b3,model->aV,Tok->iv,Paired->eP,sysModules->jW,mainGlobals->d_,builtinsNs->yk,bootBuiltins->fy,Env->fE,GenState->p6,Model->ig,eval->cE,isTrue->rm,backTo->hj,starEach->b5,swapsWith->oD,assign->jA,assignInOrder->DI,assignEach->f3,setItem->vC,swapsWithSole->Ju,swappedStores->B2,PassesOwn->sl,pyNext->h1,letOwnedTupleGo->sW,pyIter->s_,rawInt->lV,Data->oC,Walks->mf,foldedSetIterable->nk,Operator->Bb,binaryOp->g7,compareOp->ey,behindInMarks->qu,lastMarks->wu,recursionLimit->Jn,Result->qn,FuncData->hA,BindsTo->nA,bindArgs->ke,Keyword->s7,NameKind->ea,cellsFrom->AO,richCompare->oG,IsPart->lI,getItem->lR,typeLookup->vk,seqIndex?->yP,sliceBounds->om,PlainAttrs->v3,typeOf->si,attributeBase->vP,valueAt->o9,atKey->m1,Params->xj,callerA->oS,cellOf->wb,compEnvC->vy,comprehension->x8,newList->th,newExc->wH,newTuple->yy,firstArgMember->wF,field->nK,seqItems?->qq,ZipApart->uv,IsZip->kA,IsPair->jl,shortFactorBits->vg,getattributeRaised->I9,entryFor->z3,PyData->r9,SetTable->aX,hashByValue->wO,ofAClassStatement->wy,searchCouldBeSeen->Jk,carriedByValue->EE,setSearchFrom->HN,checkBuiltinCall->E_,ItemsOf->sy
open Bool renaming true->aa,false->aw
open Option renaming some->Z,none->Y
open PyProof.Rows renaming IsTup->oI,AllBare->me,envOfC->kE,subscriptTail->AN,IntsAre->sx,bubble->rQ,SortKind->hC,Keyed->bw,SortSt->bK,pendingOf->iK,failedOf->i5,mergeAt'->vT,ltAt'->pe,reverseSlice'->rL,seqObj->hz,keyKind'->z7,tuples'->tv
open PySem.W renaming WData->sQ,WShape->sq,kas_rev->nF,kas_cmp->f6,kas_item->bt,kas_st->wx,Frag->Φ,nsIn->Ψ,fnOf->Ξ,keepIn->Θ,codeIn->Δ,methodObj->Γ
open PySem
abbrev aJ:=@if_pos
abbrev aP:=@if_neg
abbrev cW:=@decide_eq_false
abbrev c1:=@decide_eq_true
abbrev fF:=@decide_eq_true_iff
abbrev hh:=@of_decide_eq_true
abbrev lx:=@decide_eq_false_iff_not
abbrev gf:=@if_false
abbrev my:=@beq_self_eq_true
abbrev mM:=@decide_eq_decide
abbrev h6:=@or_false
abbrev iu:=@if_true
abbrev AK:=@beq_eq_false_iff_ne
abbrev Be:=@decide_eq_true_eq
abbrev t4:=@beq_iff_eq
variable{Ww:Sort _}{p:Prop}
def xE1{q:Ww->Prop}(c:∃g,q g)(n:∀g,q g->p):p:=have ⟨g,a⟩:=c;n g a
variable{W_:Sort _}
def xE2{q:Ww->W_->Prop}(c:∃g d,q g d)(n:∀g d,q g d->p):p:=have ⟨g,d,a⟩:=c;n g d a
variable{Xs:Sort _}
def xE3{q:Ww->W_->Xs->Prop}(c:∃g d h,q g d h)(n:∀g d h,q g d h->p):p:=have ⟨g,d,h,a⟩:=c;n g d h a
variable{Xt:Sort _}
def xE4{q:Ww->W_->Xs->Xt->Prop}(c:∃g d h s,q g d h s)(n:∀g d h s,q g d h s->p):p:=have ⟨g,d,h,s,a⟩:=c;n g d h s a
variable{Xu:Sort _}
def xE5{q:Ww->W_->Xs->Xt->Xu->Prop}(c:∃g d h s e,q g d h s e)(n:∀g d h s e,q g d h s e->p):p:=have ⟨g,d,h,s,e,a⟩:=c;n g d h s e a
variable{Xv:Sort _}
def xE6{q:Ww->W_->Xs->Xt->Xu->Xv->Prop}(c:∃g d h s e x,q g d h s e x)(n:∀g d h s e x,q g d h s e x->p):p:=have ⟨g,d,h,s,e,x,a⟩:=c;n g d h s e x a
def xE9{b:Sort _}{Wz:Sort _}{f:Sort _}{q:Ww->W_->Xs->Xt->Xu->Xv->b->Wz->f->Prop}(c:∃g d h s e x L a i,q g d h s e x L a i)(n:∀g d h s e x L a i,q g d h s e x L a i->p):p:=have ⟨g,d,h,s,e,x,L,a,i,j⟩:=c;n g d h s e x L a i j
variable{g d:Prop}
def xA2(c:g/\d)(n:g->d->p):p:=n c.1 c.2
variable{h:Prop}
def xA3(c:g/\d/\h)(n:g->d->h->p):p:=n c.1 c.2.1 c.2.2
variable{s:Prop}
def xA4(c:g/\d/\h/\s)(n:g->d->h->s->p):p:=n c.1 c.2.1 c.2.2.1 c.2.2.2
variable{e:Prop}
def xA5(c:g/\d/\h/\s/\e)(n:g->d->h->s->e->p):p:=n c.1 c.2.1 c.2.2.1 c.2.2.2.1 c.2.2.2.2
variable{x:Prop}
def xA6(c:g/\d/\h/\s/\e/\x)(n:g->d->h->s->e->x->p):p:=n c.1 c.2.1 c.2.2.1 c.2.2.2.1 c.2.2.2.2.1 c.2.2.2.2.2
def xA8{L a:Prop}(c:g/\d/\h/\s/\e/\x/\L/\a)(n:g->d->h->s->e->x->L->a->p):p:=n c.1 c.2.1 c.2.2.1 c.2.2.2.1 c.2.2.2.2.1 c.2.2.2.2.2.1 c.2.2.2.2.2.2.1 c.2.2.2.2.2.2.2
set_option linter.all false
set_option maxRecDepth 100000
namespace L2
open Spec PyProof.Rows
variable{WB:hQ}{Xe f:aI}{Wi c:a_}{aE:aI->Option ag}{Wk WM:List aI}{Xo WV:m7}{x:ag->ag->er ag}{bL Xh:List aj}{Xl:List cp}{L:Int->Int->Int}{WL e h:bF}{r n a WJ:Nat}{V_:List bF}{V8:Φ}{R:List (aj×bk)}{Wq:Pos}{j V9:au}{G Wa:ag->au->Prop}{P:bH}{l:bA}{T:bS}{J:ag}{d g:aj}{Wy:List ag}
inductive ae where
 | a6|ay (d:Bool)|int (a:Int)|str (f:aI)|tup (I:List ae)|fn (g:aj)|aW (I:List ae)|fd
mutual
def ae.beq:ae->ae->Bool
 |.a6,.a6=>aa
 |.ay g,.ay d=>g==d
 |.int a,.int i=>decide (a=i)
 |.str f,.str C=>decide (f=C)
 |.tup g,.tup d=>ae.m9 g d
 |.fn g,.fn d=>decide (g=d)
 |.aW g,.aW d=>ae.m9 g d
 |.fd,.fd=>aa
 |_,_=>aw
def ae.m9:List ae->List ae->Bool
 |[],[]=>aa
 |g::u,d::B=>ae.beq g d&&ae.m9 u B
 |_,_=>aw
end
mutual
theorem ae.beq_iff:∀g d:ae,ae.beq g d=aa↔g=d
 |.a6,d=>by cases d<;>simp[ae.beq]
 |.ay g,d=>by cases d<;>simp[ae.beq]
 |.int a,d=>by cases d<;>simp[ae.beq]
 |.str f,d=>by cases d<;>simp[ae.beq]
 |.tup f,d=>by
  cases d with
  |tup C=>rw[ae.beq,ae.yz f C];simp
  |_=>simp[ae.beq]
 |.fn g,d=>by cases d<;>simp[ae.beq]
 |.aW f,d=>by
  cases d with
  |aW C=>rw[ae.beq,ae.yz f C];simp
  |_=>simp[ae.beq]
 |.fd,d=>by cases d<;>simp[ae.beq]
theorem ae.yz:∀g d:List ae,ae.m9 g d=aa↔g=d
 |[],d=>by cases d<;>simp[ae.m9]
 |f::u,d=>by
  cases d with
  |nil=>simp[ae.m9]
  |cons C B=>rw[ae.m9,cy,ae.beq_iff f C,ae.yz u B];simp
end
noncomputable instance:DecidableEq ae:=λg d=>decidable_of_iff (ae.beq g d=aa) (ae.beq_iff g d)
mutual
def eg(c:a_):ae->ag->Prop
 |.a6,v=>v=.none
 |.ay d,v=>v=.bool d
 |.int a,v=>∃B,v=.int a B
 |.str f,v=>∃B,v=.str f B
 |.fn g,v=>v=.ref g
 |.aW _,v=>∃g,v=.ref g
 |.fd,v=>∃g,v=.ref g
 |.tup I,v=>∃g o Wr r,v=.ref g/\c.get? g=Z o/\o.cls=.type "tuple" /\ o.data=.seq Wr r/\el c I Wr.toList
def el(c:a_):List ae->List ag->Prop
 |[],V7=>V7=[]
 |s::I,V7=>∃v u,V7=v::u/\eg c s v/\el c I u
end
mutual
def ae.key:Nat->ae->Bool
 |_,.int _=>aa
 |_,.str _=>aa
 |r+1,.tup I=>ae.keys r I
 |_,_=>aw
def ae.keys:Nat->List ae->Bool
 |_,[]=>aa
 |r,s::I=>ae.key r s&&ae.keys r I
end
mutual
def d8(l:bA):ae->Int
 |.int a=>hashInt a
 |.str f=>hashStr l f
 |.tup I=>reduceHash (bl.Tuple.tupleHashOf<|jo l I)
 |_=>0
def jo(l:bA):List ae->List Int
 |[]=>[]
 |s::I=>d8 l s::jo l I
end
mutual
def uw:ae->Nat
 |.tup I=>k8 I+1
 |_=>1
def k8:List ae->Nat
 |[]=>0
 |s::I=>uw s+k8 I
end
theorem AL(l:bA):∀g d:List ae,jo l (g++d)=jo l g++jo l d
 |[],d=>rfl
 |s::g,d=>by rw[nD,jo,jo,AL l g d,nD]
theorem yl:∀g d:List ae,k8 (g++d)=k8 g+k8 d
 |[],d=>by simp[k8]
 |s::g,d=>by rw[nD,k8,k8,yl g d];lia
theorem FP{r:Nat}:∀{g d:List ae},ae.keys r (g++d)=aa->ae.keys r d=aa
 |[],d,c=>c
 |s::g,d,c=>by rw[nD,ae.keys,cy]at c;exact FP c.2
theorem el.length{c:a_}:∀{I:List ae}{V7:List ag},el c I V7->I.length=V7.length
 |[],V7,e=>by rw[show V7=[] from e];rfl
 |s::I,V7,e=>by
  let⟨v,@u,rfl,W,e⟩:=e;rw[dm,dm,el.length e]
def xp(c U:a_):Prop:=(∀g o Wr r,c.get? g=Z o->o.cls=.type "tuple" -> o.data=.seq Wr r->U.get? g=Z o)
mutual
theorem eg.keep{c U:a_}(n:xp c U):∀{s:ae}{v:ag},eg c s v->eg U s v
 |.a6,_,e=>e
 |.ay _,_,e=>e
 |.int _,_,e=>e
 |.str _,_,e=>e
 |.fn _,_,e=>e
 |.aW _,_,e=>e
 |.fd,_,e=>e
 |.tup I,_,e=>by
  let⟨g,o,Wr,@r,rfl,A,E,a,b⟩:=e;exact⟨g,o,Wr,r,rfl,n g o Wr r A E a,E,a,el.keep n b⟩
theorem el.keep{c U:a_}(n:xp c U):∀{I:List ae}{V7:List ag},el c I V7->el U I V7
 |[],_,e=>e
 |s::I,_,e=>by
  let⟨v,@u,rfl,A,E⟩:=e;exact⟨v,u,rfl,eg.keep n A,el.keep n E⟩
end
theorem Hw{c:a_}:∀(r:Nat) {f C:ae}{v:ag},ae.key r f=aa->ae.key r C=aa->eg c f v->eg c C v->f=C
 |r,.int a,C,v,_,ba,h,b=>by
  let⟨@B,rfl⟩:=h;cases C with
  |int i=>let⟨@J,e⟩:=b;injection e with e;rw[e]
  |str l=>let⟨@J,e⟩:=b;cases e
  |tup I=>let⟨W,W,W,@W,e,W⟩:=b;cases e
  |_=>cases r<;>cases ba
 |r,.str l,C,v,_,ba,h,b=>by
  let⟨@B,rfl⟩:=h;cases C with
  |int i=>let⟨@J,e⟩:=b;cases e
  |str l=>let⟨@J,e⟩:=b;injection e with e;rw[e]
  |tup I=>let⟨W,W,W,@W,e,W⟩:=b;cases e
  |_=>cases r<;>cases ba
 |r+1,.tup I,C,v,q,ba,h,b=>by
  let⟨g,o,Wr,@k,rfl,A,E,t,w⟩:=h;cases C with
  |int i=>let⟨@J,e⟩:=b;cases e
  |str l=>let⟨@J,e⟩:=b;cases e
  |tup V_=>
   let⟨F,M,G,@H,e,m,L,j,x⟩:=b;cases e;rw[A]at m;cases m;rw[t]at j;injection j with j _;subst j;have all:∀(I V_:List ae) (V7:List ag),ae.keys r I=aa->ae.keys r V_=aa->el c I V7->el c V_ V7->I=V_:=by
    intro I;induction I with
    |nil=>
     intro V_ V7 W W g d;cases V_ with
     |nil=>rfl
     |cons e V_=>let⟨W,@W,p,W⟩:=d;rw[show V7=[] from g]at p;cases p
    |cons s I y=>
     intro V_ V7 WD WR g d;let⟨v,@u,rfl,z,D⟩:=g;cases V_ with
     |nil=>cases (show v::u=[] from d)
     |cons e V_=>
      let⟨N,@W3,p,dY,dH⟩:=d;cases p;rw[ae.keys,cy]at WD WR;rw[Hw r WD.1 WR.1 z dY,y V_ u WD.2 WR.2 D dH]
   rw[all I V_ _ q ba w x]
  |_=>cases ba
 |_,.a6,_,_,n,_,_,_=>by cases ‹Nat›<;>cases n
 |_,.ay _,_,_,n,_,_,_=>by cases ‹Nat›<;>cases n
 |_,.fn _,_,_,n,_,_,_=>by cases ‹Nat›<;>cases n
 |_,.aW _,_,_,n,_,_,_=>by cases ‹Nat›<;>cases n
 |_,.fd,_,_,n,_,_,_=>by cases ‹Nat›<;>cases n
 |0,.tup _,_,_,n,_,_,_=>by cases n
section
variable{Wf:bS}{l:bA}
theorem GF:∀(r:Nat) {P:bH}{Wa:ag->au->Prop}{j:au}{s:ae}{v:ag}{G:Int->au->Prop},ae.key r s=aa->P.units+r<b3->eg j.heap s v->G (d8 l s) {j with toks:=j.toks+uw s}->
  wpAny (aV Wf l) P (pyHash v) G Wa j
 |r,P,Wa,j,.int a,v,G,_,_,b,c=>by
  let⟨@B,rfl⟩:=b;exact GN c
 |r,P,Wa,j,.str a,v,G,_,_,b,c=>by
  let⟨@B,rfl⟩:=b;exact CV c
 |r+1,P,Wa,j,.tup I,v,G,n,x,b,c=>by
  let⟨g,o,Wr,@k,rfl,q,w,hd,S⟩:=b;have h:j.TypeIs (.ref g) "tuple" := ⟨o,q,w⟩;unfold pyHash;first|unfold pyHashByItsType|skip
  first|refine aA (wpAny_cRoomFor_or (.inr ⋯) ?_)|skip
  refine aA (od h sC.lookup ?_);show wpAny _ _ (if (Z (ag.builtin "tuple.__hash__")==Z ag.none)=aa then _ else _) G Wa j;rw[aP (by rw[beq_builtin_none];exact dz)];refine aA (od h sC.lookup ?_);show wpAny _ _ (callSpecialIfBoundUnlessNone? (.ref g) "__hash__" _ >>= _) G Wa j;refine aA (wpAny_callSpecialIfBoundUnlessNone?_slot h sC<|j4 sC h F.entry_tuple_hash ?_<|F.args_tuple_hash_1 _);show wpAny _ _ (bl.Tuple.tupleItemsOf (.ref g) >>= _) _ _ j;refine aA (wpAny_tupleItemsOf q hd ?_);refine aA ?_;rw[<-vq];refine ot _
   (λdx (d:Array Int) V9=>∃done left,I=done++left/\el j.heap left dx/\d.toList=jo l done/\V9={j with toks:=j.toks+k8 done})
   _ ?_ ?_ _ _ ⟨[],I,rfl,S,rfl,rfl⟩
  ·rintro f dx d V9 ⟨done,left,rfl,i,m,rfl⟩;cases left with
   |nil=>cases (show f::dx=[] from i)
   |cons s left=>
    let⟨v,@u,e,A,t⟩:=i;cases e;have WR:=FP (g:=done) (show ae.keys r (done++s::left)=aa from n);rw[ae.keys,cy]at WR;refine aA (GF r WR.1 (by show P.units+1+r<b3;lia) A ?_);first
     | exact aU ⟨done++[s],left,by simp,t,by simp[m,AL,jo],by simp[yl,k8,q1]⟩
     | exact aA (aU (aU ⟨done++[s],left,by simp,t,by simp[m,AL,jo],by simp[yl,k8,q1]⟩))
  ·rintro d V9 ⟨done,left,rfl,i,m,rfl⟩;cases left with
   |cons s left=>let⟨W,@W,e,W⟩:=i;cases e
   |nil=>
   rw[cO]at c;show wpAny _ _ (retInt<|bl.Tuple.tupleHashOf d.toList) _ _ _;rw[m];refine Fn ?_;show wpAny _ _ (if (decide (-(2:Int)^63<=bl.Tuple.tupleHashOf (jo l done))&&decide (bl.Tuple.tupleHashOf (jo l done)<2^63))=aa then _ else _) G Wa _;rw[d8,uw]at c;unfold reduceHash at c;by_cases p:(decide (-(2:Int)^63<=bl.Tuple.tupleHashOf (jo l done))&&decide (bl.Tuple.tupleHashOf (jo l done)<2^63))=aa
   ·rw[aJ p];rw[aJ p]at c;exact aU (by simpa [q1] using c)
   ·rw[aP p];rw[aP p]at c;exact aA (ki (aU (by simpa [q1] using c)))
 |_,_,_,_,.a6,_,_,n,_,_,_=>by cases ‹Nat›<;>cases n
 |_,_,_,_,.ay _,_,_,n,_,_,_=>by cases ‹Nat›<;>cases n
 |_,_,_,_,.fn _,_,_,n,_,_,_=>by cases ‹Nat›<;>cases n
 |_,_,_,_,.aW _,_,_,n,_,_,_=>by cases ‹Nat›<;>cases n
 |_,_,_,_,.fd,_,_,n,_,_,_=>by cases ‹Nat›<;>cases n
 |0,_,_,_,.tup _,_,_,n,_,_,_=>by cases n
mutual
def cT:ae->ae->Bool
 |.a6,.a6=>aa
 |.ay g,.ay d=>g==d
 |.ay g,.int i=>(if g then 1 else 0)==i
 |.int a,.ay d=>a==(if d then 1 else 0)
 |.int a,.int i=>a==i
 |.str f,.str C=>f==C
 |.tup g,.tup d=>fh g d
 |_,_=>aw
def fh:List ae->List ae->Bool
 |[],[]=>aa
 |g::u,d::B=>cT g d&&fh u B
 |_,_=>aw
end
mutual
def ae.bI:Nat->ae->Bool
 |_,.a6=>aa
 |_,.ay _=>aa
 |_,.int _=>aa
 |_,.str _=>aa
 |r+1,.tup I=>ae.de r I
 |_,_=>aw
def ae.de:Nat->List ae->Bool
 |_,[]=>aa
 |r,s::I=>ae.bI r s&&ae.de r I
end
theorem kW{r:Nat}:∀{I:List ae}{i:Nat}{s:ae},ae.de r I=aa->I[i]?=Z s->ae.bI r s=aa
 |[],i,s,_,c=>by simp at c
 |e::I,0,s,n,c=>by
  rw[ae.de,cy]at n;simp at c;subst c;exact n.1
 |e::I,i+1,s,n,c=>by
  rw[ae.de,cy]at n;exact kW n.2 ⇑c
theorem el.get{c:a_}:∀{I:List ae}{V7:List ag}{i:Nat}{v:ag},el c I V7->V7[i]?=Z v->∃s,I[i]?=Z s/\eg c s v
 |[],V7,i,v,g,e=>by rw[show V7=[] from g]at e;simp at e
 |s::I,V7,0,v,g,e=>by
  let⟨J,@u,rfl,a,b⟩:=g;simp at e;subst e;exact⟨s,rfl,a⟩
 |s::I,V7,i+1,v,g,e=>by
  let⟨J,@u,rfl,a,b⟩:=g;let⟨@d,A,E⟩:=el.get (i:=i) b ⇑e;exact⟨d,by simpa using A,E⟩
theorem JB{c:a_}:∀(r:Nat) {f C:ae}{v:ag},ae.bI r f=aa->ae.bI r C=aa->eg c f v->eg c C v->cT f C=aa
 |r,.a6,C,v,_,ba,j,b=>by
  cases (show v=.none from j);cases C with
  |a6=>rfl
  |ay d=>cases b
  |int i=>let⟨@J,e⟩:=b;cases e
  |str l=>let⟨@J,e⟩:=b;cases e
  |tup I=>let⟨W,W,W,@W,e,W⟩:=b;cases e
  |fn g=>cases r<;>cases ba
  |aW g=>cases r<;>cases ba
  |fd=>cases r<;>cases ba
 |r,.ay d,C,v,_,ba,j,b=>by
  cases (show v=.bool d from j);cases C with
  |a6=>cases b
  |ay h=>cases b;simp[cT]
  |int i=>let⟨@J,e⟩:=b;cases e
  |str l=>let⟨@J,e⟩:=b;cases e
  |tup I=>let⟨W,W,W,@W,e,W⟩:=b;cases e
  |fn g=>cases r<;>cases ba
  |aW g=>cases r<;>cases ba
  |fd=>cases r<;>cases ba
 |r,.int a,C,v,_,ba,j,b=>by
  let⟨@B,rfl⟩:=j;cases C with
  |a6=>cases b
  |ay h=>cases b
  |int i=>let⟨@J,e⟩:=b;cases e;simp[cT]
  |str l=>let⟨@J,e⟩:=b;cases e
  |tup I=>let⟨W,W,W,@W,e,W⟩:=b;cases e
  |fn g=>cases r<;>cases ba
  |aW g=>cases r<;>cases ba
  |fd=>cases r<;>cases ba
 |r,.str a,C,v,_,ba,j,b=>by
  let⟨@B,rfl⟩:=j;cases C with
  |a6=>cases b
  |ay h=>cases b
  |int i=>let⟨@J,e⟩:=b;cases e
  |str l=>let⟨@J,e⟩:=b;cases e;simp[cT]
  |tup I=>let⟨W,W,W,@W,e,W⟩:=b;cases e
  |fn g=>cases r<;>cases ba
  |aW g=>cases r<;>cases ba
  |fd=>cases r<;>cases ba
 |r+1,.tup I,C,v,t,ba,j,b=>by
  let⟨g,o,Wr,@k,rfl,A,E,w,x⟩:=j;cases C with
  |a6=>cases b
  |ay h=>cases b
  |int i=>let⟨@J,e⟩:=b;cases e
  |str l=>let⟨@J,e⟩:=b;cases e
  |fn g=>cases ba
  |aW g=>cases ba
  |fd=>cases ba
  |tup V_=>
   let⟨G,M,H,@L,e,q,N,m,y⟩:=b;cases e;rw[A]at q;cases q;rw[w]at m;injection m with m _;subst m;have all:∀(I V_:List ae) (V7:List ag),ae.de r I=aa->ae.de r V_=aa->el c I V7->el c V_ V7->fh I V_=aa:=by
    intro I;induction I with
    |nil=>
     intro V_ V7 W W g d;cases V_ with
     |nil=>rfl
     |cons e V_=>let⟨W,@W,p,W⟩:=d;rw[show V7=[] from g]at p;cases p
    |cons s I z=>
     intro V_ V7 WD WR g d;let⟨v,@u,rfl,D,F⟩:=g;cases V_ with
     |nil=>cases (show v::u=[] from d)
     |cons e V_=>
      let⟨O,@W3,p,dY,dH⟩:=d;cases p;rw[ae.de,cy]at WD WR;rw[fh,JB r WD.1 WR.1 D dY,z V_ u WD.2 WR.2 F dH];rfl
   rw[cT];exact all I V_ _ t ba x y
 |r,.fn _,_,_,n,_,_,_=>by cases r<;>cases n
 |r,.aW _,_,_,n,_,_,_=>by cases r<;>cases n
 |r,.fd,_,_,n,_,_,_=>by cases r<;>cases n
 |0,.tup _,_,_,n,_,_,_=>by cases n
def tR{e:Nat->Bool}:∀{I V_:List ae},(∀(i:Nat) (f C:ae),I[i]?=Z f->V_[i]?=Z C->e i=cT f C)->((range<|min I.length V_.length).all e&&I.length==V_.length)=fh I V_:=by
 have Q:∀(I V_:List ae) (x:Nat->Bool),(∀(i:Nat) (f C:ae),I[i]?=Z f->V_[i]?=Z C->x i=cT f C)->((range<|min I.length V_.length).all x&&I.length==V_.length)=fh I V_:=by
  intro I;induction I with
  |nil=>intro V_ x W;cases V_<;>simp[fh]
  |cons s I a=>
   intro V_ x c;cases V_ with
   |nil=>simp[fh]
   |cons h V_=>
    have:=a V_ (λi=>x<|i+1) λi f C g d=>c (i+1) f C ⇑g ⇑d;rw[fh,<-this,<-c 0 s h rfl rfl];rw[dm,dm,show min (I.length+1) (V_.length+1)=min I.length V_.length+1 by lia,List.range_succ_eq_map,G6,uT,Bool.and_assoc];congr 2;rw[k6];simp
 exact λ{I V_} c=>Q I V_ e c
theorem j9{j:au}:∀(r:Nat) {P:bH}{f C:ae}{J v:ag},ae.bI r f=aa->ae.bI r C=aa->P.units+r+1<b3->eg j.heap f J->eg j.heap C v->SeqAt.EqAt P j J v (cT f C)
 |r,P,.a6,C,J,v,_,ba,s,l,b=>by
  cases (show J=.none from l);cases C with
  |a6=>cases (show v=.none from b);exact SeqAt.EqAt.same _
  |ay d=>cases (show v=.bool d from b);exact TP d
  |int i=>let⟨@B,rfl⟩:=b;exact Tf i B
  |str m=>let⟨@B,rfl⟩:=b;exact KD m B
  |tup I=>let⟨g,o,Wr,@k,rfl,A,E,q,W⟩:=b;exact L1 ⟨o,A,E,k,q⟩ ⋯
  |fn g=>cases r<;>cases ba
  |aW g=>cases r<;>cases ba
  |fd=>cases r<;>cases ba
 |r,P,.ay d,C,J,v,_,ba,s,l,b=>by
  cases (show J=.bool d from l);cases C with
  |a6=>cases (show v=.none from b);exact U3 d
  |ay h=>cases (show v=.bool h from b);exact Vm d h
  |int i=>let⟨@B,rfl⟩:=b;exact Kj d i B
  |str m=>let⟨@B,rfl⟩:=b;exact U8 d m B
  |tup I=>let⟨g,o,Wr,@k,rfl,A,E,q,W⟩:=b;exact Qf d ⟨o,A,E,k,q⟩ ⋯
  |fn g=>cases r<;>cases ba
  |aW g=>cases r<;>cases ba
  |fd=>cases r<;>cases ba
 |r,P,.int a,C,J,v,_,ba,s,l,b=>by
  let⟨@c,rfl⟩:=l;cases C with
  |a6=>cases (show v=.none from b);exact Mf a c
  |ay h=>cases (show v=.bool h from b);exact Mi a c h
  |int i=>let⟨@B,rfl⟩:=b;exact Sn a c i B
  |str m=>let⟨@B,rfl⟩:=b;exact Dq a c m B
  |tup I=>let⟨g,o,Wr,@k,rfl,A,E,q,W⟩:=b;exact MD a c ⟨o,A,E,k,q⟩ ⋯
  |fn g=>cases r<;>cases ba
  |aW g=>cases r<;>cases ba
  |fd=>cases r<;>cases ba
 |r,P,.str a,C,J,v,_,ba,s,l,b=>by
  let⟨@c,rfl⟩:=l;cases C with
  |a6=>cases (show v=.none from b);exact K5 a c
  |ay h=>cases (show v=.bool h from b);exact MA a c h
  |int i=>let⟨@B,rfl⟩:=b;exact FT a c i B
  |str m=>let⟨@B,rfl⟩:=b;exact Ku a c m B
  |tup I=>let⟨g,o,Wr,@k,rfl,A,E,q,W⟩:=b;exact Tt a c ⟨o,A,E,k,q⟩ ⋯
  |fn g=>cases r<;>cases ba
  |aW g=>cases r<;>cases ba
  |fd=>cases r<;>cases ba
 |r+1,P,.tup I,C,J,v,u,ba,s,l,b=>by
  have D:=l;let⟨g,o,Wr,@k,rfl,A,E,q,w⟩:=l;have W0:j.heap.IsTuple g Wr:=⟨o,A,E,k,q⟩;cases C with
  |a6=>cases (show v=.none from b);exact Kp W0 ⋯
  |ay h=>cases (show v=.bool h from b);exact O5 h W0 ⋯
  |int i=>let⟨@B,rfl⟩:=b;exact LX i B W0 ⋯
  |str m=>let⟨@B,rfl⟩:=b;exact PZ m B W0 ⋯
  |fn g=>cases ba
  |aW g=>cases ba
  |fd=>cases ba
  |tup V_=>
   have F:=b;let⟨d,M,t,@G,rfl,H,L,N,x⟩:=b;by_cases e:g=d
   ·subst e;rw[JB (r+1) u ba D F];exact SeqAt.EqAt.same _
   ·have Xf:j.heap.IsTuple d t:=⟨M,H,L,G,N⟩;have a8:=w.length;have bz:=x.length;have O:Wr.toList.length=Wr.size:=by simp
    have Q:t.toList.length=t.size:=by simp
    rw[O]at a8;rw[Q]at bz;have p:=Ul (A:=P) e (F5 (e:=λi=>cT (I.getD i .a6)<|V_.getD i .a6) W0 Xf ⋯ λi R S=>by
     let⟨@WY,y,T⟩:=w.get (i:=i) (v:=Wr[i]) (by rw[fD];simp[R]);let⟨@WZ,z,U⟩:=x.get (i:=i) (v:=t[i]) (by rw[fD];simp[S]);rw[cP,y,cP,z];exact j9 r (kW u y) (kW ba z) (by show P.units+1+r+1<b3;lia) T U)
    rw[<-a8,<-bz,tR (I:=I) (V_:=V_) (λi f C g d=>by rw[cP,g,cP,d];rfl)]at p;rw[cT];exact p
 |r,P,.fn _,_,_,_,n,_,_,_,_=>by cases r<;>cases n
 |r,P,.aW _,_,_,_,n,_,_,_,_=>by cases r<;>cases n
 |r,P,.fd,_,_,_,n,_,_,_,_=>by cases r<;>cases n
 |0,P,.tup _,_,_,_,n,_,_,_,_=>by cases n
mutual
theorem ya:∀{r:Nat}{s:ae},ae.key r s=aa->ae.bI r s=aa
 |r,.int _,_=>by cases r<;>rfl
 |r,.str _,_=>by cases r<;>rfl
 |r+1,.tup I,c=>by rw[ae.key]at c;rw[ae.bI];exact DA c
 |0,.tup _,c=>by cases c
 |r,.a6,c=>by cases r<;>cases c
 |r,.ay _,c=>by cases r<;>cases c
 |r,.fn _,c=>by cases r<;>cases c
 |r,.aW _,c=>by cases r<;>cases c
 |r,.fd,c=>by cases r<;>cases c
theorem DA:∀{r:Nat}{I:List ae},ae.keys r I=aa->ae.de r I=aa
 |r,[],_=>by rw[ae.de]
 |r,s::I,c=>by rw[ae.keys,cy]at c;rw[ae.de,ya c.1,DA c.2];rfl
end
mutual
theorem CC:∀{r:Nat}{f C:ae},ae.key r f=aa->ae.key r C=aa->cT f C=decide (f=C)
 |r,.int a,C,_,b=>by
  cases C with
  |int i=>rw[cT];by_cases e:a=i<;>simp[e]
  |str d=>simp[cT]
  |tup d=>simp[cT]
  |_=>cases r<;>cases b
 |r,.str a,C,_,b=>by
  cases C with
  |int i=>simp[cT]
  |str d=>rw[cT];by_cases e:a=d<;>simp[e]
  |tup d=>simp[cT]
  |_=>cases r<;>cases b
 |r+1,.tup I,C,g,b=>by
  cases C with
  |int i=>simp[cT]
  |str d=>simp[cT]
  |tup V_=>
   rw[ae.key]at g b;rw[cT,Iw g b];simp
  |_=>cases b
 |0,.tup _,_,c,_=>by cases c
 |r,.a6,_,c,_=>by cases r<;>cases c
 |r,.ay _,_,c,_=>by cases r<;>cases c
 |r,.fn _,_,c,_=>by cases r<;>cases c
 |r,.aW _,_,c,_=>by cases r<;>cases c
 |r,.fd,_,c,_=>by cases r<;>cases c
theorem Iw:∀{r:Nat}{f C:List ae},ae.keys r f=aa->ae.keys r C=aa->fh f C=decide (f=C)
 |r,[],C,_,_=>by cases C<;>simp[fh]
 |r,s::I,[],_,_=>by simp[fh]
 |r,s::I,e::V_,a,b=>by
  rw[ae.keys,cy]at a b;rw[fh,CC a.1 b.1,Iw a.2 b.2];by_cases A:s=e<;>by_cases E:I=V_<;>simp[A,E]
end
theorem uY:∀(r:Nat) {P:bH}{Wa:ag->au->Prop}{j:au}{s:ae}{v:ag}{G:Bool->au->Prop},ae.key r s=aa->eg j.heap s v->G aa j->wpAny (aV Wf l) P (eqIsQuiet r v) G Wa j
 |r,P,Wa,j,.int a,v,G,_,b,c=>by
  let⟨@B,rfl⟩:=b;rw[Co r rfl];exact aU c
 |r,P,Wa,j,.str a,v,G,_,b,c=>by
  let⟨@B,rfl⟩:=b;rw[Co r rfl];exact aU c
 |r+1,P,Wa,j,.tup I,v,G,n,b,c=>by
  let⟨g,o,Wr,@k,rfl,h,p,hd,S⟩:=b;have i:j.TypeIs (.ref g) "tuple" := ⟨o,h,p⟩;unfold eqIsQuiet;refine aA (od i F.slot_tuple_eq.lookup ?_);show wpAny _ _ (isInstance (.ref g) (.type "tuple") >>= _) _ _ j;refine aA (vh i isSubtype_tuple_tuple ?_);simp only[qx,hJ,gf];refine aA (i2 h hd ?_);refine aA ?_;show wpAny _ _ (forIn Wr _ _) _ _ j;rw[<-vq];rw[ae.key]at n;refine ot _ (λdx u V9=>u.1=Y/\V9=j/\∃left,ae.keys r left=aa/\el j.heap left dx) _ ?_ ?_ _ _ ⟨rfl,rfl,I,n,S⟩
  ·rintro v dx u V9 ⟨d,rfl,left,f,m⟩;cases left with
   |nil=>cases (show v::dx=[] from m)
   |cons s left=>
    let⟨t,@W3,e,A,q⟩:=m;cases e;rw[ae.keys,cy]at f;refine aA (uY r f.1 A ?_);simp only[qx,hJ,gf];exact aU ⟨rfl,rfl,left,f.2,q⟩
  ·rintro⟨w,x⟩ V9 ⟨d,rfl,W⟩;simp only at d;subst d;exact aU c
 |_,_,_,_,.a6,_,_,n,_,_=>by cases ‹Nat›<;>cases n
 |_,_,_,_,.ay _,_,_,n,_,_=>by cases ‹Nat›<;>cases n
 |_,_,_,_,.fn _,_,_,n,_,_=>by cases ‹Nat›<;>cases n
 |_,_,_,_,.aW _,_,_,n,_,_=>by cases ‹Nat›<;>cases n
 |_,_,_,_,.fd,_,_,n,_,_=>by cases ‹Nat›<;>cases n
 |0,_,_,_,.tup _,_,_,n,_,_=>by cases n
def e7(Wf:bS)(l:bA):HeapKind Wf l (List ae) where
 is:=λc I g=>ae.keys 7 I=aa/\eg c (.tup I) (.ref g)
 hash:=λI=>d8 l (.tup I)
 draws:=λI=>uw (.tup I)
 room:=λP=>P.units+10<b3
 inj:=λa b=>by
  have:=Hw 8 (f:=.tup _) (C:=.tup _) a.1 b.1 a.2 b.2;injection this
 keeps:=λ{c U n g s o V_ W2} f m hd Wd=>⟨f.1,f.2.keep λd J Wr r h t k=>by
  have q:d≠s:=by
   rintro rfl;rw[m]at h;cases h;rw[hd]at k;cases k
  exact (Wd.2 d q).trans h⟩
 pyHash:=λi e c=>GF 8 (s:=.tup _) e.1 (show _<_ by have:_+10<b3:=i;lia) e.2 c
 eqBool:=λ{P Wa j f C g d G} i a b c=>by
  have p:=j9 (j:=j) 8 (P:=P) (f:=.tup f) (C:=.tup C) (ya (r:=8) (s:=.tup f) a.1) (ya (r:=8) (s:=.tup C) b.1) (show _<_ by have:P.units+10<b3:=i;lia) a.2 b.2;rw[CC (r:=8) (f:=.tup f) (C:=.tup C) a.1 b.1]at p;exact p _ _ Wa G ⇑c
 quiet:=λe c=>uY 8 (s:=.tup _) e.1 e.2 c
end
abbrev e8:=Sum Int aI
def rr:e8->ag->Bool
 |.inl n,v=>ag.isInt n v
 |.inr f,v=>ag.isStrOf f v
def Kr(l:bA):e8->Int
 |.inl n=>hashInt n
 |.inr f=>hashStr l f
theorem mN:∀{n:e8}{v:ag},rr n v=aa->(∃a B,n=Sum.inl a/\v=ag.int a B)\/(∃f B,n=Sum.inr f/\v=ag.str f B)
 |.inl a,v,c=>by
  let⟨@B,e⟩:=ag.isInt_shape (k:=a) (v:=v) c;exact .inl ⟨a,B,rfl,e⟩
 |.inr f,v,c=>by
  let⟨@B,e⟩:=ag.isStrOf_shape (x:=f) (v:=v) c;exact .inr ⟨f,B,rfl,e⟩
def Mc(a:Int)(B:iv):rr (.inl a) (.int a B)=aa:=by simp[rr,ag.isInt]
def T4(f:aI)(B:iv):rr (.inr f) (.str f B)=aa:=by simp[rr,ag.isStrOf]
def KV(g d:Int):decide ((Sum.inl g:e8)=Sum.inl d)=(g==d):=by
 by_cases e:g=d
 ·subst e;simp
 ·have c:¬ (Sum.inl g:e8)=Sum.inl d:=λp=>e (Sum.inl.inj p);rw[cW c];exact (AK.mpr e).symm
def TJ(g d:aI):decide ((Sum.inr g:e8)=Sum.inr d)=decide (g=d):=by
 by_cases e:g=d
 ·subst e;simp
 ·have c:¬ (Sum.inr g:e8)=Sum.inr d:=λp=>e (Sum.inr.inj p);rw[cW c,cW e]
def LW(g:Int)(d:aI):decide ((Sum.inl g:e8)=Sum.inr d)=aw:=cW (λp=>nomatch p)
def NK(g:aI)(d:Int):decide ((Sum.inr g:e8)=Sum.inl d)=aw:=cW (λp=>nomatch p)
def nI(Wf:bS)(l:bA):PySem.KeyKind Wf l e8 where
 is:=rr
 hash:=Kr l
 inj:=λv g d k j=>by
  rcases mN k with ⟨a,B,rfl,rfl⟩|⟨f,B,rfl,rfl⟩
  ·rcases mN j with ⟨i,J,rfl,e⟩|⟨C,J,rfl,e⟩
   ·injection e with b _;rw[b]
   ·exact nomatch e
  ·rcases mN j with ⟨i,J,rfl,e⟩|⟨C,J,rfl,e⟩
   ·exact nomatch e
   ·injection e with b _;rw[b]
 byValue:=λn v c=>by
  rcases mN c with ⟨a,B,rfl,rfl⟩|⟨f,B,rfl,rfl⟩<;>rfl
 pyHash:=λh c=>by
  rcases mN h with ⟨a,B,rfl,rfl⟩|⟨f,B,rfl,rfl⟩
  ·exact GN c
  ·exact CV c
 eqBool:=λm h c=>by
  rcases mN m with ⟨a,B,rfl,rfl⟩|⟨f,B,rfl,rfl⟩
  ·rcases mN h with ⟨i,J,rfl,rfl⟩|⟨C,J,rfl,rfl⟩
   ·rw[KV]at c;exact wpAny_eqBool_int c
   ·rw[LW]at c;exact Dq a B C J _ _ _ _ c
  ·rcases mN h with ⟨i,J,rfl,rfl⟩|⟨C,J,rfl,rfl⟩
   ·rw[NK]at c;exact FT f B i J _ _ _ _ c
   ·rw[TJ]at c;exact wpAny_eqBool_str c
 «strs»:=λn f B v c=>by
  rcases mN c with ⟨a,J,rfl,e⟩|⟨C,J,rfl,e⟩
  ·exact nomatch e
  ·injection e with b _;subst b;cases v<;>rfl
def S4(Wf:bS)(l:bA)(a:Int)(B:iv):(nI Wf l).is (.inl a) (.int a B)=aa:=Mc a B
def K7(Wf:bS)(l:bA)(f:aI)(B:iv):(nI Wf l).is (.inr f) (.str f B)=aa:=T4 f B
inductive ar where
 | a6|ay (d:Bool)|int (a:Int)|str (f:aI)|sg (d:Array UInt8)|AU (d:UInt64)|ref (g:aj)|ty (r:String)
 deriving DecidableEq
variable{V7 w:List ar}{C v:ar}
def cG:ar->ag->Prop
 |.a6,J=>J=ag.none
 |.ay d,J=>J=ag.bool d
 |.int a,J=>∃B,J=ag.int a B
 |.str f,J=>∃B,J=ag.str f B
 |.sg d,J=>∃B,J=ag.bytes d B
 |.AU d,J=>∃B,J=ag.float d B
 |.ref g,J=>J=ag.ref g
 |.ty r,J=>J=ag.type r
abbrev b1:List ar->List ag->Prop:=eP cG
def b1.length(u:b1 w Wy):w.length=Wy.length:=eP.length u
theorem b1.get:∀{w:List ar}{Wy:List ag}{a:Nat}{f:ar},b1 w Wy->w[a]?=Z f->∃J,Wy[a]?=Z J/\cG f J
 |_,_,_,_,.nil,e=>by simp at e
 |_,_,0,_,.cons u _,e=>by simp at e;subst e;exact⟨_,rfl,u⟩
 |_,_,a+1,f,.cons _ B,e=>by
  let⟨@J,A,E⟩:=b1.get (a:=a) (f:=f) B ⇑e;exact⟨J,by simpa using A,E⟩
theorem b1.set{f:ar}{J:ag}(u:cG f J):∀{w:List ar}{Wy:List ag} (a:Nat),b1 w Wy->b1 (w.set a f) (Wy.set a J)
 |_,_,_,.nil=>.nil
 |_,_,0,.cons _ B=>.cons u B
 |_,_,a+1,.cons p B=>.cons p (b1.set u a B)
theorem b1.append:∀{w Wn:List ar}{Wy H:List ag},b1 w Wy->b1 Wn H->b1 (w++Wn) (Wy++H)
 |_,_,_,_,.nil,j=>j
 |_,_,_,_,.cons u B,j=>.cons u (b1.append B j)
theorem b1.take:∀{w:List ar}{Wy:List ag} (r:Nat),b1 w Wy->b1 (w.take r) (Wy.take r)
 |_,_,0,_=>.nil
 |_,_,_+1,.nil=>.nil
 |_,_,r+1,.cons u B=>.cons u (b1.take r B)
theorem b1.drop:∀{w:List ar}{Wy:List ag} (r:Nat),b1 w Wy->b1 (w.drop r) (Wy.drop r)
 |_,_,0,u=>u
 |_,_,_+1,.nil=>.nil
 |_,_,r+1,.cons _ B=>b1.drop r B
def lQ:Option ar->Option ag->Prop
 |some v,Z J=>cG v J
 |none,Y=>True
 |_,_=>False
def gF{Wz:Type}:List (Wz×ar)->List (Wz×ag)->Prop:=(eP λ(q:Wz×ar) (p:Wz×ag)=>q.1=p.1/\cG q.2 p.2)
def ct:e8->ar
 |.inl a=>.int a
 |.inr f=>.str f
inductive hq where
 | lst (w:List ar)
 | tup (w:List ar)
 | ee (Wm:List (e8×ar))|aH (Wm:List (List ae×ar))
 | set (Wo:Int->Bool) (r:Nat)
 | ins (aT i:aj) (V:List (aI×ar))
 | own (f:aj)
 | By (V:List (aI×ar))
 | met (x f:aj)
 | yn (M S:Int)
 | eF (o:bk) (J:hq)
 | oB (Wk:Array ag)
 | ext (VZ:a_->Prop)
variable{o:hq}
abbrev aG:=aj->Option hq
variable{V6 m:aG}
def upd(m:aG)(g:aj)(o:hq):aG:=(λd=>if d=g then Z o else m d)
def fB:upd m g o g=Z o:=by unfold upd;rw[aJ rfl]
def dI(c:d≠g):upd m g o d=m d:=by unfold upd;rw[aP c]
def Gv{J:hq}(c:m g=Z o)(U:m d=Z J)(s:o≠J):g≠d:=by
 intro e;subst e;rw[c]at U;exact s (Option.some.inj U)
def ij(c:m g=Z o)(U:m d=Y):g≠d:=by
 intro e;subst e;rw[c]at U;cases U
mutual
def cR(m:aG):ae->ar->Prop
 |.a6,v=>v=.a6
 |.ay d,v=>v=.ay d
 |.int a,v=>v=.int a
 |.str f,v=>v=.str f
 |.fn g,v=>v=.ref g
 |.aW I,v=>∃g w o,v=.ref g/\m g=Z (.eF o<|.lst w)/\bT m I w
 |.fd,v=>∃g o,v=.ref g/\m g=Z (.eF o<|.aH [])
 |.tup I,v=>∃g w,v=.ref g/\m g=Z (.tup w)/\bT m I w
def bT(m:aG):List ae->List ar->Prop
 |[],V7=>V7=[]
 |s::I,V7=>∃v u,V7=v::u/\cR m s v/\bT m I u
end
def sI(m V6:aG):Prop:=(∀g w,m g=Z (.tup w)->V6 g=Z (.tup w))
structure rA(m V6:aG):Prop where
 t:sI m V6
 z:∀g o J,m g=Z (.eF o J)->V6 g=Z (.eF o J)
noncomputable instance {m V6:aG}:CoeFun (rA m V6) (λ_=>∀g w,m g=Z (.tup w)->V6 g=Z (.tup w)):=⟨λB=>B.t⟩
mutual
theorem cR.mono{m V6:aG}(n:rA m V6):∀{s:ae}{v:ar},cR m s v->cR V6 s v
 |.a6,_,e=>e
 |.ay _,_,e=>e
 |.int _,_,e=>e
 |.str _,_,e=>e
 |.fn _,_,e=>e
 |.tup I,_,e=>by
  let⟨g,@w,rfl,A,E⟩:=e;exact⟨g,w,rfl,n.t g w A,bT.mono n E⟩
 |.aW I,_,e=>by
  let⟨g,w,@o,rfl,A,E⟩:=e;exact⟨g,w,o,rfl,n.z g _ _ A,bT.mono n E⟩
 |.fd,_,e=>by
  let⟨g,@o,rfl,A⟩:=e;exact⟨g,o,rfl,n.z g _ _ A⟩
theorem bT.mono{m V6:aG}(n:rA m V6):∀{I:List ae}{V7:List ar},bT m I V7->bT V6 I V7
 |[],_,e=>e
 |s::I,_,e=>by
  let⟨v,@u,rfl,A,E⟩:=e;exact⟨v,u,rfl,cR.mono n A,bT.mono n E⟩
end
def iP(m:aG)(n:List ae)(d:aj):Prop:=(ae.keys 7 n=aa/\cR m (.tup n) (.ref d))
mutual
theorem cR.r1{m V6:aG}(n:sI m V6):∀{s:ae}{r:Nat}{v:ar},ae.key r s=aa->cR m s v->cR V6 s v
 |.a6,_,_,_,e=>e
 |.ay _,_,_,_,e=>e
 |.int _,_,_,_,e=>e
 |.str _,_,_,_,e=>e
 |.fn _,_,_,_,e=>e
 |.tup I,r+1,_,p,e=>by
  let⟨g,@w,rfl,A,E⟩:=e;exact⟨g,w,rfl,n g w A,bT.r1 n p E⟩
 |.tup I,0,_,p,e=>nomatch p
 |.aW I,0,_,p,e=>nomatch p
 |.aW I,r+1,_,p,e=>nomatch p
 |.fd,0,_,p,e=>nomatch p
 |.fd,r+1,_,p,e=>nomatch p
theorem bT.r1{m V6:aG}(n:sI m V6):∀{I:List ae}{r:Nat}{V7:List ar},ae.keys r I=aa->bT m I V7->bT V6 I V7
 |[],_,_,_,e=>e
 |s::I,r,_,p,e=>by
  let⟨v,@u,rfl,A,E⟩:=e;rw[ae.keys,cy]at p;exact⟨v,u,rfl,cR.r1 n p.1 A,bT.r1 n p.2 E⟩
end
def iP.mono{n:List ae}(c:iP m n d)(B:sI m V6):iP V6 n d:=by
 let@⟨a,⟨g,@w,e,A,E⟩⟩:=c;exact⟨a,g,w,e,B g w A,E.r1 B a⟩
def mH(c:a_)(g:aj)(Wr:Array ag):Prop:=(∃o,c.get? g=Z o/\(o.cls,o.dict)=(.type "tuple",Y)/\∃r,o.data=.seq Wr r)
def mH.tup{Wr:Array ag}(f:mH c g Wr):oI c g Wr:=let ⟨o,e,h,u⟩:=f;⟨o,e,(Prod.mk.inj h).1,u⟩
def mH.new(c:a_)(Wr:Array ag):mH (c.push {cls:=.type "tuple",data:=.seq Wr}) c.objs.size Wr:=⟨_,d4 _ rfl,rfl,_,rfl⟩
section
variable(T:bS)(l:bA)
def fN(m:aG)(c:a_)(g:aj):hq->Prop
 |.lst w=>w.length<=sizeLine/\∃(Wl:List ag) (r:Nat),b1 w Wl/\c.get? g=Z {cls:=.type "list",data:=.seq Wl.toArray r}
 |.tup w=>w.length<=sizeLine/\∃Wl:List ag,b1 w Wl/\mH c g Wl.toArray
 |.ee Wm=>Wm.length<=sizeLine/\(g==jW)=aw/\∃V7,gF Wm V7/\c.DictOf (nI T l) g V7
 |.aH Wm=>Wm.length<=sizeLine/\(g==jW)=aw/\∃w:List (List ae×aj×ag),
   eP (λ(q:List ae×ar) (p:List ae×aj×ag)=>q.1=p.1/\iP m q.1 p.2.1/\cG q.2 p.2.2) Wm w/\
   ∃o V_ W2,c.get? g=Z o/\o.ExactDict/\o.data=.dict V_ W2/\V_.toList=w.map (entryOfKey<|e7 T l)/\(w.map (·.1)).Nodup
 |.set Wo r=>c.SetOf (intKind T l) g Wo r
 |.ins aT i V=>m i=Z (.own g)/\V.length<=1000/\i≠g/\c.get? g=Z (PySem.W.instObj aT i)/\
   ∃y,c.Ns1 i y/\(∀x,lQ (V.lookup x)<|y x)/\PySem.Within y (V.map (·.1))
 |.own _=>∃o,c.get? g=Z o
 |.By V=>∃y,c.Ns1 g y/\∀x,lQ (V.lookup x) (y x)
 |.yn M S=>∃B J v,c.get? g=Z {cls:=.type "range",data:=.fields #[.int M B,.int S J,.int 1 v]}
 |.eF o J=>c.get? g=Z o/\fN m c g J
 |.oB Wk=>c.get? g=Z {cls:=.none,data:=.fields Wk}
 |.met x f=>c.get? g=Z (Γ (.ref x)<|.ref f)
 |.ext a=>a c/\(∃o,c.get? g=Z o)/\∀A E:a_,a A->(∀o,A.get? g=Z o->E.get? g=Z o)->a E
def eE(m:aG)(c:a_):Prop:=(∀g o,m g=Z o->fN T l m c g o)
end
section
variable{T:bS}{l:bA}{m V6:aG}{c U:a_}{g:aj}{o:hq}
def fN.lt(f:fN T l m c g o):g<c.objs.size:=by
 cases o with
 |lst w=>let@⟨_,⟨_,@_,_,e⟩⟩:=f;exact cu e
 |tup w=>let@⟨_,⟨@_,_,q⟩⟩:=f;exact q.tup.lt
 |ee Wm=>let@⟨_,_,⟨@_,_,⟨o,_,@_,e,_⟩⟩⟩:=f;exact cu e
 |aH Wm=>let@⟨_,_,⟨@_,_,⟨o,_,@_,e,_⟩⟩⟩:=f;exact cu e
 |set Wo r=>let⟨o,W,W,@W,e,W⟩:=f;exact cu e
 |ins aT i V=>let@⟨_,_,_,e,_⟩:=f;exact cu e
 |own C=>let⟨@W,e⟩:=f;exact cu e
 |By V=>let⟨@W,⟨W,W,@W,e,W⟩,W⟩:=f;exact cu e
 |yn M S=>let⟨W,W,@W,e⟩:=f;exact cu e
 |eF a J=>let@⟨e,_⟩:=f;exact cu e
 |oB Wk=>exact cu (show c.get? g=Z _ from f)
 |met x C=>exact cu (show c.get? g=Z _ from f)
 |ext b=>let@⟨_,⟨@_,e⟩,_⟩:=f;exact cu e
theorem eP.wA{Ww W_:Type}{N z:Ww->W_->Prop}:∀{a:List Ww}{b:List W_},eP N a b->(∀g d,N g d->z g d)->eP z a b
 |_,_,.nil,_=>.nil
 |_,_,.cons u B,x=>.cons (x _ _ u) (eP.wA B x)
def fN.kB(f:fN T l m c g o)(n:∀d J,(d=g\/m d=Z (.own g))->c.get? d=Z J->U.get? d=Z J)(j:∀d,m d=Z (.own g)->V6 d=Z (.own g))(br:∀d w,m d=Z (.tup w)->V6 d=Z (.tup w)):fN T l V6 U g o:=by
 induction o with
 |lst w=>let@⟨a,⟨Wl,@r,u,e⟩⟩:=f;exact⟨a,Wl,r,u,n _ _ (.inl rfl) e⟩
 |tup w=>let@⟨a,⟨@Wl,u,⟨@b,e,h⟩⟩⟩:=f;exact⟨a,Wl,u,b,n _ _ (.inl rfl) e,h⟩
 |ee Wm=>let@⟨a,C,⟨@V7,u,⟨b,V_,@W2,e,h⟩⟩⟩:=f;exact⟨a,C,V7,u,b,V_,W2,n _ _ (.inl rfl) e,h⟩
 |aH Wm=>
  let@⟨a,C,⟨@w,u,⟨b,V_,@W2,e,h⟩⟩⟩:=f;exact⟨a,C,w,eP.wA u λq p a=>⟨a.1,a.2.1.mono br,a.2.2⟩,b,V_,W2,n _ _ (.inl rfl) e,h⟩
 |set Wo r=>let⟨b,V_,W2,@B,e,h⟩:=f;exact⟨b,V_,W2,B,n _ _ (.inl rfl) e,h⟩
 |ins aT i V=>
  let@⟨s,a,ne,e,⟨@y,⟨A,V_,@W2,k,h⟩,u⟩⟩:=f;exact⟨j _ s,a,ne,n _ _ (.inl rfl) e,y,⟨A,V_,W2,n _ _ (.inr s) k,h⟩,u⟩
 |own C=>let⟨@b,e⟩:=f;exact⟨b,n _ _ (.inl rfl) e⟩
 |By V=>let⟨@y,⟨A,V_,@W2,e,h⟩,u⟩:=f;exact⟨y,⟨A,V_,W2,n _ _ (.inl rfl) e,h⟩,u⟩
 |yn M S=>let⟨B,J,@v,e⟩:=f;exact⟨B,J,v,n _ _ (.inl rfl) e⟩
 |eF b J t=>let@⟨e,p⟩:=f;exact⟨n _ _ (.inl rfl) e,t p⟩
 |oB Wk=>
  have e:c.get? g=Z {cls:=.none,data:=.fields Wk}:=f;show U.get? g=Z {cls:=.none,data:=.fields Wk};exact n g _ (.inl rfl) e
 |met x C=>
  have e:c.get? g=Z (Γ (.ref x)<|.ref C):=f;show U.get? g=Z (Γ (.ref x)<|.ref C);exact n g _ (.inl rfl) e
 |ext z=>let@⟨q,⟨@o,e⟩,O⟩:=f;exact⟨O _ _ q λo p=>n _ _ (.inl rfl) p,⟨o,n _ _ (.inl rfl) e⟩,O⟩
theorem eE.lt(f:eE T l m c)(e:m g=Z o):g<c.objs.size:=(f g o e).lt
def eE.fresh(f:eE T l m c)(e:c.objs.size<=g):m g=Y:=by
 cases p:m g with
 |none=>rfl
 |some J=>exact absurd (gm (f.lt p) e) (lN _)
def eE.kept(f:eE T l m c)(n:∀d J,c.get? d=Z J->U.get? d=Z J):eE T l m U:=λg o e=>
 (f g o e).kB (λd J W p=>n d J p) (λ_ p=>p) λ_ W p=>p
def eE.laid(f:eE T l m c)(n:∀d J,c.get? d=Z J->U.get? d=Z J)(i:c.objs.size<=g)(new:fN T l (upd m g o) U g o):eE T l (upd m g o) U:=λd J e=>by
 have a:=f.fresh i;by_cases b:d=g
 ·subst b;rw[fB]at e;cases e;exact new
 ·rw[dI b]at e;exact (f d J e).kB (λh v W p=>n h v p) (λh p=>by rw[dI (ij p a)];exact p) λh w p=>by rw[dI (ij p a)];exact p
end
def l9(m:aG)(g:aj)(J:hq):Prop:=(m g=Z J\/∃o,m g=Z (.eF o J))
def l9.ok{J:hq}(u:l9 m g J)(f:eE T l m c):fN T l m c g J:=by
 rcases u with u|⟨o,u⟩
 ·exact f g J u
 ·let@⟨_,p⟩:=f g _ u;exact p
def tW:Option hq->Prop
 |some (.lst _)=>True
 |some (.ee _)=>True
 |some (.aH _)=>True
 |some (.set _ _)=>True
 |some (.ins _ _ _)=>True
 |some (.ext _)=>True
 |_=>False
section
variable{T:bS}{l:bA}{m:aG}{c U:a_}{f e:aj}{M:hq}
def eE.write(ok:eE T l m c)(a:tW (m f))(j:e=f\/m e=Z (.own f))(n:∀d J,d≠e->c.get? d=Z J->U.get? d=Z J)(q:∃J,U.get? e=Z J)(new:fN T l (upd m f M) U f M):eE T l (upd m f M) U:=λd J p=>by
 have k:∀h C,m h=Z (.own C)->h≠f:=λh C u z=>by subst z;rw[u]at a;exact a
 have r:∀h w,m h=Z (.tup w)->h≠f:=λh w u z=>by subst z;rw[u]at a;exact a
 by_cases b:d=f
 ·subst b;rw[fB]at p;cases p;exact new
 ·rw[dI b]at p;by_cases g:d=e
  ·have o:m d=Z (.own f):=by
    rcases j with z|z
    ·exact absurd (g.trans z) b
    ·rw[g];exact z
   rw[p]at o;cases o;let⟨@v,s⟩:=q;exact⟨v,by rw[g];exact s⟩
  ·refine (ok d J p).kB (λh v i u=>n h v ?_ u) (λh u=>by rw[dI (k h d u)];exact u) λh w u=>by rw[dI (r h w u)];exact u
   rcases i with rfl|i
   ·exact g
   ·rintro rfl;rcases j with z|z
    ·exact k h d i z
    ·rw[i]at z;cases z;exact b rfl
end
structure fY(V W7:List aj)(m V6:aG)(c U:a_):Prop where
 keep:∀d o,c.get? d=Z o->m d=Y->d∉V->d∉W7->U.get? d=Z o
 slot:∀d o,c.get? d=Z o->m d=Y->d∈V->d∉W7->∃aO,U.get? d=Z {o with slots:=aO}
 free:∀d o,c.get? d=Z o->m d=Y->d∉W7->V6 d=Y
 there:∀d o,c.get? d=Z o->d∉W7->∃M,U.get? d=Z M
 l7:∀d w,m d=Z (.tup w)->V6 d=Z (.tup w)
 la:∀d o J,m d=Z (.eF o J)->V6 d=Z (.eF o J)
 mr:∀d Wk,m d=Z (.oB Wk)->∃more,V6 d=Z (.oB<|Wk++more)
section
variable{V k W7 b:List aj}{m Wh Ws:aG}{c A E U:a_}{g f e:aj}{o:hq}
def fY.any(J:fY V W7 m Wh c A){d:aj}{a:bk}(p:c.get? d=Z a)(r:m d=Y)(b:d∉W7):∃aO,A.get? d=Z {a with slots:=aO}:=by
 by_cases e:d∈V
 ·exact J.slot d a p r e b
 ·exact⟨a.slots,J.keep d a p r e b⟩
def fY.kept(n:∀d J,c.get? d=Z J->U.get? d=Z J):fY V W7 m m c U:=
 ⟨λd a p W W W=>n d a p,λd a p W W W=>⟨a.slots,n d a p⟩,λ_ W W r W=>r,λd a p W=>⟨a,n d a p⟩,λ_ W p=>p,λ_ W W p=>p,λ_ Wk p=>⟨#[],by rw[p];simp⟩⟩
def fY.refl:fY V W7 m m c c:=fY.kept λ_ W p=>p
theorem fY.laid(n:∀d J,c.get? d=Z J->U.get? d=Z J)(b:c.objs.size<=g)(a:m g=Y):fY V W7 m (upd m g o) c U where
 keep:=λd J p W W W=>n d J p
 slot:=λd J p W W W=>⟨J.slots,n d J p⟩
 free:=λd J p r W=>by rw[dI (dP<|gm (cu p) b)];exact r
 there:=λd J p W=>⟨J,n d J p⟩
 l7:=λd w p=>by rw[dI (ij p a)];exact p
 la:=λd J w p=>by rw[dI (ij p a)];exact p
 mr:=λd Wk p=>⟨#[],by rw[dI (ij p a),p];simp⟩
def fY.write(b:tW (m f))(k:e=f\/m e=Z (.own f))(n:∀d J,d≠e->c.get? d=Z J->U.get? d=Z J)(l:∃J,U.get? e=Z J):fY V W7 m (upd m f o) c U:=by
 have h:∀d,m d=Y->d≠f:=λd r a=>by subst a;rw[r]at b;exact b
 have i:∀d,m d=Y->d≠e:=λd r a=>by
  subst a;rcases k with u|u
  ·exact h d r u
  ·rw[r]at u;cases u
 have g:∀d J,m d=Z J->¬ tW (Z J)->d≠f:=λd J p t a=>by subst a;rw[p]at b;exact t b
 refine⟨λd J p r W W=>n d J (i d r) p,λd J p r W W=>⟨J.slots,n d J (i d r) p⟩,λd J p r W=>by rw[dI (h d r)];exact r,λd J p W=>?_,
  λd w p=>by rw[dI (g d _ p λa=>a)];exact p,λd J w p=>by rw[dI (g d _ p λa=>a)];exact p,λd Wk p=>⟨#[],by rw[dI (g d _ p λa=>a),p];simp⟩⟩;by_cases j:d=e
 ·subst j;exact l
 ·exact⟨J,n d J j p⟩
end
def wL(c:a_)(m:aG):List aj:=((range c.objs.size).filter λg=>(m g).isSome)
def mJ(c:a_)(m:aG):a_:=(PySem.W.hideAll c (wL c m))
def KS(c:a_)(m:aG):(mJ c m).objs.size=c.objs.size:=PySem.W.hideAll_size _ _
def PU{o:bk}(e:c.get? d=Z o)(r:m d=Y):(mJ c m).get? d=Z o:=
 PySem.W.hideAll_get _ e λa=>by
  have p:(m d).isSome=aa:=(j8.mp a).2;rw[r]at p;simp at p
def UD{o:bk}(e:(mJ c m).get? d=Z o):c.get? d=Z o/\m d=Y:=by
 have a:c.get? d=Z o:=PySem.W.of_hideAll (wL c m) e;refine⟨a,?_⟩;cases p:m d with
 |none=>rfl
 |some f=>
  have b:d∈wL c m:=j8.mpr ⟨fI.mpr<|cu a,by simp[p]⟩;have g:(mJ c m).get? d=Y:=PySem.W.hideAll_none (wL c m) b;rw[g]at e;cases e
def Pt(L c:a_)(Wj:aj):List (aj×bk):=((range c.objs.size).filterMap λg=>if g=Wj\/(L.get? g).isSome=aa then Y else (c.get? g).map λo=>(g,o))
def dx(L c:a_)(Wj s:aj):List (aj×bk):=((Pt L c Wj).filter λq=>decide (q.1≠s))
structure Mod(V8:Φ)(aE:aI->Option ag)(Wi:a_):Prop where
 vs:V8.In Wi
 glob:Wi.Ns d_ aE
 blt:∃EF,Wi.Ns yk EF/\∀f:aI,f ≠ "__name__" -> EF f=fy f
 nolimit:Wi.NoLimit
structure aR where
 prog:bS
 w:bA
 K:Φ
 aE:aI->Option ag
 base:a_
 A:bH
 N:List aI
 fS:au
 pG:aG
 env:fE
 outer:List fE
 stack:List fE
 ex:List aj
 fn:aI->Bool
 calm:Bool
 l6:List (aj×bk)
 dc:ag->au->Prop
variable{b:aR}
def jj(t:List fE):List aj:=(t.filterMap (·.frame))
abbrev aR.V(b:aR):List aj:=jj b.outer
def vM(B:hQ)(f:aI):Prop:=(B.names.lookup f=Z .local\/B.names.lookup f=Z .cell\/B.names.lookup f=Z .free)
def kT(B:hQ)(f:aI):Prop:=(B.names.lookup f=Z .local\/B.names.lookup f=Z .cell)
def NF(Wc:fE)(c:a_)(k:aI->Option ag)(f:aI)(J:ag):Prop:=(
 (Wc.kindOf f=Z .local/\k f=Z J)\/((Wc.kindOf f=Z .cell\/Wc.kindOf f=Z .free)/\∃h,Wc.cells.lookup f=Z h/\c.IsCell h (Z J)))
structure aR.Ok(b:aR):Prop where
 mod:Mod b.K b.aE b.base
 kind:b.env.scope.kind=.function
 glob:b.env.globals=d_
 blt:b.env.builtins=yk
 above:b.fS.heap.objs.size<=b.env.locals
 inj:∀f C h,b.env.cells.lookup f=Z h->b.env.cells.lookup C=Z h->f=C
 has:∀f,(b.env.kindOf f=Z .cell\/b.env.kindOf f=Z .free)->∃h,b.env.cells.lookup f=Z h
 qA:∀f h,b.fn f=aa->b.env.cells.lookup f=Z h->b.fS.heap.objs.size<=h
 hd:b.calm=aa->b.A.handled=Y
 frames:b.A.frames=Z b.stack
 tK:b.stack=b.outer\/(b.stack=b.env::b.outer/\b.env.frame=Z b.env.locals)
 y2:∀d∈b.ex,d≠b.env.locals/\∀f h,b.env.cells.lookup f=Z h->h≠d
 bs:∀d o,b.base.get? d=Z o->b.fS.heap.get? d=Z o/\b.pG d=Y
 mq:b.base.objs.size<=b.fS.heap.objs.size
 pK:∀d o,b.base.get? d=Z o->d∉b.ex
 pz:∀d∈b.ex,d∉b.V
 j2:b.fS.heap.FunFrames b.base b.outer
 o4:∀d∈b.V,b.pG d=Y
structure aK(b:aR)(R:List (aj×bk))(D:List (Option ar))(m:aG)(j:au):Prop where
 ok:b.Ok
 os:j.os=b.fS.os
 bare:me j.gens
 base:fY b.V b.ex b.pG m b.fS.heap j.heap
 loc:∃k,j.heap.Ns b.env.locals k/\∀(a:Nat) (f:aI) (v:ar),b.N[a]?=Z f->D[a]?=Z (Z v)->vM b.env.scope f->∃J,cG v J/\NF b.env j.heap k f J
 cell:∀f h,b.env.cells.lookup f=Z h->∃v,j.heap.IsCell h v
 free:m b.env.locals=Y
 kv:∀f h,b.env.cells.lookup f=Z h->m h=Y
 pin:∀q∈b.l6++R,j.heap.get? q.1=Z q.2/\m q.1=Y/\q.1≠b.env.locals/\q.1∉b.V/\∀v,q.2.data≠.cell v
 bg:eE b.prog b.w m j.heap
 len:D.length=b.N.length
section
variable{b:aR}{R:List (aj×bk)}{D:List (Option ar)}{m V6:aG}{j:au}{U:a_}
def aR.Ok.Rm(ok:b.Ok){d:aj}{o:bk}(e:b.base.get? d=Z o):d∉b.V:=λa=>by
 have:=(ok.j2.mem a).1;rw[e]at this;cases this
def aK.bs(H:aK b R D m j):∀d o,b.base.get? d=Z o->j.heap.get? d=Z o/\m d=Y:=λd o e=>
 ⟨H.base.keep d o (H.ok.bs d o e).1 (H.ok.bs d o e).2 (H.ok.Rm e) (H.ok.pK d o e),H.base.free d o (H.ok.bs d o e).1 (H.ok.bs d o e).2 (H.ok.pK d o e)⟩
def aK.fM(H:aK b R D m j):∀d o,b.base.get? d=Z o->j.heap.get? d=Z o:=λd o e=>(H.bs d o e).1
def aK.mod(H:aK b R D m j):Mod b.K b.aE b.base:=H.ok.mod
def aK.oK(H:aK b R D m j):b.K.In j.heap:=H.ok.mod.vs.keeps H.fM
def aK.lt(H:aK b R D m j):b.env.locals<j.heap.objs.size:=let ⟨_,a,_⟩:=H.loc;a.lt
def aK.iA(H:aK b R D m j):b.fS.heap.objs.size<=j.heap.objs.size:=fu H.ok.above (oJ H.lt)
def aK.Vy(H:aK b R D m j){g:aj}(c:j.heap.objs.size<=g):g∉b.V:=λa=>by
 let@⟨_,⟨@o,d,_⟩⟩:=H.ok.j2.mem a;exact absurd (gm (cu d)<|fu H.iA c) (lN _)
def aK.lu(H:aK b R D m j):∀f h,b.env.cells.lookup f=Z h->h≠b.env.locals:=λf h e c=>by
 let⟨v,@o,a,hd⟩:=H.cell f h e;let⟨@k,⟨M,V_,@W2,d,g,W⟩,W⟩:=H.loc;rw[c,d]at a;cases a;rw[g]at hd;cases hd
def aK.j2(H:aK b R D m j):j.heap.FunFrames b.base b.outer:=by
 have all:∀(t:List fE),(∀d∈jj t,d∈b.V)->b.fS.heap.FunFrames b.base t->j.heap.FunFrames b.base t:=by
  intro t;induction t with
  |nil=>intro W W;trivial
  |cons Wc u g=>
   intro Wd h;let@⟨i,⟨Wj,@o,a,k,l,hd⟩,n⟩:=h;have c:Wj∈b.V:=Wd Wj (by unfold jj;rw[pf,a];exact m_);let⟨@aO,e⟩:=H.base.slot Wj o l (H.ok.o4 Wj c) c λp=>H.ok.pz Wj p c;exact⟨i,⟨Wj,_,a,k,e,hd⟩,g (λd f=>Wd d (by unfold jj;rw[pf,a];exact l8 _ f)) n⟩
 exact all b.outer (λ_ f=>f) H.ok.j2
def aK.stack(H:aK b R D m j):j.heap.FunFrames b.base b.stack:=by
 rcases H.ok.tK with e|⟨e,a⟩
 ·rw[e];exact H.j2
 ·rw[e];let⟨@k,c,W⟩:=H.loc;refine .cons (by rw[H.ok.kind];decide) a c ?_ H.j2;exact As (fu H.ok.mq H.ok.above)
def aK.x5(H:aK b R D m j):∀d∈jj b.stack,d∈b.env.locals::b.V:=λd a=>by
 rcases H.ok.tK with e|⟨e,c⟩
 ·rw[e]at a;exact l8 _ a
 ·rw[e]at a;unfold jj at a;rw[pf,c]at a;exact a
def aK.JA(H:aK b R D m j):∀d∈jj b.stack,m d=Y:=λd a=>by
 rcases cg.mp (H.x5 d a) with e|a
 ·rw[e];exact H.free
 ·let@⟨_,⟨@o,c,_⟩⟩:=H.ok.j2.mem a;exact H.base.free d o c (H.ok.o4 d a) λf=>H.ok.pz d f a
def aK.step{F:Array p6}{WJ:Nat}{S:Drawn}{Xh:List aj}(H:aK b R D m j)(y:∀d∈Xh,(d∈b.ex\/b.fS.heap.objs.size<=d)/\d≠b.env.locals/\(∀f h,b.env.cells.lookup f=Z h->h≠d)/\∀q∈b.l6++R,q.1≠d)(keep:∀d o,d≠b.env.locals->d∉b.V->d∉Xh->j.heap.get? d=Z o->m d=Y->U.get? d=Z o)(G:∀d o,d≠b.env.locals->d∈b.V->d∉Xh->j.heap.get? d=Z o->m d=Y->∃aO,U.get? d=Z {o with slots:=aO})(C:∀d o,d∉Xh->j.heap.get? d=Z o->m d=Y->V6 d=Y)(T:∀d o,d∉Xh->j.heap.get? d=Z o->∃M,U.get? d=Z M)(l7:∀d w,m d=Z (.tup w)->V6 d=Z (.tup w))(la:∀d o J,m d=Z (.eF o J)->V6 d=Z (.eF o J))(mr:∀d Wk,m d=Z (.oB Wk)->∃al,V6 d=Z (.oB<|Wk++al))(Wu:∀k,j.heap.Ns b.env.locals k->U.Ns b.env.locals k)(bg:eE b.prog b.w V6 U)(am:me F):
  aK b R D V6 {j with heap:=U,gens:=F,drawn:=S,toks:=WJ}:=by
 have I:∀d o,b.fS.heap.get? d=Z o->d≠b.env.locals:=λd o e=>dP (gm (cu e) H.ok.above);have E:∀d o,b.fS.heap.get? d=Z o->d∉b.ex->d∉Xh:=λd o e c i=>by
  rcases (y d i).1 with z|z
  ·exact c z
  ·exact absurd (gm (cu e) z) (lN _)
 have L:∀f h,b.env.cells.lookup f=Z h->∀v,j.heap.IsCell h v->U.IsCell h v:=λf h e v ⟨o,x,hd⟩=>by
  have A:h∉Xh:=λz=>(y h z).2.2.1 f h e rfl;by_cases N:h∈b.V
  ·let⟨@aO,p⟩:=G h o (H.lu f h e) N A x (H.kv f h e);exact⟨_,p,hd⟩
  ·exact⟨o,keep h o (H.lu f h e) N A x<|H.kv f h e,hd⟩
 refine⟨H.ok,H.os,am,⟨λd o e r i c=>?_,λd o e r i c=>?_,λd o e r c=>?_,λd o e c=>?_,λd w e=>l7 d w<|H.base.l7 d w e,λd o w e=>la d o w<|H.base.la d o w e,λd Wk e=>?_⟩,?_,λf h e=>?_,?_,λf h e=>?_,λq O=>?_,bg,H.len⟩
 ·exact keep d o (I d o e) i (E d o e c) (H.base.keep d o e r i c) (H.base.free d o e r c)
 ·let⟨@aO,g⟩:=H.base.slot d o e r i c;let⟨@an,B⟩:=G d _ (I d o e) i (E d o e c) g (H.base.free d o e r c);exact⟨an,B⟩
 ·let⟨@M,g⟩:=H.base.there d o e c;exact C d M (E d o e c) g (H.base.free d o e r c)
 ·let⟨@M,g⟩:=H.base.there d o e c;exact T d M (E d o e c) g
 ·let⟨@ap,g⟩:=H.base.mr d Wk e;let⟨@as,B⟩:=mr d _ g;exact⟨ap++as,by rw[B,Array.append_assoc]⟩
 ·let⟨@k,a1,a2⟩:=H.loc;refine⟨k,Wu k a1,λa f v g B bd=>?_⟩;let⟨@J,u,t⟩:=a2 a f v g B bd;refine⟨J,u,?_⟩;rcases t with t|⟨n,h,e,z⟩
  ·exact .inl t
  ·exact .inr ⟨n,h,e,L f h e _ z⟩
 ·let⟨@v,z⟩:=H.cell f h e;exact⟨v,L f h e v z⟩
 ·let⟨@k,⟨o,W,@W,x,W⟩,W⟩:=H.loc;exact C _ o (λz=>(y _ z).2.1 rfl) x H.free
 ·let⟨v,@o,x,hd⟩:=H.cell f h e;exact C h o (λz=>(y h z).2.2.1 f h e rfl) x (H.kv f h e)
 ·let@⟨e,r,ne,P,s⟩:=H.pin q O;have A:q.1∉Xh:=λz=>(y q.1 z).2.2.2 q O rfl;exact⟨keep q.1 q.2 ne P A e r,C q.1 q.2 A e r,ne,P,s⟩
def aK.un(H:aK b R D m j)(J:fY b.V [] m V6 j.heap U)(bg:eE b.prog b.w V6 U):aK b R D V6 {j with heap:=U,toks:=WJ}:=by
 let⟨@k,⟨o,V_,@W2,c,u⟩,W⟩:=id H.loc;let⟨@aO,g⟩:=J.any c H.free ↥0;exact H.step (F:=j.gens) (S:=j.drawn) (Xh:=[]) (λ_ h=>nomatch h) (λd o W a W e r=>J.keep d o e r a ↥0) (λd o W a W e r=>J.slot d o e r a ↥0) (λd o W e r=>J.free d o e r ↥0) (λd o W e=>J.there d o e ↥0) J.l7 J.la J.mr (λt i=>by
  let⟨M,n,@p,f,W3⟩:=i;rw[c]at f;cases f;exact⟨_,n,p,g,W3⟩) bg H.bare
def aK.call{i:Array p6}{t:Drawn}(H:aK b R D m j)(J:fY (jj b.stack) Xh m V6 j.heap U)(bg:eE b.prog b.w V6 U)(v:me i)(n:∀d∈Xh,(d∈b.ex\/b.fS.heap.objs.size<=d)/\d≠b.env.locals/\(∀f h,b.env.cells.lookup f=Z h->h≠d)/\∀q∈b.l6++R,q.1≠d):
  aK b R D V6 {j with heap:=U,gens:=i,drawn:=t,toks:=WJ}:=by
 let⟨@k,⟨o,V_,@W2,p,u⟩,W⟩:=id H.loc;let⟨@aO,c⟩:=J.any p H.free λg=>(n _ g).2.1 rfl;exact H.step (Xh:=Xh) n (λd o c x a e r=>J.keep d o e r (λg=>(cg.mp<|H.x5 d g).elim c x) a) (λd o W W a e r=>J.any e r a) (λd o a e r=>J.free d o e r a) (λd o a e=>J.there d o e a) J.l7 J.la J.mr (λB y=>by
  let⟨M,z,@A,s,W3⟩:=y;rw[p]at s;cases s;exact⟨_,z,A,c,W3⟩) bg v
def aK.turned{it:aj}(H:aK b R D m j)(n:∀d o,d≠it->j.heap.get? d=Z o->U.get? d=Z o)(i:m it=Y)(c:it≠b.env.locals)(A:it∈b.ex\/b.fS.heap.objs.size<=it)(E:∀f h,b.env.cells.lookup f=Z h->h≠it)(l:∀q∈b.l6++R,q.1≠it):aK b R D m {j with heap:=U,toks:=WJ}:=by
 have g:∀d J,m d=Z J->d≠it:=λd J e z=>by rw[z,i]at e;cases e
 refine H.step (F:=j.gens) (S:=j.drawn) (Xh:=[it]) (λd s=>?_) (λd o W W a e W=>n d o (λz=>a (by simp[z])) e) (λd o W W a e W=>⟨o.slots,n d o (λz=>a (by simp[z])) e⟩) (λ_ W W W r=>r)
  (λd o a e=>⟨o,n d o (λz=>a (by simp[z])) e⟩) (λ_ W e=>e) (λ_ W W e=>e) (λd Wk e=>⟨#[],by rw[e];simp⟩) (λk t=>?_) (λd J e=>?_) H.bare
 ·have e:d=it:=by simpa using s
  subst e;exact⟨A,c,E,l⟩
 ·let⟨o,V_,@W2,w,u⟩:=t;exact⟨o,V_,W2,n _ o (g6 c) w,u⟩
 ·refine (H.bg d J e).kB (λh v a p=>n h v ?_ p) (λ_ p=>p) λ_ W p=>p;rcases a with z|z
  ·rw[z];exact g d J e
  ·exact g h _ z
def aK.tok(H:aK b R D m j)(B:Nat):aK b R D m {j with toks:=B}:=H.un (U:=j.heap) (WJ:=B) fY.refl H.bg
def aK.kept(H:aK b R D m j)(n:∀d J,j.heap.get? d=Z J->U.get? d=Z J):aK b R D m {j with heap:=U,toks:=WJ}:=H.un (fY.kept n) (H.bg.kept n)
def aK.laid(H:aK b R D m j)(n:∀d J,j.heap.get? d=Z J->U.get? d=Z J)(a:j.heap.objs.size<=g)(new:fN b.prog b.w (upd m g o) U g o):
  aK b R D (upd m g o) {j with heap:=U,toks:=WJ}:=H.un (fY.laid n a<|H.bg.fresh a) (H.bg.laid n a new)
def aK.write{f e:aj}(H:aK b R D m j)(a:tW (m f))(c:e=f\/m e=Z (.own f))(n:∀d J,d≠e->j.heap.get? d=Z J->U.get? d=Z J)(g:∃J,U.get? e=Z J)(new:fN b.prog b.w (upd m f o) U f o):aK b R D (upd m f o) {j with heap:=U,toks:=WJ}:=H.un (fY.write a c n g) (H.bg.write a c n g new)
def aK.weak{c:List (Option ar)}(H:aK b R D m j)(d:c.length=D.length)(l:∀(a:Nat) v,c[a]?=Z (Z v)->D[a]?=Z (Z v)):aK b R c m j:=
 ⟨H.ok,H.os,H.bare,H.base,let ⟨k,e,g⟩:=H.loc;⟨k,e,λa f v h i n=>g a f v h (l a v i) n⟩,H.cell,H.free,H.kv,H.pin,H.bg,d.trans H.len⟩
def aK.qW{a:List (aj×bk)}(H:aK b R D m j)(c:∀q∈a,j.heap.get? q.1=Z q.2/\m q.1=Y/\q.1≠b.env.locals/\q.1∉b.V/\∀v,q.2.data≠.cell v):aK b a D m j:=
 ⟨H.ok,H.os,H.bare,H.base,H.loc,H.cell,H.free,H.kv,λq d=>(dw.mp d).elim (λe=>H.pin q<|ed _ e)<|c q,H.bg,H.len⟩
def IG(b:WM.Nodup){a i:Nat}{f:aI}(g:WM[a]?=Z f)(d:WM[i]?=Z f):a=i:=by
 let⟨@A,c⟩:=gk.mp g;let⟨@E,e⟩:=gk.mp d;exact (HB b).mp (c.trans e.symm)
variable{G:Unit->au->Prop}
def Dg{aF:ig}(H:aK b R D m j)(a2:b.N.Nodup)(S:b.N[a]?=Z f)(y:kT b.env.scope f)(u:cG v J)(c:∀V9,aK b R (D.set a<|Z v) m V9->(∃g,a_.SameBut g j.heap V9.heap/\(g=b.env.locals\/b.env.cells.lookup f=Z g))->G () V9)(ca:b.fn f=aa\/b.env.scope.names.lookup f=Z .local:=by first|exact .inl rfl|exact .inr rfl|assumption):wpAny aF P (storeName b.env f J) G Wa j:=by
 let⟨@k,T,bd⟩:=id H.loc;have cd:(b.env.scope.kind==.class || (b.env.scope.kind==.module&&b.env.locals != b.env.globals))=aw:=by rw[H.ok.kind];rfl
 have be:a<D.length:=by rw[H.len];exact (gk.mp S).1
 have lu:=H.lu;have bi:∀{g:aj}{U:a_},(∃o,j.heap.get? g=Z o/\m g=Y)->a_.SameBut g j.heap U->eE b.prog b.w m U:=λ{g U} ce Wd d ch e=>by
  let⟨@W,W,bm⟩:=ce;refine (H.bg d ch e).kB (λh L x p=>(Wd.2 h ?_).trans p) (λ_ p=>p) λ_ W p=>p;rintro rfl;rcases x with rfl|x
  ·rw[bm]at e;cases e
  ·rw[bm]at x;cases x
 rcases y with B|B
 ·refine wpAny_storeName_local B T (λU ci Wd=>?_) cd;let⟨cl,W,@W,co,W⟩:=id T;refine c _ ⟨H.ok,H.os,H.bare,⟨λd o e r F y=>?_,λd o e r F y=>?_,H.base.free,λd o e y=>?_,H.base.l7,H.base.la,H.base.mr⟩,⟨_,ci,λi C al t A am=>?_⟩,λC h e=>?_,H.free,H.kv,λq an=>?_,bi ⟨cl,co,H.free⟩ Wd,by simpa using H.len⟩ ⟨_,Wd,.inl rfl⟩
  ·exact (Wd.2 d<|dP<|gm (cu e) H.ok.above).trans (H.base.keep d o e r F y)
  ·let⟨@aO,t⟩:=H.base.slot d o e r F y;exact⟨aO,(Wd.2 d<|dP<|gm (cu e) H.ok.above).trans t⟩
  ·let⟨@M,t⟩:=H.base.there d o e y;exact⟨M,(Wd.2 d<|dP<|gm (cu e) H.ok.above).trans t⟩
  ·by_cases I:i=a
   ·subst I;rw[S]at t;cases t;rw[xb be]at A;cases A;exact⟨J,u,.inl ⟨B,by simp⟩⟩
   ·rw[oA (g6 I)]at A;let⟨@ap,W3,p⟩:=bd i C al t A am;refine⟨ap,W3,?_⟩;rcases p with ⟨n,e⟩|⟨n,h,e,z⟩
    ·refine .inl ⟨n,?_⟩;have:C≠f:=λe=>I (IG a2 t<|e ▸ S);simp[this,e]
    ·exact .inr ⟨n,h,e,z.sameBut Wd<|lu C h e⟩
  ·let⟨@L,z⟩:=H.cell C h e;exact⟨L,z.sameBut Wd<|lu C h e⟩
  ·let@⟨e,r,ne,as,s⟩:=H.pin q an;exact⟨(Wd.2 q.1 ne).trans e,r,ne,as,s⟩
 ·have a1:b.fn f=aa:=by
   rcases ca with z|z
   ·exact z
   ·rw[z]at B;cases B
  let⟨@h,x⟩:=H.ok.has f (.inl B);let⟨@L,z⟩:=H.cell f h x;refine wpAny_storeName_cell H.ok.kind B x z (λU bn Wd=>?_);let⟨@E,bs,cr⟩:=id z;refine c {j with heap:=U} ⟨H.ok,H.os,H.bare,⟨λd o e r F y=>?_,λd o e r F y=>?_,H.base.free,λd o e y=>?_,H.base.l7,H.base.la,H.base.mr⟩,⟨k,T.sameBut Wd<|g6<|lu f h x,λi C al t A am=>?_⟩,λC O e=>?_,H.free,H.kv,λq an=>?_,bi ⟨E,bs,H.kv f h x⟩ Wd,by simpa using H.len⟩ ⟨h,Wd,.inr x⟩
  ·exact (Wd.2 d<|dP<|gm (cu e)<|H.ok.qA f h a1 x).trans (H.base.keep d o e r F y)
  ·let⟨@aO,t⟩:=H.base.slot d o e r F y;exact⟨aO,(Wd.2 d<|dP<|gm (cu e)<|H.ok.qA f h a1 x).trans t⟩
  ·let⟨@M,t⟩:=H.base.there d o e y;exact⟨M,(Wd.2 d<|dP<|gm (cu e)<|H.ok.qA f h a1 x).trans t⟩
  ·by_cases I:i=a
   ·subst I;rw[S]at t;cases t;rw[xb be]at A;cases A;exact⟨J,u,.inr ⟨.inl B,h,x,bn⟩⟩
   ·rw[oA (g6 I)]at A;let⟨@ap,W3,p⟩:=bd i C al t A am;refine⟨ap,W3,?_⟩;rcases p with p|⟨n,O,e,cs⟩
    ·exact .inl p
    ·refine .inr ⟨n,O,e,cs.sameBut Wd ?_⟩;rintro rfl;exact I (IG a2 t<|H.ok.inj _ _ _ e x ▸ S)
  ·by_cases bv:O=h
   ·subst bv;exact⟨_,bn⟩
   ·let⟨@db,ds⟩:=H.cell C O e;exact⟨db,ds.sameBut Wd bv⟩
  ·let@⟨e,r,ne,as,s⟩:=H.pin q an;refine⟨(Wd.2 q.1 ?_).trans e,r,ne,as,s⟩;intro p;rw[p,bs]at e;have dL:E=q.2:=Option.some.inj e;exact s L (by rw[<-dL];exact cr)
def F1{aF:ig}(H:aK b R D m j)(d:b.N.Nodup)(S:b.N[a]?=Z f)(e:kT b.env.scope f)(u:cG v J)(c:∀V9,aK b R (D.set a<|Z v) m V9->G () V9)(g:b.fn f=aa\/b.env.scope.names.lookup f=Z .local:=by first|exact .inl rfl|exact .inr rfl|assumption):wpAny aF P (storeName b.env f J) G Wa j:=
 Dg H d S e u (λV9 h W=>c V9 h) g
def aK.Qy(H:aK b R D m j)(g:V9.os=j.os)(J:fY (jj b.stack) Xh m V6 j.heap V9.heap)(bg:eE b.prog b.w V6 V9.heap)(i:me V9.gens)(k:∀d∈Xh,(d∈b.ex\/b.fS.heap.objs.size<=d)/\d≠b.env.locals/\(∀f h,b.env.cells.lookup f=Z h->h≠d)/\∀q∈b.l6++R,q.1≠d):aK b R D V6 V9:=by
 let⟨U,a,c,WJ,M⟩:=V9;have e:M=j.os:=g;subst e;exact H.call (i:=a) (WJ:=WJ) (t:=c) J bg i k
end
abbrev ho:=ag->Option aj->aG->Prop
abbrev a9:=List (Option ar)
variable{D:a9}
abbrev c5:=ar->aG->Prop
abbrev cj:=a9->aG->c5->Prop
variable{Xd:cj}
abbrev e1:=a9->aG->(Bool->aG->Prop)->Prop
variable{z:e1}
abbrev fQ:=a9->aG->(List ar->aG->Prop)->Prop
structure oV where
 bf:a9->aG->Prop
 eI:c5
 fM:a9->aG->Prop:=λ_ _=>False
 ck:a9->aG->Prop:=λ_ _=>False
abbrev fW:=oV->a9->aG->Prop
variable{Xf:fW}
def e4(b:aR)(R:List (aj×bk))(D:a9)(G:c5)(J:ag)(V9:au):Prop:=(∃v V6,aK b R D V6 V9/\cG v J/\G v V6)
def t8(b:aR)(R:List (aj×bk))(D:a9)(G:Bool->aG->Prop)(d:Bool)(V9:au):Prop:=(∃V6,aK b R D V6 V9/\G d V6)
def Qo(b:aR)(R:List (aj×bk))(D:a9)(G:List ar->aG->Prop)(Wy:List ag)(V9:au):Prop:=(∃V7 V6,aK b R D V6 V9/\b1 V7 Wy/\G V7 V6)
def pZ(b:aR)(R:List (aj×bk))(y:oV)(x:Flow)(V9:au):Prop:=(
 match x with
 |.next=>∃a V6,aK b R a V6 V9/\y.bf a V6
 |.brk=>∃a V6,aK b R a V6 V9/\y.fM a V6
 |.cont=>∃a V6,aK b R a V6 V9/\y.ck a V6
 |.ret J=>∃v a V6,aK b R a V6 V9/\cG v J/\y.eI v V6)
def yB(b:aR)(e:bF)(B:cj)(R:List (aj×bk)):Prop:=(
 ∀(j:au) (D:a9) (m:aG) (G:c5),aK b R D m j->B D m G->wpAny (aV b.prog b.w) b.A (cE e b.env) (e4 b R D G) b.dc j)
def bU(b:aR)(e:bF)(B:cj):Prop:=(∀R,yB b e B R)
def DQ(b:aR)(e:bF)(B:e1)(R:List (aj×bk)):Prop:=(
 ∀(j:au) (D:a9) (m:aG) (G:Bool->aG->Prop),aK b R D m j->B D m G->wpAny (aV b.prog b.w) b.A (rm e b.env<|cE e b.env) (t8 b R D G) b.dc j)
def iC(b:aR)(e:bF)(B:e1):Prop:=(∀R,DQ b e B R)
def FU(b:aR)(e:bF)(B:e1)(a:er ag):Prop:=(
 ∀(R:List (aj×bk)) (j:au) (D:a9) (m:aG) (G:Bool->aG->Prop),aK b R D m j->B D m G->wpAny (aV b.prog b.w) b.A (rm e b.env a) (t8 b R D G) b.dc j)
def lb(b:aR)(e:bF)(B:e1):Prop:=(∀a,FU b e B a)
def lb.pt{b:aR}{e:bF}{B:e1}(c:lb b e B):iC b e B:=c _
def Fx(b:aR)(V_:List bF)(B:fQ)(Wq:Pos):Prop:=(
 ∀(R:List (aj×bk)) (j:au) (D:a9) (m:aG) (G:List ar->aG->Prop),aK b R D m j->B D m G->wpAny (aV b.prog b.w) b.A (spliced<|hj Wq<|b5 V_ b.env) (Qo b R D G) b.dc j)
def iy(b:aR)(V_:List bF)(B:fQ):Prop:=(∀Wq,Fx b V_ B Wq)
def CP(b:aR)(O:cp)(B:fW)(R:List (aj×bk)):Prop:=(
 ∀(j:au) (D:a9) (m:aG) (y:oV),aK b R D m j->B y D m->wpAny (aV b.prog b.w) b.A (exec O b.env) (pZ b R y) b.dc j)
def jq(b:aR)(O:cp)(B:fW):Prop:=(∀R,CP b O B R)
def C_(b:aR)(O:List cp)(B:fW)(R:List (aj×bk)):Prop:=(
 ∀(j:au) (D:a9) (m:aG) (y:oV),aK b R D m j->B y D m->wpAny (aV b.prog b.w) b.A (execs O b.env) (pZ b R y) b.dc j)
def i4(b:aR)(O:List cp)(B:fW):Prop:=(∀R,C_ b O B R)
def b6{Ww:Type}{B:er Ww}{G a:Ww->au->Prop}{aF:ig}(c:wpAny aF P B G Wa j)(b:∀g j,G g j->a g j):wpAny aF P B a Wa j:=iz c b λ_ W f=>f
section
variable{b:aR}
def ml(a:Nat):cj:=(λD m G=>∃v,D[a]?=Z (Z v)/\G v m)
def pv(v:ar):cj:=(λ_ m G=>G v m)
def DP(l:b.N[a]?=Z f)(n:vM b.env.scope f)(hd:(f==("__debug__" : aI))=aw:=by decide)(o:(f==("__classdict__" : aI))=aw:=by decide):bU b (.Name f Wq) (ml a):=by
 intro R j D m G H c;let⟨@v,e,c⟩:=c;let⟨@k,p,q⟩:=H.loc;let⟨@J,u,t⟩:=q a f v l e n;have fin:e4 b R D G J j:=⟨v,m,H,u,c⟩;rcases t with ⟨d,r⟩|⟨d,h,g,i⟩
 ·exact z2 (wpAny_loadName_local H.ok.kind d p r fin) hd
 ·rcases d with d|d
  ·exact z2 (wpAny_loadName_cell H.ok.kind d g i fin) hd
  ·exact z2 (wpAny_loadName_free H.ok.kind d g i fin o) hd
def PY{a i Wq}:bU b (.Constant (.int a) i Wq) (pv<|.int a):=λ_ W W m W H c=>wpAny_Constant_int ⟨.int a,m,H.tok _,⟨_,rfl⟩,c⟩
def Pk{d i Wq}:bU b (.Constant (.bool d) i Wq) (pv<|.ay d):=λ_ W W m W H c=>Constant_bool ⟨.ay d,m,H,rfl,c⟩
def MK{i Wq}:bU b (.Constant .none i Wq) (pv .a6):=λ_ W W m W H c=>Constant_none ⟨.a6,m,H,rfl,c⟩
def e6(b:aR)(f:aI):Prop:=(b.env.kindOf f=Z .globalImplicit)
def Jv(H:aK b R D m j)(a:e6 b f)(d:b.aE f=Z J)(c:G J j)(hd:(f==("__debug__" : aI))=aw:=by decide):wpAny (aV b.prog b.w) b.A (cE (.Name f Wq) b.env) G Wa j:=
 EM H.ok.kind a (Calls.loadGlobal_global (by rw[H.ok.glob];exact H.mod.glob.keeps H.fM) d c) hd
def mx(H:aK b R D m j)(a:e6 b f)(d:b.aE f=Y)(e:fy f=Z J)(c:G J j)(g:f ≠ "__name__" := by decide)(hd:(f==("__debug__" : aI))=aw:=by decide):wpAny (aV b.prog b.w) b.A (cE (.Name f Wq) b.env) G Wa j:=by
 let⟨@h,A,E⟩:=H.mod.blt;exact EM H.ok.kind a (Calls.loadGlobal_builtin (by rw[H.ok.glob];exact H.mod.glob.keeps H.fM) d (by rw[H.ok.blt];exact A.keeps H.fM) ((E f g).trans e) c) hd
def Bw(a:e6 b f)(d:b.aE f=Z J)(u:cG v J)(hd:(f==("__debug__" : aI))=aw:=by decide):bU b (.Name f Wq) (pv v):=
 λ_ W W m W H c=>Jv H a d ⟨v,m,H,u,c⟩ hd
def PQ(a:e6 b f)(d:b.aE f=Y)(e:fy f=Z J)(u:cG v J)(g:f ≠ "__name__" := by decide)(hd:(f==("__debug__" : aI))=aw:=by decide):bU b (.Name f Wq) (pv v):=
 λ_ W W m W H c=>mx H a d e ⟨v,m,H,u,c⟩ g hd
variable{g d:bF}{W0 Xf:cj}{Wq:Pos}
variable{h_ i:e1}{dx:List bF}
def Cd(B J:e1):e1:=(λD m G=>B D m λh Wh=>if h=aa then J D Wh G else G aw Wh)
def Cp(B J:e1):e1:=(λD m G=>B D m λh Wh=>if h=aa then G aa Wh else J D Wh G)
def N8(B:e1):e1:=(λD m G=>B D m λh Wh=>G (!h) Wh)
def Sj(a:iC b g h_):lb b (.BoolOp .And [g] Wq) h_:=by
 intro d R j D m G H c;refine isTrue_and (b6 (a R j D m G H c) λh f e=>?_);cases h with
 |true=>exact isTrue_and_nil e
 |false=>exact e
def Vd(a:iC b g h_):lb b (.BoolOp .Or [g] Wq) h_:=by
 intro d R j D m G H c;refine isTrue_or (b6 (a R j D m G H c) λh f e=>?_);cases h with
 |false=>exact isTrue_or_nil e
 |true=>exact e
def VE(f:iC b g h_)(k:lb b (.BoolOp .And (d::dx) Wq) i):lb b (.BoolOp .And (g::d::dx) Wq) (Cd h_ i):=by
 intro l R j D m G H c;refine isTrue_and (b6 (f R j D m _ H c) λh n o=>?_);let⟨@Wh,a,e⟩:=o;cases h with
 |true=>exact k l R n D Wh G a e
 |false=>exact⟨Wh,a,e⟩
def K4(f:iC b g h_)(k:lb b (.BoolOp .Or (d::dx) Wq) i):lb b (.BoolOp .Or (g::d::dx) Wq) (Cp h_ i):=by
 intro l R j D m G H c;refine isTrue_or (b6 (f R j D m _ H c) λh n o=>?_);let⟨@Wh,a,e⟩:=o;cases h with
 |true=>exact⟨Wh,a,e⟩
 |false=>exact k l R n D Wh G a e
def Mq(a:iC b g h_):iC b (.UnaryOp .Not g Wq) (N8 h_):=by
 intro R j D m G H c;exact isTrue_not (a R j D m (λh Wh=>G (!h) Wh) H c)
def Uo(W0 Xf:cj):cj:=(λD m G=>W0 D m λf Wh=>∃h,f=.ay h/\if h=aa then Xf D Wh G else G (.ay aw) Wh)
def SK(W0:cj):cj:=(λD m G=>W0 D m λf Wh=>∃h,f=.ay h/\G (.ay<|!h) Wh)
def Oq{WV}{B:cj}(c:bU b g B):bU b (.BoolOp WV [g] Wq) B:=λR j D m G H a=>BoolOp_one (c R j D m G H a)
def TH(i:bU b g W0)(k:bU b (.BoolOp .And (d::dx) Wq) Xf):bU b (.BoolOp .And (g::d::dx) Wq) (Uo W0 Xf):=by
 intro R j D m G H c;refine BoolOp_and (b6 (i R j D m _ H c) λv l n=>?_);let⟨f,@Wh,e,o,a⟩:=n;let⟨@h,rfl,a⟩:=a;cases o;refine m6 ?_;cases h with
 |true=>exact k R l D Wh G e a
 |false=>exact⟨.ay aw,Wh,e,rfl,a⟩
def QR(d:bU b g W0):bU b (.UnaryOp .Not g Wq) (SK W0):=by
 intro R j D m G H c;refine UnaryOp_ (b6 (d R j D m _ H c) λv l e=>?_);let⟨f,@Wh,i,k,a⟩:=e;let⟨@h,rfl,a⟩:=a;cases k;exact not_of (m6 ⟨.ay<|!h,Wh,i,rfl,a⟩)
def O9(B:e1)(W0 Xf:cj):cj:=(λD m G=>B D m λh Wh=>if h=aa then W0 D Wh G else Xf D Wh G)
def Ro(i:iC b h h_)(k:bU b g W0)(l:bU b d Xf):bU b (.IfExp h g d Wq) (O9 h_ W0 Xf):=by
 intro R j D m G H c;refine wpAny_IfExp (b6 (i R j D m _ H c) λs a n=>?_);let⟨@Wh,e,f⟩:=n;cases s with
 |true=>exact k R a D Wh G e f
 |false=>exact l R a D Wh G e f
end
def dC(V8:Φ)(m:aG)(g:aj)(w:List ar):Prop:=(
 l9 m g (.lst w)\/
  ∃(o:bk) (Wl:Array ag) (r:Nat),V8.lookup g=Z o/\o.cls=.type "list" /\ o.dict=Y/\o.data=.seq Wl r/\Wl.size<=sizeLine/\b1 w Wl.toList)
def cD(V8:Φ)(m:aG)(g:aj)(w:List ar):Prop:=(
 l9 m g (.tup w)\/
  ∃(o:bk) (Wl:Array ag) (r:Nat),V8.lookup g=Z o/\o.cls=.type "tuple" /\ o.data=.seq Wl r/\Wl.size<=sizeLine/\b1 w Wl.toList)
def Vx:ag->Option ar
 |.none=>Z .a6
 |.bool d=>Z (.ay d)
 |.int a _=>Z (.int a)
 |.str f _=>Z (.str f)
 |.bytes d _=>Z (.sg d)
 |.float d _=>Z (.AU d)
 |.ref g=>Z (.ref g)
 |.type r=>Z (.ty r)
 |_=>Y
def cG.abs{f:ar}(u:cG f J):Vx J=Z f:=by
 cases f with
 |a6=>cases u;rfl
 |ay _=>cases u;rfl
 |int _=>let⟨@B,rfl⟩:=u;rfl
 |str _=>let⟨@B,rfl⟩:=u;rfl
 |sg _=>let⟨@B,rfl⟩:=u;rfl
 |AU _=>let⟨@B,rfl⟩:=u;rfl
 |ref _=>cases u;rfl
 |ty _=>cases u;rfl
def cG.inj{f:ar}(u:cG f J)(p:cG C J):f=C:=Option.some.inj (u.abs.symm.trans p.abs)
theorem b1.inj:∀{w Wn:List ar}{Wy:List ag},b1 w Wy->b1 Wn Wy->w=Wn
 |_,_,_,.nil,.nil=>rfl
 |_,_,_,.cons u B,.cons W3 WJ=>by rw[u.inj W3,b1.inj B WJ]
section
variable{b:aR}{R:List (aj×bk)}{D:a9}{m:aG}{j:au}{g:aj}{w Wn:List ar}
def dC.of(c:m g=Z (.lst w)):dC V8 m g w:=.inl (.inl c)
def cD.of(c:m g=Z (.tup w)):cD V8 m g w:=.inl (.inl c)
def aK.list(H:aK b R D m j)(c:dC b.K m g w):∃Wl:List ag,b1 w Wl/\PlainL j.heap g Wl.toArray/\w.length<=sizeLine:=by
 rcases c with c|⟨o,Wl,r,a,d,hd,Wd,f,u⟩
 ·let@⟨z,⟨Wl,@r,u,e⟩⟩:=c.ok H.bg;exact⟨Wl,u,⟨_,r,e,rfl,rfl,rfl⟩,z⟩
 ·refine⟨Wl.toList,u,⟨o,r,H.oK g o a,d,hd,by simpa using Wd⟩,?_⟩;have e:=u.length;simp only[eb]at e;lia
def aK.tuple(H:aK b R D m j)(c:cD b.K m g w):∃Wl:List ag,b1 w Wl/\oI j.heap g Wl.toArray/\w.length<=sizeLine:=by
 rcases c with c|⟨o,Wl,r,a,d,Wd,h,u⟩
 ·let@⟨f,⟨@Wl,u,q⟩⟩:=c.ok H.bg;exact⟨Wl,u,q.tup,f⟩
 ·refine⟨Wl.toList,u,⟨o,H.oK g o a,d,r,by simpa using Wd⟩,?_⟩;have e:=u.length;simp only[eb]at e;lia
def aK.T2(H:aK b R D m j)(c:dC b.K m g w)(U:dC b.K m g Wn):w=Wn:=by
 let⟨@Wl,u,⟨o,@r,e,W,W,s⟩,W⟩:=H.list c;let⟨@y,W3,⟨M,@f,a,W,W,d⟩,W⟩:=H.list U;rw[e]at a;cases a;rw[s]at d;injection d with WY _;have:Wl=y:=by simpa using congrArg Array.toList WY
 subst this;exact u.inj W3
def aK.xQ(H:aK b R D m j)(c:cD b.K m g w)(U:cD b.K m g Wn):w=Wn:=by
 let⟨@Wl,u,⟨@o,e,W,⟨@r,s⟩⟩,W⟩:=H.tuple c;let⟨@y,W3,⟨@M,a,W,⟨@f,d⟩⟩,W⟩:=H.tuple U;rw[e]at a;cases a;rw[s]at d;injection d with WY _;have:Wl=y:=by simpa using congrArg Array.toList WY
 subst this;exact u.inj W3
end
abbrev aR.lW(b:aR)(Wa:ag->au->Prop):aR:={b with dc:=Wa}
abbrev aR.oc(b:aR):aR:=b.lW λ_ _=>False
def aR.Ok.lW(ok:b.Ok)(Wa:ag->au->Prop):(b.lW Wa).Ok:=
 ⟨ok.mod,ok.kind,ok.glob,ok.blt,ok.above,ok.inj,ok.has,ok.qA,ok.hd,ok.frames,ok.tK,ok.y2,ok.bs,ok.mq,ok.pK,ok.pz,ok.j2,ok.o4⟩
def aR.Ok.nN(ok:(b.lW Wa).Ok):b.Ok:=
 ⟨ok.mod,ok.kind,ok.glob,ok.blt,ok.above,ok.inj,ok.has,ok.qA,ok.hd,ok.frames,ok.tK,ok.y2,ok.bs,ok.mq,ok.pK,ok.pz,ok.j2,ok.o4⟩
section
variable{b:aR}{R:List (aj×bk)}{D:a9}{m:aG}{j:au}{Wa:ag->au->Prop}
def aK.lW(H:aK b R D m j)(Wa:ag->au->Prop):aK (b.lW Wa) R D m j:=⟨H.ok.lW Wa,H.os,H.bare,H.base,H.loc,H.cell,H.free,H.kv,H.pin,H.bg,H.len⟩
def aK.nN(H:aK (b.lW Wa) R D m j):aK b R D m j:=⟨H.ok.nN,H.os,H.bare,H.base,H.loc,H.cell,H.free,H.kv,H.pin,H.bg,H.len⟩
def pZ.nN{y:oV}{x:Flow}(c:pZ (b.lW Wa) R y x V9):pZ b R y x V9:=by
 cases x with
 |next=>let⟨a,@V6,H,p⟩:=c;exact⟨a,V6,H.nN,p⟩
 |brk=>let⟨a,@V6,H,p⟩:=c;exact⟨a,V6,H.nN,p⟩
 |cont=>let⟨a,@V6,H,p⟩:=c;exact⟨a,V6,H.nN,p⟩
 |ret J=>let⟨v,a,@V6,H,u,p⟩:=c;exact⟨v,a,V6,H.nN,u,p⟩
def i4.oc{O:List cp}{B:fW}(c:i4 b.oc O B):i4 b O B:=λR j D m y H a=>
 iz (c R j D m y (H.lW _) a) (λ_ W p=>p.nN) λ_ W d=>False.elim d
end
section
variable{b:aR}{O:cp}{dx:List cp}{B J:fW}{e:bF}{Xd:cj}{Wq:Pos}
def LV:fW:=(λy D m=>y.bf D m)
def Fy(B J:fW):fW:=(λy D m=>B {y with bf:=J y} D m)
def Ta:i4 b [] LV:=λ_ W D m W H c=>wG ⟨D,m,H,c⟩
def NN(A:jq b O B)(E:i4 b dx J):i4 b (O::dx) (Fy B J):=by
 intro R j D m y H c;refine HD (b6 (A R j D m {y with bf:=J y} H c) λx a p=>?_);cases x with
 |next=>
  let⟨d,@V6,e,p⟩:=p;exact E R a d V6 y e p
 |ret v=>exact p
 |brk=>exact p
 |cont=>exact p
def So(A:jq b O B):i4 b [O] B:=by
 intro R j D m y H c;refine HD (b6 (A R j D m y H c) λx a p=>?_);cases x with
 |next=>exact wG p
 |ret v=>exact p
 |brk=>exact p
 |cont=>exact p
def aK.quiet(H:aK b R D m j):interactive b.env=aw:=by simp[interactive,H.ok.kind]
def Lf(Xd:cj):fW:=(λy D m=>Xd D m λ_ Wh=>y.bf D Wh)
def Ol(a:bU b e Xd)(Wd:oD e Y Wq.line b.env=pure aw:=by rfl):jq b (.Expr e Wq) (Lf Xd):=by
 intro R j D m y H c;exact wpAny_Expr_any (b6 (a R j D m _ H c) λv h ⟨f,Wh,d,i,g⟩=>⟨D,Wh,d,g⟩) H.quiet Wd
def M0(Xd:cj):fW:=(λy D m=>Xd D m y.eI)
def TF(a:bU b e Xd):jq b (.Return (Z e) Wq) (M0 Xd):=by
 intro R j D m y H c;exact wpAny_Return_some (b6 (a R j D m _ H c) λv i ⟨f,Wh,d,g,h⟩=>⟨f,D,Wh,d,g,h⟩)
def NO(h:e1)(B J:fW):fW:=(λy D m=>h D m λd Wh=>if d=aa then B y D Wh else J y D Wh)
def Od{g d:List cp}(i:iC b h z)(k:i4 b g B)(l:i4 b d J):jq b (.If h g d Wq) (NO z B J):=by
 intro R j D m y H c;refine wpAny_If (b6 (i R j D m _ H c) λs a n=>?_);let⟨@Wh,e,f⟩:=n;cases s with
 |true=>exact k R a D Wh y e f
 |false=>exact l R a D Wh y e f
def Vp:fW:=(λ_ W W=>False)
def PG:jq b O Vp:=λ_ W W W W W c=>c.elim
end
abbrev hl:=ar->a9->aG->(a9->aG->Prop)->Prop
abbrev kn:=List ar->a9->aG->(a9->aG->Prop)->Prop
def JG(b:aR)(c:bF)(B:hl)(R:List (aj×bk)):Prop:=(
 ∀(j:au) (D:a9) (m:aG) (v:ar) (J:ag) (G:a9->aG->Prop),aK b R D m j->cG v J->B v D m G->
  wpAny (aV b.prog b.w) b.A (jA c b.env J) (λ_ V9=>∃a V6,aK b R a V6 V9/\G a V6) b.dc j)
def ks(b:aR)(a:bF)(B:hl):Prop:=(∀R,JG b a B R)
def Eh(b:aR)(c:List bF)(B:kn)(R:List (aj×bk)):Prop:=(
 ∀(j:au) (D:a9) (m:aG) (V7:List ar) (Wy:List ag) (G:a9->aG->Prop),aK b R D m j->b1 V7 Wy->B V7 D m G->
  wpAny (aV b.prog b.w) b.A (DI ((f3 c b.env).map (·.2)) Wy) (λ_ V9=>∃a V6,aK b R a V6 V9/\G a V6) b.dc j)
def pn(b:aR)(a:List bF)(B:kn):Prop:=(∀R,Eh b a B R)
abbrev A9:=ar->ar->ar->aG->(aG->Prop)->Prop
def xy(b:aR)(B:A9):Prop:=(
 ∀(R:List (aj×bk)) (j:au) (D:a9) (m:aG) (o a v:ar) (c d J:ag) (G:aG->Prop),aK b R D m j->cG o c->cG a d->cG v J->B o a v m G->
  wpAny (aV b.prog b.w) b.A (vC c d J) (λ_ V9=>∃V6,aK b R D V6 V9/\G V6) b.dc j)
section
variable{b:aR}{Wq:Pos}
def Bh(a:Nat):hl:=(λv D m G=>G (D.set a<|Z v) m)
def N5(d:b.N.Nodup)(S:b.N[a]?=Z f)(e:kT b.env.scope f)(g:b.fn f=aa\/b.env.scope.names.lookup f=Z .local:=by first|exact .inl rfl|exact .inr rfl|assumption):ks b (.Name f Wq) (Bh a):=by
 intro R j D m v J G H u c;exact Dr (F1 H d S e u (λV9 h=>⟨_,m,h,c⟩) g)
def Qq:kn:=(λV7 D m G=>V7=[]/\G D m)
def N0(B:hl)(J:kn):kn:=(λV7 D m G=>∃v u,V7=v::u/\B v D m λa V6=>J u a V6 G)
def Lq:pn b [] Qq:=by
 intro R j D m V7 Wy G H u c;let@⟨e,c⟩:=c;subst e;cases u;exact assignInOrder_nil ⟨D,m,H,c⟩
def NS{B:hl}{J:kn}(A:ks b e B)(E:pn b V_ J)(Wd:(f3 (e::V_) b.env).map (·.2)=jA e b.env::(f3 V_ b.env).map (·.2):=by rfl):pn b (e::V_) (N0 B J):=by
 intro R j D m V7 Wy G H u c;let⟨v,@k,a,c⟩:=c;subst a;cases u with
 |cons u d=>
  rw[Wd];refine assignInOrder_cons (b6 (A R j D m _ _ _ H u c) λ_ f g=>?_);let⟨Xn,@Wh,h,i⟩:=g;exact E R f Xn Wh _ _ G h d i
def QA(V8:Φ)(r:Nat)(B:kn):hl:=(λv D m G=>∃g w,v=.ref g/\cD V8 m g w/\w.length=r/\B w D m G)
def Lj{B:kn}(h:b.calm=aa)(c:pn b V_ B)(i:(f3 V_ b.env).length=r:=by rfl)(k:(f3 V_ b.env).findIdx? (·.1)=Y:=by rfl):ks b (.Tuple V_ n Wq) (QA b.K r B):=by
 intro R j D m v J G H u a;let⟨g,@w,l,p,q,a⟩:=a;subst l;cases u;let⟨@Wl,f,br,x⟩:=H.tuple p;refine assign_Tuple_tuple (H.ok.hd h) br (by simp[i,<-q,f.length]) k λU s=>?_;have t:aK b R D m {j with heap:=U}:=H.kept (WJ:=j.toks) λd o e=>s d o (dP<|cu e) e;exact c R _ D m w _ G t ⇑f a
def Lp(i b:cj)(B:A9):hl:=(λv D m G=>i D m λo Wh=>b D Wh λa Ws=>B o a v Ws λc=>G D c)
def QN{o a:bF}{i h:cj}{B:A9}(k:bU b o i)(S:bU b a h)(Wd:xy b B)(l:∀v,jA (.Subscript o a Wq) b.env v=(do
   let d <-holding [v] (cE o b.env)
   let e <-holding [v,d] (cE a b.env)
   standAt Wq
   holding [v,d,e] (vC d e v)
   release [v,d,e] []):=by intro W;rfl):ks b (.Subscript o a Wq) (Lp i h B):=by
 intro R j D m v J G H u c;rw[l];refine aA (fK<|b6 (k R j D m _ H c) λd n g=>?_);let⟨f,@Wh,p,q,r⟩:=g;refine aA (fK<|b6 (S R n D Wh _ p r) λe s g=>?_);let⟨C,@Ws,t,w,x⟩:=g;refine aA (uK<|aA<|fK<|b6 (Wd R s D Ws f C v d e J _ t q w u x) λ_ E g=>?_);let⟨@y,z,A⟩:=g;exact wpAny_release ⟨D,y,z,A⟩
def xt(Xd:cj)(L:hl):fW:=(λy D m=>Xd D m λf Wh=>L f D Wh y.bf)
def MQ{L:hl}(a:bU b e Xd)(d:ks b WL L)(Wd:Ju [WL] e Wq.line b.env=pure aw:=by rfl)(g:B2 [WL] e b.env=pure Y:=by rfl)(A:(f3 [WL] b.env).map (·.2)=[jA WL b.env]:=by rfl):jq b (.Assign [WL] e Wq) (xt Xd L):=by
 intro R j D m y H c;refine wpAny_Assign_stores (b6 (a R j D m _ H c) λv h ⟨f,Wh,i,k,l⟩=>?_) Wd g;rw[A];exact b6 (d R h D Wh f v _ i k l) λ_ n p=>p
def Ut{i:Pos}(d:b.N.Nodup)(S:b.N[a]?=Z f)(g:kT b.env.scope f)(h:bU b e Xd)(Wd:oD e (Z<|.Name f i) Wq.line b.env=pure aw:=by rfl)(k:b.fn f=aa\/b.env.scope.names.lookup f=Z .local:=by first|exact .inl rfl|exact .inr rfl|assumption):
  jq b (.Assign [.Name f i] e Wq) (xt Xd<|Bh a):=by
 intro R j D m y H c;refine wpAny_Assign_Name (b6 (h R j D m _ H c) λv q ⟨C,Wh,l,n,o⟩=>?_) Wd;exact F1 l d S g n (λr p=>⟨_,Wh,p,o⟩) k
def KX(h:e1)(Xf:fW):fW:=(λy D m=>∃W:Nat->a9->aG->Prop,(∃k,W k D m)/\∀k D m,W k D m->
 h D m λd Wh=>if d=aa then ∃WM:a9->aG->Prop,(∀a V6,WM a V6->∃b,b<k/\W b a V6)/\Xf {y with bf:=WM,ck:=WM,fM:=y.bf} D Wh else y.bf D Wh)
def TN(q:sl (aV b.prog b.w) b.A b.env b.dc)(B:iC b h z)(C:i4 b Xl Xf):jq b (.While h Xl [] Wq) (KX z Xf):=by
 intro R j D m y H c;let⟨@W,⟨@E,F⟩,turn⟩:=c;refine wpAny_While (codeAny_whileLoop (λr V9=>∃s V6,aK b R s V6 V9/\W r s V6) ?_ E ⟨D,m,H,F⟩);rintro r G ⟨Xn,Wh,I,J⟩;refine ob q (b6 (B R G Xn Wh _ I<|turn r Xn Wh J) λd L M=>?_);let⟨@Ws,t,f⟩:=M;cases d with
 |true=>
  let⟨@WM,u,f⟩:=f;rw[aJ rfl];refine ob q (b6 (C R L Xn Ws _ t f) λx N g=>?_);cases x with
  |next=>
   let⟨a,@e,i,k⟩:=g;let⟨@n,o,p⟩:=u a e k;exact⟨n,o,a,e,i,p⟩
  |cont=>
   let⟨a,@e,i,k⟩:=g;let⟨@n,o,p⟩:=u a e k;exact⟨n,o,a,e,i,p⟩
  |brk=>exact g
  |ret v=>exact g
 |false=>
  rw[aP dz];exact wG ⟨Xn,Ws,t,f⟩
end
structure gc where
 go:Nat->aG->Prop
 tJ:Nat->aG->ar->aG->Prop
 stop:Nat->aG->Prop
def kU(b:aR)(R:List (aj×bk))(m:aG)(d:aj):Prop:=(
 m d=Y/\d≠b.env.locals/\d∉b.V/\(d∈b.ex\/b.fS.heap.objs.size<=d)/\(∀f h,b.env.cells.lookup f=Z h->h≠d)/\∀q∈b.l6++R,q.1≠d)
def aK.we(H:aK b R D m j)(a:j.heap.objs.size<=d)(g:V6 d=Y):kU b R V6 d:=by
 refine⟨g,oL<|gm H.lt a,H.Vy a,.inr<|fu H.iA a,λf h e c=>?_,λq i c=>?_⟩
 ·let⟨@v,p⟩:=H.cell f h e;exact absurd (gm p.lt (by rw[c];exact a)) (lN _)
 ·exact absurd (gm (cu (H.pin q i).1) (by rw[c];exact a)) (lN _)
structure tM(T:bS)(l:bA)(V8:Φ)(WL:bF)(Xg:gc)(bL:List aj)(it:aj)(i:Nat->a_->Prop):Prop where
 mem:it∈bL
 obj:∀a c,i a c->∀d∈bL,∃o,c.get? d=Z o/\∀v,o.data≠.cell v
 keep:∀a c U,i a c->(∀d∈bL,∀o,c.get? d=Z o->U.get? d=Z o)->i a U
 item:∀(b:aR),b.prog=T->b.w=l->b.K=V8->b.calm=aa->∀(a:Nat) (R:List (aj×bk)) (j:au) (D:a9) (m:aG) (Wa:ag->au->Prop),aK b R D m j->(∀d∈bL,kU b R m d)->i a j.heap->Xg.go a m->
  wpAny (aV T l) b.A (h1<|.ref it) (λu s1=>∃J,u=Z J/\
   wpAny (aV T l) b.A (sW WL (.ref it) J) (λ_ s2=>∃f V6,aK b R D V6 s2/\cG f J/\Xg.tJ a m f V6/\i (a+1) s2.heap/\∀d∈bL,V6 d=Y) Wa s1) Wa j
 done:∀(b:aR),b.prog=T->b.w=l->b.K=V8->b.calm=aa->∀(a:Nat) (R:List (aj×bk)) (j:au) (D:a9) (m:aG) (Wa:ag->au->Prop),aK b R D m j->(∀d∈bL,kU b R m d)->i a j.heap->Xg.stop a m->
  wpAny (aV T l) b.A (h1<|.ref it) (λu s1=>u=Y/\aK b R D m s1) Wa j
 self:∀(P:bH) (a:Nat) (j:au) (G:ag->au->Prop) (Wa:ag->au->Prop),i a j.heap->G (.ref it) j->wpAny (aV T l) P (s_<|.ref it) G Wa j
abbrev dM:=a9->aG->(gc->aG->Prop)->Prop
def He(b:aR)(R:List (aj×bk))(D:a9)(WL:bF)(Wb:gc->aG->Prop)(c:ag)(a:au):Prop:=(
 ∃(it:aj) (bL:List aj) (i:Nat->a_->Prop) (Xg:gc) (V6:aG),c=.ref it/\aK b R D V6 a/\tM b.prog b.w b.K WL Xg bL it i/\i 0 a.heap/\(∀d∈bL,kU b R V6 d)/\Wb Xg V6)
def Hh(b:aR)(WL Xb:bF)(fV:dM)(R:List (aj×bk)):Prop:=(
 ∀(j:au) (D:a9) (m:aG) (Wb:gc->aG->Prop),aK b R D m j->fV D m Wb->
  wpAny (aV b.prog b.w) b.A (cE Xb b.env) (λv a=>wpAny (aV b.prog b.w) b.A (s_ v) (He b R D WL Wb) b.dc a) b.dc j)
def lX(b:aR)(WL Xb:bF)(fV:dM):Prop:=(∀R,Hh b WL Xb fV R)
def zW{aF:ig}{Wa:ag -> au -> Prop}{it:aj}{o:bk}{r:String}{V7:Array ag}{G:Unit -> au -> Prop}(b:j.heap.get? it=Z o)(d:o.cls=.type r)(hd:o.data=.fields V7)(e:["enumerate", "zip", "dict_itemiterator", "dict_reverseitemiterator", "odict_iterator", "itertools.zip_longest", "itertools.pairwise"].contains r=aw)(a:G () j): wpAny aF P (sW WL (.ref it) J) G Wa j:=by
  unfold sW;cases WL <;> first
    | exact aU a
    | (cases J <;> first
        | exact aU a
        | (refine aA (wpAny_load b ?_)
           rw [d,hd];show wpAny aF P (if (["enumerate", "zip", "dict_itemiterator", "dict_reverseitemiterator", "odict_iterator", "itertools.zip_longest", "itertools.pairwise"].contains r&&V7[0]? == Z (lV _))=aa then _ else _) G Wa j;rw [aP (by intro c; rw [e,Bool.false_and]at c; cases c)];exact aU a))
def sd(V8:Φ)(g:aj):gc:=(
 ⟨λa m=>∃w f,dC V8 m g w/\w[a]?=Z f,λa m f V6=>V6=m/\∀w,dC V8 m g w->w[a]?=Z f,λa m=>∃w,dC V8 m g w/\w.length<=a⟩)
def vJ(V8:Φ)(g:aj):gc:=(
 ⟨λa m=>∃w f,cD V8 m g w/\w[a]?=Z f,λa m f V6=>V6=m/\∀w,cD V8 m g w->w[a]?=Z f,λa m=>∃w,cD V8 m g w/\w.length<=a⟩)
def xk(M:Int)(r:Nat):gc:=(⟨λa W=>a<r,λa m f V6=>V6=m/\f=.int (M+a),λa W=>r<=a⟩)
theorem U7(g it:aj):tM T l V8 WL (sd V8 g) [it] it (λa c=>c.IsListIter it g a) where
 mem:=by simp
 obj:=λa c O d i=>by
  have e:d=it:=by simpa using i
  subst e;let⟨@o,e,h,s⟩:=O;exact⟨o,e,λv G=>by rw[s]at G;cases G⟩
 keep:=λa c U O n=>O.at λo e=>n it ↥0 o e
 item:=by
  intro b r t u I a R j D m Wa H k O x;subst r t u;let⟨w,@f,p,y⟩:=x;let⟨@Wl,z,q,M⟩:=H.list p;let⟨@J,N,P⟩:=z.get y;let@⟨A,B,Q,C,E,F⟩:=k it ↥0;refine Hc O q.isList (x:=J) ⇑N λU L c0=>?_;have S:aK b R D m {j with heap:=U}:=H.turned (WJ:=j.toks) (λd o i e=>(c0.2 d i).trans e) A B C E F;let⟨@o,e,h,s⟩:=id L;exact⟨J,rfl,zW (j:={j with heap:=U}) e h s ∅ ⟨f,m,S,P,⟨rfl,λWn al=>by rw[H.T2 al p];exact y⟩,L,λd i=>(k d i).1⟩⟩
 done:=by
  intro b r t u I a R j D m Wa H k O x;subst r t u;let⟨@w,p,y⟩:=x;let⟨@Wl,z,q,M⟩:=H.list p;let@⟨A,B,Q,C,E,F⟩:=k it ↥0;have an:=z.length;exact CJ (H.ok.hd I) O q.isList (by simp;lia) λU am=>⟨rfl,H.turned (WJ:=j.toks) (λd o i e=>am d o i e) A B C E F⟩
 self:=λ_ W W W W O c=>wpAny_pyIter_listiter O c
theorem PV(g it:aj):tM T l V8 WL (vJ V8 g) [it] it (λa c=>c.IsTupleIter it g a) where
 mem:=by simp
 obj:=λa c O d i=>by
  have e:d=it:=by simpa using i
  subst e;let⟨@o,e,h,s⟩:=O;exact⟨o,e,λv G=>by rw[s]at G;cases G⟩
 keep:=λa c U O n=>O.at λo e=>n it ↥0 o e
 item:=by
  intro b r t u I a R j D m Wa H k O x;subst r t u;let⟨w,@f,p,y⟩:=x;let⟨@Wl,z,q,M⟩:=H.tuple p;let⟨@J,N,P⟩:=z.get y;let@⟨A,B,Q,C,E,F⟩:=k it ↥0;refine wpAny_pyNext_tuple_item O (show j.heap.IsTuple g Wl.toArray from q) (x:=J) ⇑N λU L c0=>?_;have S:aK b R D m {j with heap:=U}:=H.turned (WJ:=j.toks) (λd o i e=>(c0.2 d i).trans e) A B C E F;let⟨@o,e,h,s⟩:=id L;exact⟨J,rfl,zW (j:={j with heap:=U}) e h s ∅ ⟨f,m,S,P,⟨rfl,λWn al=>by rw[H.xQ al p];exact y⟩,L,λd i=>(k d i).1⟩⟩
 done:=by
  intro b r t u I a R j D m Wa H k O x;subst r t u;let⟨@w,p,y⟩:=x;let⟨@Wl,z,q,M⟩:=H.tuple p;let@⟨A,B,Q,C,E,F⟩:=k it ↥0;have an:=z.length;exact wpAny_pyNext_tuple_end (H.ok.hd I) O (show j.heap.IsTuple g Wl.toArray from q) (by simp;lia) λU am=>⟨rfl,H.turned (WJ:=j.toks) (λd o i e=>am d o i e) A B C E F⟩
 self:=λ_ W W W W O c=>wpAny_pyIter_tupleiter O c
theorem OP(it:aj)(M:Int)(r:Nat):tM T l V8 WL (xk M r) [it] it (λa c=>IsRangeIter c it (M+(a:Nat)*1) ((r:Int)-(a:Nat)) 1) where
 mem:=by simp
 obj:=λa c O d f=>by
  have e:d=it:=by simpa using f
  subst e;exact⟨_,O,λv A=>by
   have C:oC.fields _=oC.cell v:=A;cases C⟩
 keep:=λa c U O n=>n it ↥0 _ O
 item:=by
  intro b h i k p a R j D m Wa H g O q;subst h i k;let@⟨s,t,E,u,x,y⟩:=g it ↥0;have W:=mf.range (prog:=b.prog) (w:=b.w) (H.ok.hd p) it M 1 r;refine W.item a j _ _ q O λv U WN F z G=>?_;let⟨@B,rfl⟩:=F;have I:aK b R D m {j with heap:=U,toks:=WN}:=H.turned (λd o f e=>G d o ⇑f e) s t u x y;refine⟨_,rfl,zW (j:={j with heap:=U,toks:=WN}) (r := "range_iterator") z rfl rfl ∅ ⟨.int<|M+a,m,I,⟨B,?_⟩,⟨rfl,rfl⟩,z,λd f=>(g d f).1⟩⟩;rw[HC]
 done:=by
  intro b h i k p a R j D m Wa H g O q;subst h i k;let@⟨s,t,E,u,x,y⟩:=g it ↥0;exact wpAny_pyNext_range_end (H.ok.hd p) O (by have:r<=a:=q;lia) λU J=>⟨rfl,H.turned (WJ:=j.toks) (λd o f e=>J d o f e) s t u x y⟩
 self:=λ_ V V V V O c=>wpAny_pyIter_rangeiter O c
section
variable{b:aR}{WL:bF}
def N1{Wb:gc->aG->Prop}{M S:Int}{B J v:iv}{WN:Nat}(H:aK b R D m j)(A : -(2^62)<=M)(E:M<2^62)(c : -(2^62)<=S)(f:S<2^62)(p:Wb (xk M (S-M).toNat) m):wpAny (aV b.prog b.w) b.A (s_<|.ref j.heap.objs.size) (He b R D WL Wb) Wa {j with heap:=j.heap.push {cls:=.type "range",data:=.fields #[.int M B,.int S J,.int 1 v]},toks:=WN}:=by
 refine wpAny_pyIter_range (IsRange.new ..) (small_one A E c f) ?_;have a:aK b R D m {j with heap:=j.heap.push {cls:=.type "range",data:=.fields #[.int M B,.int S J,.int 1 v]},toks:=WN}:=H.kept λd o e=>cv _ e;refine⟨(j.heap.push {cls:=.type "range",data:=.fields #[.int M B,.int S J,.int 1 v]}).objs.size,[(j.heap.push {cls:=.type "range",data:=.fields #[.int M B,.int S J,.int 1 v]}).objs.size],_,_,m,rfl,
  a.kept (WJ:=WN) λd o e=>cv _ e,OP _ M (S-M).toNat,?_,λd g=>?_,p⟩
 ·have h:M+((0:Nat):Int)*1=M:=by simp
  have i:(((S-M).toNat:Nat):Int)-((0:Nat):Int)=bl.Range.rangeSize M S 1:=by rw[rangeSize_one];split<;>lia
  show IsRangeIter _ _ (M+((0:Nat):Int)*1) ((((S-M).toNat:Nat):Int)-((0:Nat):Int)) 1;rw[h,i];exact d4 _ rfl
 ·have e:d=(j.heap.push {cls:=.type "range",data:=.fields #[.int M B,.int S J,.int 1 v]}).objs.size:=by simpa using g
  subst e;exact a.we (bb _) (a.bg.fresh<|bb _)
def Tx(W0:fQ):dM:=(λD m Wb=>W0 D m λV7 Wh=>∃i:Int,V7=[.int i] /\ -(2^62)<=i/\i<2^62/\Wb (xk 0 i.toNat) Wh)
def PI{g:bF}{W0:fQ}{q:Pos}(d:e6 b "range")(f:b.aE "range" = Y)(h:iy b [g] W0)(Wd:b5 [g] b.env=[(aw,cE g b.env)]:=by rfl):lX b WL (.Call (.Name "range" q) [g] [] Wq) (Tx W0):=by
 intro R j D m Wb H c;refine Call_ (mx H d f boot_range<|p2 (b6 (h Wq R j D m _ H c) λWy r ⟨V7,Wh,k,l,a⟩=>?_) Wd rfl);let⟨@i,e,a,n,p⟩:=a;subst e;cases l with
 |cons u o=>
  cases o;let⟨@B,rfl⟩:=u;exact call_range_1 (N1 k ⋯ ⋯ a n ⇑p)
def Io(fV:dM)(L:hl)(Xf:fW):fW:=(λy D m=>fV D m λXg Wh=>∃W:Nat->Nat->a9->aG->Prop,(∃k,W 0 k D Wh)/\∀a k D m,W a k D m->
 (Xg.stop a m/\y.bf D m)\/(Xg.go a m/\∃WM:a9->aG->Prop,(∀b V6,WM b V6->∃c,c<k/\W (a+1) c b V6)/\∀f V6,Xg.tJ a m f V6->L f D V6 λd Ws=>Xf {y with bf:=WM,ck:=WM,fM:=y.bf} d Ws))
def nS(bL:List aj)(c:a_):List (aj×bk):=(bL.filterMap λd=>(c.get? d).map λo=>(d,o))
def ui{o:bk}(a:d∈bL)(e:c.get? d=Z o):(d,o)∈nS bL c:=uO.mpr ⟨d,a,by rw[e];rfl⟩
def Ed{q:aj×bk}(a:q∈nS bL c):q.1∈bL/\c.get? q.1=Z q.2:=by
 let⟨@d,b,e⟩:=uO.mp a;cases p:c.get? d with
 |none=>rw[p]at e;cases e
 |some o=>
  rw[p]at e;have f:(d,o)=q:=Option.some.inj e;subst f;exact⟨b,p⟩
def aK.pinned(H:aK b R D m j)(g:∀d∈bL,kU b R m d)(h:∀d∈bL,∃o,j.heap.get? d=Z o/\∀v,o.data≠.cell v):aK b (R++nS bL j.heap) D m j:=
 H.qW λq i=>(dw.mp i).elim (λa=>H.pin q<|ej _ a) λa=>by
  let@⟨c,e⟩:=Ed a;let@⟨k,l,n,_⟩:=g q.1 c;let⟨@o,f,s⟩:=h q.1 c;rw[e]at f;cases f;exact⟨e,k,l,n,s⟩
def aK.xP{bI:List (aj×bk)}(H:aK b (R++bI) D m j):aK b R D m j:=H.qW λq a=>H.pin q (ej _<|ed _ a)
def Uc{Xb:bF}{fV:dM}{L:hl}(z:sl (aV b.prog b.w) b.A b.env b.dc)(T:b.calm=aa)(S:lX b WL Xb fV)(a2:ks b WL L)(g:i4 b Xl Xf)(Wd:∀f,nk Xb b.env f=pure f:=by intro V;rfl):jq b (.For WL Xb Xl [] Wq) (Io fV L Xf):=by
 intro R j D m y H c;refine wpAny_For (b6 (S R j D m _ H c) λv f1 A=>b6 A λf2 f4 E=>?_) Wd;let⟨it,bL,i,Xg,@Ws,e,bd,F,be,U,⟨@W,⟨@bi,bm⟩,turn⟩⟩:=E;subst e;have M:∀{V6:aG},(∀d∈bL,V6 d=Y)->∀d∈bL,kU b R V6 d:=λbn d g=>⟨bn d g,(U d g).2⟩;refine codeAny_forLoop_any (λr V9=>∃a B V6,aK b R B V6 V9/\i a V9.heap/\(∀d∈bL,V6 d=Y)/\W a r B V6) ?_ bi ⟨0,D,Ws,bd,be,λd g=>(U d g).1,bm⟩;rintro r al ⟨a,C,I,am,an,ap,bs⟩;rcases turn a r C I bs with ⟨stop,bv⟩|⟨go,WM,ca,step⟩
 ·refine ob z (b6 (F.done b rfl rfl rfl T a R al C I b.dc am (M ap) an stop) λu cd t=>?_);let@⟨N,ce⟩:=t;subst N;exact wG ⟨C,I,ce,bv⟩
 ·refine ob z (b6 (F.item b rfl rfl rfl T a R al C I b.dc am (M ap) an go) λu cd t=>?_);let⟨@J,N,ch⟩:=t;subst N;refine ob z (b6 ch λ_ as t=>?_);let⟨f,@a1,ci,cl,co,O,cr⟩:=t;have cs:=ci.pinned (M cr) (F.obj _ _ O);refine ob z (b6 (a2 _ as C a1 f J _ cs cl<|step f a1 co) λ_ db t=>?_);let⟨ds,@dL,eq,ev⟩:=t;refine ob z (b6 (g _ db ds dL _ eq ev) λx Q q=>?_);have again:∀{h:a9}{n:aG},aK b (R++nS bL as.heap) h n Q->WM h n->∃k,k<r/\∃a B V6,aK b R B V6 Q/\i a Q.heap/\(∀d∈bL,V6 d=Y)/\W a k B V6:=λ{h n} p G=>by
   let⟨@ex,fd,fn⟩:=ca h n G;refine⟨ex,fd,a+1,h,n,p.xP,F.keep _ _ _ O λd g o e=>(p.pin (d,o)<|ej _<|ej _<|ui g e).1,λd g=>?_,fn⟩;let⟨@o,e,s⟩:=F.obj _ _ O d g;exact (p.pin (d,o)<|ej _<|ej _<|ui g e).2.1
  cases x with
  |next=>let⟨h,@n,p,G⟩:=q;exact again p G
  |cont=>let⟨h,@n,p,G⟩:=q;exact again p G
  |brk=>let⟨h,@n,p,q⟩:=q;exact⟨h,n,p.xP,q⟩
  |ret v=>let⟨fr,h,@n,p,f0,q⟩:=q;exact⟨fr,h,n,p.xP,f0,q⟩
end
abbrev cf:=ar->ar->aG->c5->Prop
variable{W3 u:cf}
def eo(b:aR)(x:ag->ag->er ag)(u:cf):Prop:=(
 ∀(R:List (aj×bk)) (j:au) (D:a9) (m:aG) (f C:ar) (v J:ag) (G:c5),aK b R D m j->cG f v->cG C J->u f C m G->
  wpAny (aV b.prog b.w) b.A (x v J) (e4 b R D G) b.dc j)
def Ak(b:aR)(x:ag->er ag)(u:ar->aG->c5->Prop):Prop:=(
 ∀(R:List (aj×bk)) (j:au) (D:a9) (m:aG) (f:ar) (v:ag) (G:c5),aK b R D m j->cG f v->u f m G->
  wpAny (aV b.prog b.w) b.A (x v) (e4 b R D G) b.dc j)
def fl(b:aR)(x:ag)(u:List ar->aG->c5->Prop):Prop:=(
 ∀(R:List (aj×bk)) (j:au) (D:a9) (m:aG) (w:List ar) (Wy:List ag) (G:c5),aK b R D m j->b1 w Wy->u w m G->
  wpAny (aV b.prog b.w) b.A (call x Wy) (e4 b R D G) b.dc j)
def Ve(b:aR)(u:ar->aG->(Bool->aG->Prop)->Prop):Prop:=(
 ∀(R:List (aj×bk)) (j:au) (D:a9) (m:aG) (f:ar) (v:ag) (G:Bool->aG->Prop),aK b R D m j->cG f v->u f m G->
  wpAny (aV b.prog b.w) b.A (truthy v) (t8 b R D G) b.dc j)
def wQ(u:cf)(W0 Xf:cj):cj:=(λD m G=>W0 D m λf Wh=>Xf D Wh λC Ws=>u f C Ws G)
def U1(u:ar->aG->c5->Prop)(W0:cj):cj:=(λD m G=>W0 D m λf Wh=>u f Wh G)
def qr(aT:Int->Int->Prop)(L:Int->Int->ar):cf:=(λf C m G=>∃a i,f=.int a/\C=.int i/\aT a i/\G (L a i) m)
def mj(L:Int->Int->ar):cf:=(λf C m G=>∃a i,f=.int a/\C=.int i/\G (L a i) m)
def G_(L:Int->ar):ar->aG->c5->Prop:=(λf m G=>∃a,f=.int a/\G (L a) m)
section
variable{b:aR}{g d h:bF}{W0 Xf z:cj}{Wq:Pos}
def Aj(h:bU b g W0)(i:bU b d Xf){R:List (aj×bk)}{j:au}{D:a9}{m:aG}{Wb:ar->ar->aG->Prop}(H:aK b R D m j)(c:W0 D m λf Wh=>Xf D Wh λC Ws=>Wb f C Ws){G:ag->au->Prop}{x:ag->ag->er ag}(k:∀v J a f C Ws,aK b R D Ws a->cG f v->cG C J->Wb f C Ws->wpAny (aV b.prog b.w) b.A (x v J) G b.dc a):
  wpAny (aV b.prog b.w) b.A (cE g b.env) (λv n=>wpAny (aV b.prog b.w) b.A (cE d b.env) (λJ o=>wpAny (aV b.prog b.w) b.A (x v J) G b.dc o) b.dc n) b.dc j:=by
 refine b6 (h R j D m _ H c) λv p e=>?_;let⟨f,@Wh,q,r,s⟩:=e;refine b6 (i R p D Wh _ q s) λJ a e=>?_;let⟨C,@Ws,t,u,y⟩:=e;exact k v J a f C Ws t r u y
def Pd{WV:Bb}(a:eo b (g7 WV) u)(e:bU b g W0)(h:bU b d Xf):bU b (.BinOp g WV d Wq) (wQ u W0 Xf):=by
 intro R j D m G H c;exact wpAny_BinOp (Aj e h H c λv J i f C Ws k l n p=>a R i D Ws f C v J G k l n p)
def Nl{WV:UnaryOp}{u:ar->aG->c5->Prop}(a:Ak b (unaryOp WV) u)(d:bU b g W0):bU b (.UnaryOp WV g Wq) (U1 u W0):=by
 intro R j D m G H c;exact UnaryOp_ (b6 (d R j D m _ H c) λv e ⟨f,Wh,h,i,k⟩=>a R e D Wh f v G h i k)
def uf{aT:Int->Int->Prop}(d:∀(a i:Int) (B J:iv) (j:au) (G:ag->au->Prop) (Wa:ag->au->Prop),aT a i->G (.int (L a i) j.toks) {j with toks:=j.toks+1}->wpAny (aV b.prog b.w) b.A (x (.int a B)<|.int i J) G Wa j):
  eo b x (qr aT λa i=>.int<|L a i):=by
 intro R j D m f C v J G H e g c;let⟨a,@i,rfl,rfl,h,p⟩:=c;let⟨@B,rfl⟩:=e;let⟨@WJ,rfl⟩:=g;exact d a i B WJ j _ _ h ⟨.int<|L a i,m,H.tok _,⟨_,rfl⟩,p⟩
def Ia(d:∀(a i:Int) (B J:iv) (j:au) (G:ag->au->Prop) (Wa:ag->au->Prop),G (.int (L a i) j.toks) {j with toks:=j.toks+1}->wpAny (aV b.prog b.w) b.A (x (.int a B)<|.int i J) G Wa j):
  eo b x (mj λa i=>.int<|L a i):=by
 intro R j D m f C v J G H e g c;let⟨a,@i,rfl,rfl,p⟩:=c;let⟨@B,rfl⟩:=e;let⟨@WJ,rfl⟩:=g;exact d a i B WJ j _ _ ⟨.int<|L a i,m,H.tok _,⟨_,rfl⟩,p⟩
def ud{L:Int->Int->Bool}(d:∀(a i:Int) (B J:iv) (j:au) (G:ag->au->Prop) (Wa:ag->au->Prop),G (.bool<|L a i) j->wpAny (aV b.prog b.w) b.A (x (.int a B)<|.int i J) G Wa j):
  eo b x (mj λa i=>.ay<|L a i):=by
 intro R j D m f C v J G H e g c;let⟨a,@i,rfl,rfl,p⟩:=c;let⟨@B,rfl⟩:=e;let⟨@WJ,rfl⟩:=g;exact d a i B WJ j _ _ ⟨.ay<|L a i,m,H,rfl,p⟩
def Mx(a i:Int):Prop:=(0<i/\i<1073741824)
def TM(a i:Int):Prop:=(0<=i/\i<=1000000/\a.natAbs<2^64)
def UE:eo b (g7 .Add) (mj λa i=>.int<|a+i):=Ia λ_ W W W W W W p=>add_int p
def Ml:eo b (g7 .Sub) (mj λa i=>.int<|a-i):=Ia λ_ W W W W W W p=>sub_int p
def Tv:eo b (g7 .FloorDiv) (qr Mx λa i=>.int<|a/i):=uf λa i W W W W W c p=>by
 have A:(0:Int)<i:=c.1;have E:i<1073741824:=c.2;exact floordiv_int ⋯ (by rw[Int.fdiv_eq_ediv_of_nonneg a ⋯];exact p) (.inl (PyProof.noPylong_small ⋯))
def NA:eo b (g7 .Mod) (qr (λ_ i=>0<i) λa i=>.int<|a%i):=uf λa i W W W W W c p=>by
 have A:(0:Int)<i:=c;exact mod_int' ⋯ (by rw[Int.fmod_eq_emod_of_nonneg a ⋯];exact p)
def OY:eo b (g7 .Pow) (qr TM λa i=>.int<|a^i.toNat):=uf λ_ W W W W W W c p=>pow_int_small c.1 c.2.1 c.2.2 p
def QJ{x:ag->er ag}{L:Int->Int}(d:∀(a:Int) (B:iv) (j:au) (G:ag->au->Prop) (Wa:ag->au->Prop),G (.int (L a) j.toks) {j with toks:=j.toks+1}->wpAny (aV b.prog b.w) b.A (x<|.int a B) G Wa j):
  Ak b x (G_ λa=>.int<|L a):=by
 intro R j D m f v G H e c;let⟨@a,rfl,p⟩:=c;let⟨@B,rfl⟩:=e;exact d a B j _ _ ⟨.int<|L a,m,H.tok _,⟨_,rfl⟩,p⟩
def Nj:Ak b (unaryOp .USub) (G_ λa=>.int<|-a):=QJ λ_ W W W W p=>neg_int p
def OS{G:c5}{n a:Bool}(H:aK b R D m j)(p:G (.ay n) m)(e:n=a):e4 b R D G (.bool a) j:=by
 subst e;exact⟨.ay n,m,H,rfl,p⟩
def S9:eo b (ey .Lt) (mj λa i=>.ay<|decide (a<i)):=ud λ_ W W W W W W p=>lt_int p
def PS:eo b (ey .LtE) (mj λa i=>.ay<|decide (a<=i)):=ud λ_ W W W W W W p=>le_int p
def Oo:eo b (ey .Gt) (mj λa i=>.ay<|decide (i<a)):=ud λ_ W W W W W W p=>gt_int p
def Ud:eo b (ey .GtE) (mj λa i=>.ay<|decide (i<=a)):=ud λ_ W W W W W W p=>ge_int p
def PE:eo b (ey .IsNot) (λf C m G=>C=.a6/\G (.ay<|!decide (f=.a6)) m):=by
 intro R j D m f C v J G H a d c;let@⟨rfl,p⟩:=c;cases d;refine isnot_none_gen (OS H p ?_);cases f<;>first
  | (cases a;rfl)
  | (let⟨@B,rfl⟩:=a;rfl)
def eo.or(c:eo b x u)(U:eo b x W3):eo b x (λf C m G=>u f C m G\/W3 f C m G):=by
 intro R j D m f C v J G H a d p;rcases p with p|p
 ·exact c R j D m f C v J G H a d p
 ·exact U R j D m f C v J G H a d p
def dU(d:bF){WV:m7}(c:WV≠.In:=by decide)(E:WV≠.NotIn:=by decide):qu WV d=aw:=by
 have a:(WV==m7.In)=aw:=by cases WV<;>first|rfl|exact absurd rfl c
 have b:(WV==m7.NotIn)=aw:=by cases WV<;>first|rfl|exact absurd rfl E
 cases d<;>simp[qu,a,b]
def Nw(a:eo b (ey WV) u)(e:bU b g W0)(h:bU b d Xf)(i:qu WV d=aw):bU b (.Compare g [WV] [d] Wq) (wQ u W0 Xf):=by
 intro R j D m G H c;exact wpAny_Compare1 (Aj e h H c λv J k f C Ws l n o p=>a R k D Ws f C v J G l n o p) i
def ID(B:cj):e1:=(λD m G=>B D m λf V6=>∃n,f=.ay n/\G n V6)
def Qg(a:eo b (ey WV) u)(i:bU b g W0)(k:bU b d Xf)(l:qu WV d=aw):iC b (.Compare g [WV] [d] Wq) (ID<|wQ u W0 Xf):=by
 intro R j D m G H c;refine wpAny_isTrue_Compare1 (b6 (i R j D m _ H c) λv o ⟨f,Wh,p,q,r⟩=>b6 (k R o D Wh _ p r) λJ s ⟨C,Ws,t,w,x⟩=>
  b6 (a R s D Ws f C v J _ t q w x) λh E ⟨F,y,z,A,n,e,B⟩=>?_) l;subst e;cases A;exact m6 ⟨y,z,B⟩
def Ag(u W3:cf)(W0 Xf z:cj):cj:=(λD m G=>W0 D m λf Wh=>Xf D Wh λC Ws=>u f C Ws λb a=>∃n,b=.ay n/\
 (if n=aa then z D a λc d=>W3 C c d G else G (.ay aw) a))
def Qj(o:eo b (ey WV) u)(p:eo b (ey Xo) W3)(q:bU b g W0)(r:bU b d Xf)(t:bU b h z)(w:wu [WV,Xo] [d,h]=aw:=by with_unfolding_all rfl):bU b (.Compare g [WV,Xo] [d,h] Wq) (Ag u W3 W0 Xf z):=by
 intro R j D m G H c;refine Compare_chain (b6 (q R j D m _ H c) λv x ⟨f,Wh,y,A,B⟩=>chain_link (b6 (r R x D Wh _ y B) λJ E ⟨C,Ws,F,a,I⟩=>
  b6 (o R E D Ws f C v J _ F A a I) λs L ⟨al,i,k,M,n,e,l⟩=>?_)) w;subst e;cases M;refine m6 ?_;cases n with
 |false=>exact ite_ff ⟨.ay aw,i,k,rfl,l⟩
 |true=>exact ite_tt (chain_last<|b6 (t R L D i _ k l) λN O ⟨P,Q,S,T,U⟩=>p R O D Q C P J N G S a T U)
def Um(o:eo b (ey WV) u)(p:eo b (ey Xo) W3)(q:bU b g W0)(r:bU b d Xf)(t:bU b h z)(w:wu [WV,Xo] [d,h]=aw:=by with_unfolding_all rfl):iC b (.Compare g [WV,Xo] [d,h] Wq) (ID<|Ag u W3 W0 Xf z):=by
 intro R j D m G H c;refine isTrue_chain (b6 (q R j D m _ H c) λv x ⟨f,Wh,y,A,B⟩=>test_link (b6 (r R x D Wh _ y B) λJ E ⟨C,Ws,F,a,I⟩=>
  b6 (o R E D Ws f C v J _ F A a I) λs L ⟨be,i,k,M,n,e,l⟩=>?_)) w;subst e;cases M;refine m6 ?_;cases n with
 |false=>
  let⟨@bi,N,O⟩:=l;cases N;exact ite_ff ⟨i,k,O⟩
 |true=>
  refine ite_tt (test_last<|b6 (t R L D i _ k l) λP Q ⟨S,T,U,al,am⟩=>b6 (p R Q D T C S J P _ U a al am) λbm bn an=>?_);let⟨bs,@ap,as,a1,⟨@WR,a2,bd⟩⟩:=an;subst a2;cases a1;exact m6 ⟨ap,as,bd⟩
def zQ(V8:Φ)(f:ar)(m:aG)(n:Bool):Prop:=(
 match f with
 |.a6=>n=aw
 |.ay d=>n=d
 |.int a=>n=(a != 0)
 |.str C=>C.length<=sizeLine/\n=((C.length:Int) != 0)
 |.sg C=>C.size<=sizeLine/\n=((C.size:Int) != 0)
 |.ref q=>(∃w,dC V8 m q w/\n=!w.isEmpty)\/(∃w,cD V8 m q w/\n=!w.isEmpty)\/∃Wm,m q=Z (.ee Wm)/\n=!Wm.isEmpty
 |_=>False)
def KZ{Wz:Type}{Wm:List (Wz×ar)}{V7:List (Wz×ag)}(u:gF Wm V7):(!V7.isEmpty)=!Wm.isEmpty:=by
 cases u<;>rfl
def Ii{Wl:List ag}(u:b1 w Wl):(!Wl.toArray.isEmpty)=!w.isEmpty:=by
 cases u<;>simp
def oe:(sizeLine:Nat)<2^63:=by rw[wU];decide
def P1:Ve b (λf m G=>∃n,zQ b.K f m n/\G n m):=by
 intro R j D m f v G H h c;let⟨@n,e,p⟩:=c;have x:=oe;have Wd:sizeLine=16777216:=wU;cases f with
 |a6=>
  cases h;have g:n=aw:=e;subst g;exact truthy_none ⟨m,H,p⟩
 |ay d=>
  cases h;have g:n=d:=e;subst g;exact m6 ⟨m,H,p⟩
 |int a=>
  let⟨@B,rfl⟩:=h;have g:n=(a != 0):=e;subst g;exact PySem.P.truthy_int ⟨m,H,p⟩
 |str C=>
  let⟨@B,rfl⟩:=h;obtain⟨s,g⟩:C.length<=sizeLine/\n=((C.length:Int) != 0):=e;subst g;exact PySem.P.truthy_str ⋯ ⟨m,H.tok _,p⟩
 |sg C=>
  let⟨@B,rfl⟩:=h;obtain⟨s,g⟩:C.size<=sizeLine/\n=((C.size:Int) != 0):=e;subst g;exact PySem.W.truthy_bytes ⋯ ⟨m,H.tok _,p⟩
 |ref q=>
  cases h;have g:(∃w,dC b.K m q w/\n=!w.isEmpty)\/(∃w,cD b.K m q w/\n=!w.isEmpty)\/∃Wm,m q=Z (.ee Wm)/\n=!Wm.isEmpty:=e;rcases g with ⟨w,i,g⟩|⟨w,i,g⟩|⟨Wm,i,g⟩
  ·subst g;let⟨@Wl,u,bI,o⟩:=H.list i;have r:=u.length;exact wpAny_truthy_list bI.isList (by simp only[cV];lia) ⟨m,H.tok _,by rw[Ii u];exact p⟩
  ·subst g;let⟨@Wl,u,bI,o⟩:=H.tuple i;have r:=u.length;exact truthy_tuple bI (by simp only[cV];lia) ⟨m,H.tok _,by rw[Ii u];exact p⟩
  ·subst g;obtain⟨o,t,V7,u,k⟩:Wm.length<=sizeLine/\(q==jW)=aw/\∃V7,gF Wm V7/\j.heap.DictOf (nI b.prog b.w) q V7:=H.bg q _ i;have r:Wm.length=V7.length:=eP.length u;exact wpAny_truthy_dict t k ⋯ ⟨m,H.tok _,by rw[KZ u];exact p⟩
 |_=>exact (show False from e).elim
def Rn(d:bU b g W0)(e:∀a,rm g b.env a=(do let v <-a;standAt g.pos;holding [v] (truthy v))):
  iC b g (λD m G=>W0 D m λf V6=>∃n,zQ b.K f V6 n/\G n V6):=by
 intro R j D m G H c;exact isTrue_plain (b6 (d R j D m _ H c) λv h ⟨f,Wh,i,k,l⟩=>P1 R h D Wh f v G i k l) (e _)
def US:eo b (g7 .Add) (λf C m G=>∃a i,f=.str a/\C=.str i/\a.length+i.length<=sizeLine/\G (.str<|a++i) m):=by
 intro R j D m f C v J G H d e c;let⟨a,@i,rfl,rfl,g,p⟩:=c;let⟨@B,rfl⟩:=d;let⟨@WJ,rfl⟩:=e;exact add_str (λWJ WN=>⟨.str<|a++i,m,H.tok _,⟨_,rfl⟩,p⟩) g
def iS{f:ar}(u:b1 [f] Wy):∃J,Wy=[J]/\cG f J:=by
 cases u with
 |cons a b=>cases b;exact⟨_,rfl,a⟩
def tX{f:ar}(u:b1 [f,C] Wy):∃J a,Wy=[J,a]/\cG f J/\cG C a:=by
 cases u with
 |cons b c=>
  cases c with
  |cons d e=>cases e;exact⟨_,_,rfl,b,d⟩
def Tg(e:b.calm=aa):fl b (.builtin "max") (λw m G=>∃a i,w=[.int a,.int i]/\G (.int<|if i>a then i else a) m):=by
 intro R j D m w Wy G H u c;let⟨a,@i,rfl,p⟩:=c;let⟨J,@f,rfl,⟨@B,rfl⟩,⟨@WJ,rfl⟩⟩:=tX u;refine max_two_ints (H.ok.hd e) λU WN n=>⟨_,m,H.kept n,?_,p⟩;by_cases d:i>a
 ·rw[aJ d,aJ d];exact⟨_,rfl⟩
 ·rw[aP d,aP d];exact⟨_,rfl⟩
def N7(e:b.calm=aa):fl b (.builtin "min") (λw m G=>∃a i,w=[.int a,.int i]/\G (.int<|if i<a then i else a) m):=by
 intro R j D m w Wy G H u c;let⟨a,@i,rfl,p⟩:=c;let⟨J,@f,rfl,⟨@B,rfl⟩,⟨@WJ,rfl⟩⟩:=tX u;refine min_two_ints (H.ok.hd e) λU WN n=>⟨_,m,H.kept n,?_,p⟩;by_cases d:i<a
 ·rw[aJ d,aJ d];exact⟨_,rfl⟩
 ·rw[aP d,aP d];exact⟨_,rfl⟩
def TG:fl b (.type "int") (λw m G=>(∃a,w=[.int a]/\G (.int a) m)\/∃n,w=[.ay n]/\G (.int<|if n then 1 else 0) m):=by
 intro R j D m w Wy G H u c;rcases c with ⟨a,rfl,p⟩|⟨n,rfl,p⟩
 ·let⟨@J,rfl,⟨@B,rfl⟩⟩:=iS u;exact call_int_int ⟨.int a,m,H,⟨_,rfl⟩,p⟩
 ·let⟨@J,rfl,d⟩:=iS u;cases d;exact call_int_bool ⟨.int<|if n then 1 else 0,m,H.tok _,⟨_,rfl⟩,p⟩
end
def lQ.some_of{o:Option ag}(u:lQ (Z v) o):∃J,o=Z J/\cG v J:=by
 cases o with
 |none=>exact (show False from u).elim
 |some J=>exact⟨J,rfl,u⟩
structure fg(n:Nat)(P:bH):Prop where
 hd:P.handled=Y
 yp:P.depth+3*n+5<Jn
 un:P.units+16*n+200<b3
 jH:P.guards=Z []
def fg.mono{i:Nat}(u:fg n P)(c:i<=n):fg i P:=⟨u.hd,by have:=u.yp;lia,by have:=u.un;lia,u.jH⟩
def fg.deeper(u:fg (n+1) P)(Wc:fE):fg n (P.deeper Wc):=
 ⟨u.hd,by have:=u.yp;show P.depth+1+3*n+5<_;lia,by have:=u.un;show P.units+3+16*n+200<_;lia,u.jH⟩
def fg.depth(u:fg n P):P.depth<Jn:=by have:=u.yp;lia
def Te:fQ:=(λ_ m G=>G [] m)
def Lh(W0:cj)(fL:fQ):fQ:=(λD m G=>W0 D m λf Wh=>fL D Wh λw Ws=>G (f::w) Ws)
section
variable{b:aR}{e:bF}{V_:List bF}{Xd:cj}{B:fQ}{Wq:Pos}
def I7:iy b [] Te:=λ_ W W W m G H c=>y8 ⟨[],m,H,.nil,c⟩
def xV(d:bU b e Xd)(g:iy b V_ B)(Wd:b5 (e::V_) b.env=(aw,cE e b.env)::b5 V_ b.env:=by rfl):iy b (e::V_) (Lh Xd B):=by
 intro Wq R j D m G H c;rw[Wd];show wpAny _ _ (spliced ((aw,cE e b.env)::hj Wq (b5 V_ b.env))) _ _ j;refine AB (b6 (d R j D m _ H c) λJ h a=>?_);let⟨f,@Wh,i,k,l⟩:=a;refine b6 (g Wq R h D Wh _ i l) λWy q a=>?_;let⟨w,@Ws,n,o,p⟩:=a;exact⟨f::w,Ws,n,.cons k o,p⟩
def OI(B:fQ):cj:=(λD m G=>B D m λw Wh=>w.length<=sizeLine/\∀q,Wh q=Y->G (.ref q) (upd Wh q<|.tup w))
def Ka(B:fQ):cj:=(λD m G=>B D m λw Wh=>w.length<=sizeLine/\∀q,Wh q=Y->G (.ref q) (upd Wh q<|.lst w))
def Ov{h}(c:iy b V_ B):bU b (.Tuple V_ h Wq) (OI B):=by
 intro R j D m G H i;refine wpAny_Tuple_spliced (b6 (c Wq R j D m _ H i) λWy a ⟨w,Wh,f,u,g,p⟩=>⟨by rw[<-u.length];exact g,?_⟩);have k:Wh a.heap.objs.size=Y:=f.bg.fresh (bb _);refine⟨.ref a.heap.objs.size,upd Wh a.heap.objs.size<|.tup w,f.laid (WJ:=a.toks) (λd J e=>cv _ e) (bb _) ?_,rfl,p _ k⟩;exact⟨g,Wy,u,⟨_,d4 _ rfl,rfl,_,rfl⟩⟩
def Nq(c:iy b V_ B):bU b (.List V_ Wq) (Ka B):=by
 intro R j D m G H h;refine wpAny_List_spliced (b6 (c Wq R j D m _ H h) λWy a ⟨w,Wh,f,u,g,p⟩=>⟨by rw[<-u.length];exact g,?_⟩);have i:Wh a.heap.objs.size=Y:=f.bg.fresh (bb _);refine⟨.ref a.heap.objs.size,upd Wh a.heap.objs.size<|.lst w,f.laid (WJ:=a.toks) (λd J e=>cv _ e) (bb _) ?_,rfl,p _ i⟩;exact⟨g,Wy,0,u,d4 _ rfl⟩
end
abbrev da:=List ar->aG->c5->ho->Prop
abbrev k1:=List fE->aG->au->ho->ag->au->Prop
variable{y:k1}
structure wc(T:bS)(l:bA)(V8:Φ)(aE:aI->Option ag)(Wi:a_)(P:bH)(WX:List fE)(j:au)(m:aG):Prop where
 frames:P.frames=Z WX
 mod:Mod V8 aE Wi
 bs:∀d o,Wi.get? d=Z o->j.heap.get? d=Z o/\m d=Y
 mq:Wi.objs.size<=j.heap.objs.size
 j2:j.heap.FunFrames Wi WX
 o4:∀d∈jj WX,m d=Y
 bg:eE T l m j.heap
 bare:me j.gens
def xO(WX:List fE)(T:bS)(l:bA)(m:aG)(j:au)(G:c5)(J:ag)(V9:au):Prop:=(
 ∃v V6,V9.os=j.os/\me V9.gens/\fY (jj WX) [] m V6 j.heap V9.heap/\eE T l V6 V9.heap/\cG v J/\G v V6)
def LC(y:k1)(WX:List fE)(T:bS)(l:bA)(m:aG)(j:au)(G:c5)(Wa:ho)(u:qn)(V9:au):Prop:=(
 match u with
 |.ok (.ret J)=>xO WX T l m j G J V9
 |.ok _=>False
 |.error e=>y WX m j Wa e V9)
structure i8(T:bS)(l:bA)(V8:Φ)(aE:aI->Option ag)(Wi:a_)(y:k1)(n:Nat)(x:aj)(fd:hA)(Wk:List aI)(et:da):Prop where
 len:∀V7 m G Wa,et V7 m G Wa->V7.length=Wk.length
 run:∀(P:bH) (WX:List fE) (j:au) (m:aG) (args:Args) (Wy:List ag) (V7:List ar) (G:c5) (Wa:ho),fg n P->wc T l V8 aE Wi P WX j m->nA j fd args (Wk.zip Wy)->b1 V7 Wy->et V7 m G Wa->
  codeAny (aV T l) P (.call (.ref x) args) (LC y WX T l m j G Wa) j
section
variable{b:aR}{R:List (aj×bk)}{D:a9}{m:aG}{j V9:au}
def aK.L3(H:aK b R D m j):wc b.prog b.w b.K b.aE b.base b.A b.stack j m:=
 ⟨H.ok.frames,H.ok.mod,H.bs,fu H.ok.mq H.iA,H.stack,H.JA,H.bg,H.bare⟩
def aK.after{G:c5}(H:aK b R D m j)(c:xO b.stack b.prog b.w m j G J V9):e4 b R D G J V9:=by
 let⟨v,@V6,Q,a,un,bg,u,p⟩:=c;let⟨e,L,s,B,f⟩:=V9;obtain rfl:f=j.os:=Q;exact⟨v,V6,H.call (U:=e) (i:=L) (t:=s) (WJ:=B) (Xh:=[]) un bg a (λd g=>absurd g ↥0),u,p⟩
end
def yQ(et:da)(i:List ar)(Wa:ho)(B:fQ):cj:=(λD m G=>B D m λV7 Wh=>et (V7++i) Wh G Wa)
def iU(V8:Φ)(fd:hA)(Wk:List aI)(I:List ag):Prop:=(
 ∀(j:au) (Wy:List ag),V8.In j.heap->(Wy++I).length=Wk.length->nA j fd ⟨Wy,[]⟩ (Wk.zip<|Wy++I))
def iU.all{fd:hA}(c:∀Wy:List ag,Wy.length=Wk.length->ke fd ⟨Wy,[]⟩=pure (Wk.zip Wy)):iU V8 fd Wk []:=λj Wy W a=>by
 rw[cO]at a ⊢;exact .of_eq (c Wy a)
def u6(y:k1)(b:aR)(Wa:ho):Prop:=(∀(R:List (aj×bk)) (D:a9) (m:aG) (j:au) (e:ag) (V9:au),aK b R D m j->y b.stack m j Wa e V9->b.dc e V9)
section
variable{b:aR}{y:k1}{n:Nat}{x aT:aj}{fd:hA}{Wk:List aI}{et:da}{i:List ar}{I:List ag}{Wa:ho}{f k:aI}{q Wq Xq:Pos}{e o:bF}{V_:List bF}{W0:cj}{B:fQ}
def GL{G:c5}(N:i8 b.prog b.w b.K b.aE b.base y n x fd Wk et)(f:fg n b.A)(g:iU b.K fd Wk I)(hd:b1 i I)(h:u6 y b Wa)(H:aK b R D m j)(u:b1 V7 Wy)(c:et (V7++i) m G Wa):wpAny (aV b.prog b.w) b.A (call (.ref x) Wy) (e4 b R D G) b.dc j:=by
 have d:b1 (V7++i) (Wy++I):=u.append hd;have k:(Wy++I).length=Wk.length:=by rw[<-d.length];exact N.len _ _ _ _ c
 refine wpAny_call (rH (N.run b.A b.stack j m ⟨Wy,[]⟩ (Wy++I) (V7++i) G Wa f H.L3 (g j Wy H.oK k) d c) λu V9 a=>?_);cases u with
 |error e=>exact h R D m j e V9 H a
 |ok aW=>
  cases aW with
  |ret J=>exact H.after a
  |next=>exact False.elim a
  |brk=>exact False.elim a
  |cont=>exact False.elim a
def PJ(N:i8 b.prog b.w b.K b.aE b.base y n x fd Wk et)(d:fg n b.A)(g:e6 b f)(h:b.aE f=Z (.ref x))(k:Θ b.K (.ref x)=aa)(o:iU b.K fd Wk I)(hd:b1 i I)(r:u6 y b Wa)(s:iy b (e::V_) B)(t:(f==("__debug__" : aI))=aw:=by decide)(v:b5 (e::V_) b.env=(aw,cE e b.env)::b5 V_ b.env:=by rfl)(z:(hj Wq<|b5 V_ b.env).any (·.1)=aw:=by rfl):
  bU b (.Call (.Name f q) (e::V_) [] Wq) (yQ et i Wa B):=by
 intro R j D m G H c;refine q7 (Jv H g h ?_ t);refine Dx (h₀:=b.base) H.ok.mod.vs k (b6 (s Wq R j D m _ H c) λWy E ⟨V7,Wh,a,u,p⟩=>⟨a.oK,?_⟩) v z;exact GL N d o hd r a u p
end
structure pg(WM T:List aI)(B:hQ):Prop where
 kind:B.kind=.function
 co:B.isCoroutine=aw
 gen:B.isGenerator=aw
 ao:WM.Nodup
 pre:WM.take T.length=T
 par:∀f∈T,B.names.lookup f=Z .local\/B.names.lookup f=Z .cell
 KY:∀C∈B.names,C.2≠.free
theorem HP{a:aI->Option ea}{f:aI}:∀{binds:List (aI×ag)}{k:aI->Option ag},(∀v,(f,v)∉binds)->bindL a binds k f=k f
 |[],_,_=>rfl
 | (r,v)::u,k,c=>by
  unfold bindL;rw[HP λl b=>c l<|l8 _ b];split
  ·have:f≠r:=by rintro rfl;exact c v m_
   simp[this]
  ·rfl
theorem HH{a:aI->Option ea}{f:aI}:∀{binds:List (aI×ag)}{k:aI->Option ag},(∀v,(f,v)∉binds)->bindC a binds k f=k f
 |[],_,_=>rfl
 | (r,v)::u,k,c=>by
  unfold bindC;rw[HH λl b=>c l<|l8 _ b];split
  ·rfl
  ·have:f≠r:=by rintro rfl;exact c v m_
   simp[this]
theorem Iy{b:aI->Option ea}{f:aI}{v:ag}:∀{T:List aI}{V7:List ag}{a:Nat}{k:aI->Option ag},T.Nodup->T[a]?=Z f->V7[a]?=Z v->b f=Z .local->
  bindL b (T.zip V7) k f=Z v
 |[],_,_,_,_,c,_,_=>by simp at c
 |_::_,[],_,_,_,_,c,_=>by simp at c
 |q::T,l::V7,0,k,ao,A,E,d=>by
  simp at A E;subst A;subst E;show bindL b ((q,l)::T.zip V7) k q=_;unfold bindL;rw[HP λv e=>(iw.mp ao).1 (sh e).1,aJ d];simp
 |q::T,l::V7,a+1,k,ao,A,E,d=>by
  show bindL b ((q,l)::T.zip V7) k f=_;unfold bindL;exact Iy (a:=a) (iw.mp ao).2 ⇑A ⇑E d
theorem Ej{b:aI->Option ea}{f:aI}{v:ag}:∀{T:List aI}{V7:List ag}{a:Nat}{k:aI->Option ag},T.Nodup->T[a]?=Z f->V7[a]?=Z v->b f≠Z .local->
  bindC b (T.zip V7) k f=Z v
 |[],_,_,_,_,c,_,_=>by simp at c
 |_::_,[],_,_,_,_,c,_=>by simp at c
 |q::T,l::V7,0,k,ao,A,E,d=>by
  simp at A E;subst A;subst E;show bindC b ((q,l)::T.zip V7) k q=_;unfold bindC;rw[HH λv e=>(iw.mp ao).1 (sh e).1,aP d];simp
 |q::T,l::V7,a+1,k,ao,A,E,d=>by
  show bindC b ((q,l)::T.zip V7) k f=_;unfold bindC;exact Ej (a:=a) (iw.mp ao).2 ⇑A ⇑E d
def start(WM:List aI)(V7:List ar):a9:=(V7.map Z++List.replicate (WM.length-V7.length) Y)
def mV(y:k1)(T:bS)(l:bA)(V8:Φ)(aE:aI->Option ag)(Wi:a_)(WM:List aI)(Xe:aI)(WB:hQ)(x:aj)(a:ag)(P:bH)(WX:List fE)(j:au)(m:aG)(Wa:ho):aR where
 prog:=T
 w:=l
 K:=V8
 aE:=aE
 base:=Wi
 A:=P.deeper (kE Xe WB j.heap.objs.size x a)
 N:=WM
 fS:=j
 pG:=m
 env:=kE Xe WB j.heap.objs.size x a
 outer:=WX
 stack:=kE Xe WB j.heap.objs.size x a::WX
 ex:=[]
 calm:=aa
 fn:=λ_=>aa
 l6:=[]
 dc:=λe V9=>wpAny (aV T l) (P.deeper<|kE Xe WB j.heap.objs.size x a) (leaving (kE Xe WB j.heap.objs.size x a) e) (λ_ b=>y WX m j Wa e b) (λc b=>y WX m j Wa c b) V9
def Jo{B:hQ}(c:B.names.lookup f=Z .cell):∃h,(AO r B.names []).lookup f=Z h:=by
 have p:=D9 B.names r [] (.inl c);exact Cs.mp p
def Kz{x:aj}{s:ag}{WX:List fE}{w:au}{Wa:ho}(Wo:pg WM Wk WB)(hd:P.handled=Y)(b:wc T l V8 aE Wi P WX j m)(H:V7.length=Wk.length)(u:b1 V7 Wy)(f:InCallC j j.heap.objs.size (bindL (kE Xe WB j.heap.objs.size x s).kindOf (Wk.zip Wy) λ_=>Y) (AO (j.heap.objs.size+1) WB.names []) (bindC (kE Xe WB j.heap.objs.size x s).kindOf (Wk.zip Wy) λ_=>Y) w):
  aK (mV y T l V8 aE Wi WM Xe WB x s P WX j m Wa) [] (start WM V7) m w:=by
 have I:Wk.length<=WM.length:=by have:=congrArg List.length Wo.pre;rw[gK]at this;lia
 let⟨A,@WN,rfl,z⟩:=f.done;have t:∀d:aj,d∉(mV y T l V8 aE Wi WM Xe WB x s P WX j m Wa).ex:=λd k=>absurd (show d∈([]:List aj) from k) ↥0;refine⟨⟨b.mod,Wo.kind,rfl,rfl,bb _,λC k h A E=>?_,λC i=>?_,λC h W c=>?_,λ_=>hd,bH.frames_deeper b.frames,.inr ⟨rfl,rfl⟩,λd k=>absurd k<|t d,b.bs,b.mq,λd W W=>t d,λd k=>absurd k<|t d,b.j2,b.o4⟩,
  rfl,b.bare,fY.kept z,⟨_,f.toInCall.ns,λa C v A E L=>?_⟩,λC h c=>⟨_,f.cell C h c⟩,b.bg.fresh<|bb _,λC h c=>?_,λq o=>absurd (show q∈([]:List (aj×bk)) from o) ↥0,b.bg.kept z,?_⟩
 ·exact name_of_addr f.apart (PySem.mem_of_lookup A) (PySem.mem_of_lookup E)
 ·have i:WB.names.lookup C=Z .cell\/WB.names.lookup C=Z .free:=i;rcases i with i|i
  ·exact Jo i
  ·exact absurd rfl (Wo.KY _<|PySem.mem_of_lookup i)
 ·exact oJ (f.above C h<|PySem.mem_of_lookup c)
 ·have S:a<V7.length:=by
   unfold start at E;by_cases S:a<V7.length
   ·exact S
   ·rw[kM ⇑S]at E;rw[List.getElem?_replicate]at E;split at E<;>cases E
  have F:V7[a]?=Z v:=by
   unfold start at E;rw[jN ⇑S,fp]at E;cases e:V7[a]? with
   |none=>rw[e]at E;cases E
   |some g=>rw[e]at E;cases E;rfl
  let⟨@J,B,G⟩:=u.get F;have o:Wk[a]?=Z C:=by
   rw[<-Wo.pre,List.getElem?_take_of_lt ⋯];exact A
  have D:Wk.Nodup:=by rw[<-Wo.pre];exact Wo.ao.sublist (rS _ _)
  refine⟨J,G,?_⟩;rcases Wo.par C (fH o) with n|n
  ·exact .inl ⟨n,Iy D o B n⟩
  ·let⟨@h,e⟩:=Jo (r:=j.heap.objs.size+1) n;refine .inr ⟨.inl n,h,e,?_⟩;have p:=f.cell C h e;rw[Ej D o B (by show WB.names.lookup C≠_;rw[n];decide)]at p;exact p
 ·exact b.bg.fresh (oJ<|f.above C h<|PySem.mem_of_lookup c)
 ·unfold start;show _=WM.length;rw[b_,aZ,List.length_replicate];lia
def PX{x:aj}{name:aI}{h:Arguments}{q ct i WT M ck E:ag}{k A:Option aj}{S:Array (Option ag)}{et:da}(lk:V8.lookup x=Z ⟨E,A,.func<|Ξ name Xe h Xl WB q ct i WT k M ck,S⟩)(z:Δ V8 M Xe=aa)(Wo:pg WM Wk WB)(len:∀V7 m G Wa,et V7 m G Wa->V7.length=Wk.length)(D:∀(P:bH) (WX:List fE) (j:au) (m:aG) (V7:List ar) (G:c5) (Wa:ho),fg n (P.deeper<|kE Xe WB j.heap.objs.size x M)->et V7 m G Wa->
   ∃B,i4 (mV y T l V8 aE Wi WM Xe WB x M P WX j m Wa) Xl B/\B {bf:=λ_ V6=>G .a6 V6,eI:=G} (start WM V7) m):
  i8 T l V8 aE Wi y (n+1) x (Ξ name Xe h Xl WB q ct i WT k M ck) Wk et:=by
 refine⟨len,λP WX j m args Wy V7 G Wa c a F u s=>?_⟩;have I:=len _ _ _ _ s;have t:V8.In j.heap:=a.mod.vs.keeps λd o e=>(a.bs d o e).1;have L:j.heap.NoLimit:=a.mod.nolimit.keeps λd o e=>(a.bs d o e).1;have N:∀C∈Wk.zip Wy,WB.names.lookup C.1=Z .local\/(WB.names.lookup C.1=Z .cell/\((AO (j.heap.objs.size+1) WB.names []).lookup C.1).isSome=aa):=λ⟨r,v⟩ O=>by
  rcases Wo.par r (sh O).1 with p|p
  ·exact .inl p
  ·exact .inr ⟨p,D9 _ _ _<|.inl p⟩
 refine codeAny_call_function c.depth (t _ _ lk) rfl Wo.co Wo.gen rfl (PySem.W.codeRec_of t z) (F _ _ _ _ ?_);refine wpAny_newFunctionEnv_cells Wo.kind N λWc R w f=>?_;subst R;refine⟨L.keeps f.toInCall.keep,codeAny_func ?_⟩;let⟨@B,br,U⟩:=D P WX j m V7 G Wa (c.deeper _) s;have H:aK (mV y T l V8 aE Wi WM Xe WB x M P WX j m Wa) [] (start WM V7) m w:=Kz Wo c.hd a I u f;refine iz (br [] w (start WM V7) m _ H U) (λaW V9 Wd=>?_) λe V9 Wd=>Wd;have fin:∀{b:a9}{V6:aG}{v:ar}{J:ag},aK (mV y T l V8 aE Wi WM Xe WB x M P WX j m Wa) [] b V6 V9->cG v J->G v V6->xO WX T l m j G J V9:=
  λ{b V6 v J} Xg g p=>⟨v,V6,Xg.os,Xg.bare,Xg.base,Xg.bg,g,p⟩;cases aW with
 |ret J=>
  let⟨v,b,@V6,Xg,g,p⟩:=Wd;exact fin Xg g p
 |next=>
  let⟨b,@V6,Xg,p⟩:=Wd;exact fin (v:=ar.a6) (J:=ag.none) Xg rfl p
 |brk=>
  let⟨V,@V,V,p⟩:=Wd;exact False.elim p
 |cont=>
  let⟨V,@V,V,p⟩:=Wd;exact False.elim p
section
variable{b:aR}{f:aI}{q Wq:Pos}{e:bF}{V_:List bF}{B:fQ}{id F:String}{u:List ar->aG->c5->Prop}
def Jz(u:List ar->aG->c5->Prop)(B:fQ):cj:=(λD m G=>B D m λV7 Wh=>u V7 Wh G)
def HG(a:fl b (.builtin id) u)(d:e6 b f)(g:b.aE f=Y)(h:fy f=Z (.builtin id))(i:iy b (e::V_) B)(k:f ≠ "__name__" := by decide)(l:(f==("__debug__" : aI))=aw:=by decide)(n:b5 (e::V_) b.env=(aw,cE e b.env)::b5 V_ b.env:=by rfl)(o:(hj Wq<|b5 V_ b.env).any (·.1)=aw:=by rfl):bU b (.Call (.Name f q) (e::V_) [] Wq) (Jz u B):=by
 intro R j D m G H c;refine q7 (mx H d g h ?_ k l);exact ER (b6 (i Wq R j D m _ H c) λWy p ⟨V7,Wh,r,s,t⟩=>a R p D Wh V7 Wy G r s t) n o
def Uu(a:fl b (.type F) u)(d:e6 b f)(g:b.aE f=Y)(h:fy f=Z (.type F))(i:iy b (e::V_) B)(k:f ≠ "__name__" := by decide)(l:(f==("__debug__" : aI))=aw:=by decide)(n:b5 (e::V_) b.env=(aw,cE e b.env)::b5 V_ b.env:=by rfl)(o:(hj Wq<|b5 V_ b.env).any (·.1)=aw:=by rfl):bU b (.Call (.Name f q) (e::V_) [] Wq) (Jz u B):=by
 intro R j D m G H c;refine q7 (mx H d g h ?_ k l);exact p2 (b6 (i Wq R j D m _ H c) λWy p ⟨V7,Wh,r,s,t⟩=>a R p D Wh V7 Wy G r s t) n o
end
end L2
namespace dK
open PyProof.Rows
variable{S M:Option Int}{z cC:ag}{aO B:aj}{G:ag->au->Prop}
theorem N2(P:bH)(j:au)(g:Int)(B:iv)(h:Int)(J:iv)(Wf:bS)(l:bA)(Wa:ag->au->Prop)(G:ag->au->Prop)(c:G (.bool<|decide (g<h)) j):
  wpAny (aV Wf l) P (oG .Lt (.int g B)<|.int h J) G Wa j:=
 (T7 c:wpAny (aV Wf l) P (ey .Lt (.int g B)<|.int h J) G Wa j)
section
open PySem.SeqAt
open PySem.AutoSeq1 (wpAny_loadPart')
open PySem.MeetsSeq PySem.MeetsSeq2 PySem.MeetsSeq3
end
section
variable{Wf:bS}{l:bA}{P:bH}{Wa:ag->au->Prop}{j:au}
def TO{d:aj}{V7 H:List ag}(br:oI j.heap B V7.toArray)(p:oI j.heap d H.toArray)(f:V7≠[])(A:H=[]->G (.ref B) j)(E:H≠[]->G (.ref j.heap.objs.size) {j with heap:=j.heap.push {cls:=.type "tuple",data:=.seq (V7++H).toArray} })(q:V7.length+H.length<=sizeLine):wpAny (aV Wf l) P (g7 .Add (.ref B)<|.ref d) G Wa j:=by
 let⟨@⟨cls,g,data,aO⟩,a,h,⟨@r,hd⟩⟩:=id br;let⟨@⟨s,i,data2,k⟩,b,m,⟨@n,o⟩⟩:=id p;simp only at h hd m o;subst h hd m o;have e:V7.toArray++H.toArray=(V7++H).toArray:=by simp
 by_cases c:H=[]
 ·exact xu ⟨_,a,rfl⟩ ⟨_,b,rfl⟩ Ad xx xW y5 (Bf _ _)
   (tuple_addW1 B d V7.toArray H.toArray r n g i aO k ⇑f (by simp[c])) ⟨a,b,A c⟩
 ·refine xu ⟨_,a,rfl⟩ ⟨_,b,rfl⟩ Ad xx xW y5 (Bf _ _)
   (tuple_addW2 B d V7.toArray H.toArray r n g i aO k ⇑f ⇑c (by rw[cV,cV];exact q)) ⟨a,b,?_⟩;rw[e];exact E c
def cz(r s:Nat):Option Int->Nat
 |none=>s
 |some v=>if v<0 then (v+(r:Int)).toNat else min v.toNat r
def HI(r s:Nat):cz r s Y=s:=rfl
def HQ(r s n:Nat):cz r s (Z (n:Int))=min n r:=by
 show (if (n:Int)<0 then ((n:Int)+(r:Int)).toNat else min (n:Int).toNat r)=min n r;rw[aP ⋯,p0]
def RZ(r s:Nat)(hd:s<=r)(o:Option Int):cz r s o<=r:=by
 cases o with
 |none=>exact hd
 |some v=>
  show (if v<0 then (v+(r:Int)).toNat else min v.toNat r)<=r;by_cases a:v<0
  ·rw[aJ a];lia
  ·rw[aP a];exact Nat.min_le_right _ _
def JF(v:Int)(r s:Nat):(if v<0 then max (v+(r:Int)) 0 else min v (r:Int))=((cz r s (Z v):Nat):Int):=by
 show (if v<0 then max (v+(r:Int)) 0 else min v (r:Int))=(((if v<0 then (v+(r:Int)).toNat else min v.toNat r):Nat):Int);by_cases a:v<0
 ·simp only[aJ a];lia
 ·simp only[aP a];lia
def Pf(M S:Option Int)(r:Nat):bl.Slice.sliceAdjust M S 1 (r:Int)=(((cz r 0 M:Nat):Int),((cz r r S:Nat):Int)):=by
 have A:¬ ((1:Int)<0):=⋯
 unfold bl.Slice.sliceAdjust;simp only[A,gf];refine E0 ?_ ?_
 ·cases M with
  |none=>rfl
  |some v=>exact JF v r 0
 ·cases S with
  |none=>rfl
  |some v=>exact JF v r r
def Oj(a i:Nat):bl.Slice.slicePlaces (a:Int) (i:Int) 1=i-a:=by
 unfold bl.Slice.slicePlaces;have A:(1:Int)>0:=⋯
 simp only[A,iu,HJ];split<;>lia
def Im{v:ag}{o:Option Int}{G:Option Int->au->Prop}(q:lI v o)(c:G o j):wpAny (aV Wf l) P (bl.Slice.slicePartIndex v) G Wa j:=by
 cases q with
 |none=>exact wR c
 |int a B=>exact JM c
def H9{r:Nat}{G:Int×Int×Nat->au->Prop}(Wd:j.heap.IsSliceOf aO cC z .none)(bI:lI cC M)(d:lI z S)(c:G (((cz r 0 M:Nat):Int),1,cz r r S-cz r 0 M) j):wpAny (aV Wf l) P (bl.Slice.sliceApplied (.ref aO)<|pure (r:Int)) G Wa j:=by
 let⟨@Q,a,e,b⟩:=id Wd;unfold bl.Slice.sliceApplied bl.Slice.sliceFields;refine aA (aA<|hB a b (x:=cC) rfl<|aA<|hB a b (x:=z) rfl<|aA<|hB a b (x:=.none) rfl<|aU ?_);refine aA (wR ?_);show wpAny _ _ (if ((1:Int)==0)=aa then _ else _) _ _ j;rw[aP ∅];refine aA (Im bI<|aA<|Im d<|aA<|aU ?_);show wpAny _ _ (match bl.Slice.sliceAdjust M S 1 (r:Int) with|(M,S)=>pure (M,(1:Int),bl.Slice.slicePlaces M S 1)) _ _ j;rw[Pf M S r];show wpAny _ _ (pure (((cz r 0 M:Nat):Int),(1:Int),bl.Slice.slicePlaces ((cz r 0 M:Nat):Int) ((cz r r S:Nat):Int) 1)) _ _ j;rw[Oj];exact aU c
def N_(w:Array ag)(a n:Nat):((range n).filterMap λ(k:Nat)=>w[((a:Int)+(k:Int)*1).toNat]?).toArray=((w.toList.drop a).take n).toArray:=by
 have e:(λ(k:Nat)=>w[((a:Int)+(k:Int)*1).toNat]?)=λk=>w[a+k]?:=by
  funext k;have:((a:Int)+(k:Int)*1).toNat=a+k:=⋯
  rw[this]
 rw[e];have:=pick_run w a n;rw[H6]at this;have b:((λf=>w[f]?) ∘ λf=>a+f)=λk=>w[a+k]?:=rfl;rw[b]at this;rw[this]
def Rq{Wr:Array ag}(br:oI j.heap B Wr)(Wd:j.heap.IsSliceOf aO cC z .none)(bI:lI cC M)(b:lI z S)(d:¬ (cz Wr.size 0 M=0/\cz Wr.size Wr.size S=Wr.size))(c:G (.ref j.heap.objs.size) {j with heap:=j.heap.push {cls:=.type "tuple",data:=.seq ((Wr.toList.drop<|cz Wr.size 0 M).take<|cz Wr.size Wr.size S-cz Wr.size 0 M).toArray} })(i:Wr.size<=sizeLine):wpAny (aV Wf l) P (lR (.ref B)<|.ref aO) G Wa j:=by
 have a:sizeOk (.seq ((Wr.toList.drop<|cz Wr.size 0 M).take<|cz Wr.size Wr.size S-cz Wr.size 0 M).toArray):=by
  show ((Wr.toList.drop<|cz Wr.size 0 M).take<|cz Wr.size Wr.size S-cz Wr.size 0 M).toArray.size<=sizeLine;rw[cV,gK,f9,eb];lia
 have m:cz Wr.size Wr.size S<=Wr.size:=RZ _ _ (bb _) S;let⟨@Q,e,f,n⟩:=id Wd;have g:j.TypeIs (.ref aO) "slice" := ⟨Q,e,f⟩;unfold lR;try with_reducible refine fK ?_
 first|refine aA (aU ?_)|skip
 refine aA (zA br.typeIs ∅ ?_);refine aA (lG (name:=aI.ofString "__getitem__") br.typeIs mR
  (j4 mR br.typeIs AS ?_<|zS _ _));show wpAny _ _ (bl.Tuple.tupleItemsOf (.ref B) >>= _) _ _ j;refine aA (Al br ?_);refine aA (wpAny_typeOf g ?_);rw[aJ ∅];refine aA (H9 Wd bI b ?_);have h:¬ ((((cz Wr.size 0 M:Nat):Int)==0&&(1:Int)==1&&(cz Wr.size Wr.size S-cz Wr.size 0 M)==Wr.size)=aa):=by
  intro p;rw[cy,cy]at p;have o:((cz Wr.size 0 M:Nat):Int)=0:=eq_of_beq p.1.1;have q:cz Wr.size Wr.size S-cz Wr.size 0 M=Wr.size:=eq_of_beq p.2;exact d ⟨⋯,⋯⟩
 show wpAny _ _ (if (((cz Wr.size 0 M:Nat):Int)==0&&(1:Int)==1&&(cz Wr.size Wr.size S-cz Wr.size 0 M)==Wr.size)=aa then _ else _) _ _ j;rw[aP h,N_];first
  | exact aA (m:=bl.Tuple.tupleExact _) (hD (aU ⟨_,rfl,aU c⟩) a)
  | exact aA (m:=bl.Tuple.tupleExact _) (hD (aA<|aU<|aU ⟨_,rfl,aU c⟩) a)
  | exact aA (aA (m:=bl.Tuple.tupleExact _)<|hD (aU<|aU ⟨_,rfl,aU c⟩) a)
  | exact aA (aA (m:=bl.Tuple.tupleExact _)<|hD (aU ⟨_,rfl,aU c⟩) a)
end
end dK
namespace L2
open Spec PyProof.Rows
variable{U:a_}{G:ag->au->Prop}{V6 m:aG}{Wm:List (List ae×ar)}{l:bA}{T:bS}{o:Option ar}{WJ r:Nat}{y Wl Wy:List ag}{q:aj}{j:au}{D:a9}{R:List (aj×bk)}{u:cf}{Ww:Type}{a:Int}{w:List (List ae×aj×ag)}
abbrev dn:=a9->aG->(Option Int->aG->Prop)->Prop
def Ek(b:aR)(e:Option bF)(B:dn)(R:List (aj×bk)):Prop:=(
 ∀(j:au) (D:a9) (m:aG) (G:Option Int->aG->Prop),aK b R D m j->B D m G->
  wpAny (aV b.prog b.w) b.A (evalPart e b.env) (λJ V9=>∃o V6,aK b R D V6 V9/\lI J o/\G o V6) b.dc j)
def qc(b:aR)(e:Option bF)(B:dn):Prop:=(∀R,Ek b e B R)
def N3:dn:=(λ_ m G=>G Y m)
def KH(B:cj):dn:=(λD m G=>B D m λf Wh=>∃a,f=.int a/\G (Z a) Wh)
section
variable{b:aR}{e:bF}{Xd:cj}{M S:Option bF}{Xm qm:dn}{Wq W4:Pos}
def Td:qc b Y N3:=by
 intro R j D m G H c;rw[A0];exact aU ⟨Y,m,H,.none,c⟩
def SH(c:bU b e Xd):qc b (Z e) (KH Xd):=by
 intro R j D m G H d;rw[BO];refine b6 (c R j D m _ H d) λJ l g=>?_;let⟨f,@Wh,h,i,k⟩:=g;let⟨@a,rfl,p⟩:=k;let⟨@B,rfl⟩:=i;exact⟨Z a,Wh,h,.int a B,p⟩
def sY(b:aR)(u:ar->Option Int->Option Int->aG->c5->Prop):Prop:=(
 ∀(R:List (aj×bk)) (j:au) (D:a9) (m:aG) (f:ar) (v cC z:ag) (M S:Option Int) (aO:aj) (G:c5),aK b R D m j->cG f v->j.heap.IsSliceOf aO cC z .none->lI cC M->lI z S->u f M S m G->
  ∃F id,vk (.type F) "__getitem__" = pure (Z<|.builtin id)/\j.TypeIs v F/\wpAny (aV b.prog b.w) b.A (lR v<|.ref aO) (e4 b R D G) b.dc j)
def Q2(u:ar->Option Int->Option Int->aG->c5->Prop)(Xd:cj)(Xm qm:dn):cj:=(λD m G=>Xd D m λf Wh=>Xm D Wh λt Ws=>qm D Ws λJ a=>u f t J a G)
def Nh{u:ar->Option Int->Option Int->aG->c5->Prop}(i:sY b u)(k:bU b e Xd)(n:qc b M Xm)(o:qc b S qm):bU b (.Subscript e (.Slice M S Y W4) Wq) (Q2 u Xd Xm qm):=by
 intro R j D m G H c;refine yc (b6 (k R j D m _ H c) λv q g=>?_);let⟨f,@Wh,r,s,x⟩:=g;refine wpAny_Slice (b6 (n R q D Wh _ r x) λcC y ⟨t,Ws,B,bI,C⟩=>b6 (o R y D Ws _ B C) λz a g=>?_);let⟨J,@h,E,I,L⟩:=g;rw[A0];refine aU ?_;have N:aK b R D h {a with heap:=a.heap.push {cls:=.type "slice",data:=.fields #[cC,z,.none]} }:=E.kept (WJ:=a.toks) λd T p=>cv _ p;let⟨F,@id,O,br,Q⟩:=i R {a with heap:=a.heap.push {cls:=.type "slice",data:=.fields #[cC,z,.none]} } D h f v cC z t J a.heap.objs.size G N s (a_.IsSliceOf.new ..) bI I L;show wpAny (aV b.prog b.w) b.A (AN e (.Slice M S Y W4) v<|.ref a.heap.objs.size) (e4 b R D G) b.dc {a with heap:=a.heap.push {cls:=.type "slice",data:=.fields #[cC,z,.none]} };exact z0 (ops:=[.ref a.heap.objs.size,v]) br O Q (by with_unfolding_all rfl)
def n9(w:List ar)(M S:Option Int):List ar:=((w.drop<|dK.cz w.length 0 M).take (dK.cz w.length w.length S-dK.cz w.length 0 M))
def Df(w:List ar)(M S:Option Int):(n9 w M S).length<=w.length:=by
 unfold n9;rw[gK,f9];lia
def Nk(V8:Φ):ar->Option Int->Option Int->aG->c5->Prop:=(λf M S m G=>∃g w,f=.ref g/\cD V8 m g w/\
 ¬ (dK.cz w.length 0 M=0/\dK.cz w.length w.length S=w.length)/\∀q,m q=Y->G (.ref q) (upd m q<|.tup<|n9 w M S))
def Qt:sY b (Nk b.K):=by
 intro R j D m f v cC z M S aO G H h Wd bI i c;let⟨g,@w,rfl,k,l,p⟩:=c;cases h;let⟨@Wl,u,br,e⟩:=H.tuple k;have a:Wl.toArray.size=w.length:=by rw[cV];exact u.length.symm
 refine⟨"tuple",_,mR.lookup,br.typeIs,?_⟩;refine dK.Rq br Wd bI i (by rw[a];exact l) ?_ (by rw[a];exact e);rw[a];refine⟨.ref j.heap.objs.size,_,H.laid (WJ:=j.toks) (o:=.tup (n9 w M S)) (λd n p=>cv _ p) (bb _) ?_,rfl,p _<|H.bg.fresh<|bb _⟩;exact⟨fu (Df w M S) e,_,(u.drop<|dK.cz w.length 0 M).take<|dK.cz w.length w.length S-dK.cz w.length 0 M,mH.new _ _⟩
def NH(V8:Φ):cf:=(λf C m G=>∃g d w Wn,f=.ref g/\C=.ref d/\cD V8 m g w/\cD V8 m d Wn/\w≠[]/\w.length+Wn.length<=sizeLine/\
 (Wn=[]->G (.ref g) m)/\(Wn≠[]->∀q,m q=Y->G (.ref q) (upd m q<|.tup<|w++Wn)))
def b1.w7{w:List ar}(u:b1 w Wy):Wy=[]↔w=[]:=by
 cases u with
 |nil=>simp
 |cons _ _=>simp
def QG:eo b (g7 .Add) (NH b.K):=by
 intro R j D m f C v J G H k n c;let⟨g,d,w,@Wn,rfl,rfl,q,r,s,i,t,u⟩:=c;cases k;cases n;let⟨@Wl,h,x,W⟩:=H.tuple q;let⟨@y,e,W4,W⟩:=H.tuple r;refine dK.TO x W4 (λa=>s<|h.w7.mp a) (λa=>⟨.ref g,m,H,rfl,t<|e.w7.mp a⟩) (λa=>?_) (by rw[<-h.length,<-e.length];exact i);refine⟨.ref j.heap.objs.size,_,H.laid (WJ:=j.toks) (o:=.tup (w++Wn)) (λd z p=>cv _ p) (bb _) ?_,rfl,u (λl=>a<|e.w7.mpr l) _<|H.bg.fresh<|bb _⟩;exact⟨by rw[b_];exact i,_,h.append e,mH.new _ _⟩
end
def kK(r:Nat)(a:Int):Option Nat:=(if 0<=a then (if a<r then Z a.toNat else Y) else if -(r:Int)<=a then Z (a+r).toNat else Y)
def dv{Ww:Type}(w:List Ww)(a:Int):Option Ww:=((kK w.length a).bind λi=>w[i]?)
def IX{i:Nat}(c:kK r a=Z i):yP a r=Z i/\i<r /\ -(r:Int)<=a/\a<r:=by
 unfold kK at c;by_cases b:0<=a
 ·rw[aJ b]at c;by_cases A:a<r
  ·rw[aJ A]at c;have e:a.toNat=i:=Option.some.inj c;exact⟨by rw[vx b A,e],⋯,⋯,A⟩
  ·rw[aP A]at c;cases c
 ·rw[aP b]at c;by_cases A : -(r:Int)<=a
  ·rw[aJ A]at c;have e:(a+r).toNat=i:=Option.some.inj c;exact⟨by rw[xN ⋯ A,e],⋯,A,⋯⟩
  ·rw[aP A]at c;cases c
def GB{w:List Ww}{v:Ww}(c:dv w a=Z v):∃i,yP a w.length=Z i/\w[i]?=Z v/\i<w.length /\ -(w.length:Int)<=a/\a<w.length:=by
 unfold dv at c;cases e:kK w.length a with
 |none=>rw[e]at c;cases c
 |some i=>
  rw[e]at c;let@⟨A,E,b,d⟩:=IX e;exact⟨i,A,c,E,b,d⟩
def vA(d:bF):Prop:=(∀o a,subscripted d aw o a=operate [o,a] (lR o a))
def jG(b:aR)(u:cf):Prop:=(
 ∀(k a:bF) (R:List (aj×bk)) (j:au) (D:a9) (m:aG) (f C:ar) (v J:ag) (G:c5),aK b R D m j->cG f v->cG C J->u f C m G->
  subscripted a aw v J=operate [v,J] (lR v J)->wpAny (aV b.prog b.w) b.A (AN k a v J) (e4 b R D G) b.dc j)
def Av(b:aR)(id:String)(u:ar->List ar->aG->c5->Prop):Prop:=(
 ∀(R:List (aj×bk)) (j:au) (D:a9) (m:aG) (f:ar) (w:List ar) (v:ag) (Wy:List ag) (G:c5),aK b R D m j->cG f v->b1 w Wy->u f w m G->
  wpAny (aV b.prog b.w) b.A (call (.builtin id) (v::Wy)) (e4 b R D G) b.dc j)
section
variable{b:aR}{g d:bF}{W0 Xf:cj}{Wq:Pos}
def jG.or{W3:cf}(c:jG b u)(U:jG b W3):jG b (λf C m G=>u f C m G\/W3 f C m G):=by
 intro k a R j D m f C v J G H d e p Wd;rcases p with p|p
 ·exact c k a R j D m f C v J G H d e p Wd
 ·exact U k a R j D m f C v J G H d e p Wd
def Py(a:jG b u)(e:bU b g W0)(h:bU b d Xf)(Wd:vA d):bU b (.Subscript g d Wq) (wQ u W0 Xf):=by
 intro R j D m G H c;exact yc (Aj e h H c λv J i f C Ws k l n p=>a g d R i D Ws f C v J G k l n p<|Wd _ _)
def Px(V8:Φ):cf:=(λf C m G=>∃q w a v,f=.ref q/\C=.int a/\dC V8 m q w/\dv w a=Z v/\G v m)
def OB(V8:Φ):cf:=(λf C m G=>∃q w a v,f=.ref q/\C=.int a/\cD V8 m q w/\dv w a=Z v/\G v m)
def Vi:jG b (Px b.K):=by
 intro k F R j D m f C v J G H h n c Wd;let⟨q,w,a,@o,rfl,rfl,r,s,p⟩:=c;cases h;let⟨@B,rfl⟩:=n;let⟨@Wl,u,bI,I⟩:=H.list r;let⟨@i,A,E,L,t,x⟩:=GB s;let⟨@l,e,y⟩:=u.get E;have z:=u.length;have M:=oe;have fin:e4 b R D G l j:=⟨o,m,H,y,p⟩;by_cases g:0<=a
 ·have d:a.toNat=i:=by
   rw[vx g x]at A;exact Option.some.inj A
  exact item_listR bI.isList g ⋯ (by rw[d];simpa using e) fin Wd
 ·have d:(a+(Wl.toArray.size:Int)).toNat=i:=by
   rw[xN ⋯ t]at A;rw[cV,<-z];exact Option.some.inj A
  exact Ce (x:=l) bI.isList.typeIs B4.lookup
   (wpAny_getItem_list_neg (Q:=λu V9=>u=l/\e4 b R D G u V9) bI.isList ⋯ (by rw[cV]<;>lia) ⋯ (by rw[d];simpa using e) ⟨rfl,fin⟩) Wd
def Q1:jG b (OB b.K):=by
 intro k t R j D m f C v J G H d e c Wd;let⟨q,w,a,@g,rfl,rfl,h,n,p⟩:=c;cases d;let⟨@B,rfl⟩:=e;let⟨@Wl,u,bI,x⟩:=H.tuple h;let⟨@i,A,E,y,z,F⟩:=GB n;let⟨@l,o,r⟩:=u.get E;have s:=u.length;have I:=oe;have fin:e4 b R D G l j:=⟨g,m,H,r,p⟩;exact Ce (x:=l) bI.typeIs slot_tuple_getitem.lookup
  (getItem_tuple (j:=i) (Q:=λu V9=>u=l/\e4 b R D G u V9) bI ⋯ ⋯ (by rw[cV,<-s];exact A) ⇑o ⟨rfl,fin⟩) Wd
def PN(Wl:List ag)(r i:Nat)(J:ag):bk.mapSeq (·.setIfInBounds i J) {cls:=.type "list",data:=.seq Wl.toArray r}={cls:=.type "list",data:=.seq (Wl.set i J).toArray r}:=by
 simp[bk.mapSeq]
variable{w:List ar}
def aK.lst(H:aK b R D m j)(c:m q=Z (.lst w)):
  ∃(Wl:List ag) (r:Nat),b1 w Wl/\j.heap.get? q=Z {cls:=.type "list",data:=.seq Wl.toArray r}/\w.length<=sizeLine:=by
 let@⟨a,⟨Wl,@r,u,e⟩⟩:=H.bg q _ c;exact⟨Wl,r,u,e,a⟩
def aK.UT{Wn:List ar}{a:Nat}{x:bk->bk}(H:aK b R D m j)(c:m q=Z (.lst w))(h:j.heap.get? q=Z {cls:=.type "list",data:=.seq Wl.toArray r})(g:x {cls:=.type "list",data:=.seq Wl.toArray r}={cls:=.type "list",data:=.seq y.toArray a})(u:b1 Wn y)(i:Wn.length<=sizeLine)(B:Nat):
  aK b R D (upd m q<|.lst Wn) {j with heap:=j.heap.update q x,toks:=B}:=by
 have e:(j.heap.update q x).get? q=Z {cls:=.type "list",data:=.seq y.toArray a}:=by
  rw[pJ x h (by rw[g]<;>rfl),g]
 refine H.write (f:=q) (e:=q) (by rw[c];trivial) (.inl rfl) (λd J k p=>(lP _ _<|g6 k).trans p) ⟨_,e⟩ ?_;exact⟨i,y,a,u,e⟩
def Sg:ar->ar->ar->aG->(aG->Prop)->Prop:=(λo a v m G=>∃q w n i,o=.ref q/\a=.int n/\m q=Z (.lst w)/\kK w.length n=Z i/\G (upd m q<|.lst<|w.set i v))
def QU:xy b Sg:=by
 intro R j D m o a v F I J G H k x y c;let⟨q,w,n,@i,rfl,rfl,g,z,p⟩:=c;cases k;let⟨@B,rfl⟩:=x;let⟨Wl,@r,u,d,C⟩:=H.lst g;let@⟨A,E,h,l⟩:=IX z;have e:=u.length;have L:=oe;have s:aK b R D (upd m q<|.lst<|w.set i v) {j with heap:=j.heap.update q (bk.mapSeq (·.setIfInBounds i J))}:=
  H.UT g d (PN Wl r i J) (u.set y i) (by rw[zU];exact C) j.toks;by_cases t:0<=n
 ·have f:n.toNat=i:=by
   rw[vx t l]at A;exact Option.some.inj A
  exact PySem.W.ki_setAt d t ⋯ (by rw[cV,<-e];exact l) (by rw[f];exact⟨_,s,p⟩)
 ·have f:(n+(Wl.toArray.size:Int)).toNat=i:=by
   rw[xN ⋯ h]at A;rw[cV,<-e];exact Option.some.inj A
  exact PySem.W.ki_setBack d ⋯ (by rw[cV,<-e];exact h) ⋯ (by rw[f];exact⟨_,s,p⟩)
def NM(M S:Option Int)(r:Nat):(om M S Y r).1=((dK.cz r 0 M:Nat):Int)/\(om M S Y r).2.1=((dK.cz r r S:Nat):Int)/\(om M S Y r).2.2=1:=by
 refine⟨?_,?_,rfl⟩
 ·cases M with
  |none=>simp[om,dK.cz]
  |some a=>
   simp only[om,dK.cz,CK,show (1:Int)>0 by decide,iu];by_cases c:a<0
   ·simp only[c,iu]<;>lia
   ·simp only[c,gf]<;>lia
 ·cases S with
  |none=>simp[om,dK.cz]
  |some a=>
   simp only[om,dK.cz,CK,show (1:Int)>0 by decide,iu];by_cases c:a<0
   ·simp only[c,iu]<;>lia
   ·simp only[c,gf]<;>lia
def R1(Wl:List ag)(M S:Option Int):slicePick Wl.toArray M S Y=((Wl.drop<|dK.cz Wl.length 0 M).take<|dK.cz Wl.length Wl.length S-dK.cz Wl.length 0 M).toArray:=by
 let@⟨A,E,a⟩:=NM M S Wl.toArray.size;unfold slicePick;rw[A,E,a];simp only[sliceRange_one,pick_run,cV]<;>rfl
def Sx(V8:Φ):ar->Option Int->Option Int->aG->c5->Prop:=(λf M S m G=>∃g w,f=.ref g/\dC V8 m g w/\∀q,m q=Y->G (.ref q) (upd m q<|.lst<|n9 w M S))
def EB:sY b (Sx b.K):=by
 intro R j D m f v cC z M S aO G H a Wd bI e c;let⟨g,@w,rfl,h,p⟩:=c;cases a;let⟨@Wl,u,br,i⟩:=H.list h;have k:=u.length;refine⟨"list",_,B4.lookup,br.isList.typeIs,?_⟩;refine wpAny_getItem_list_slice br.isList Wd bI e .none ↥0 ?_ (by rw[cV]<;>lia);rw[R1,<-k];refine⟨.ref j.heap.objs.size,_,H.laid (WJ:=j.toks) (o:=.lst (n9 w M S)) (λd l p=>cv _ p) (bb _) ?_,rfl,p _<|H.bg.fresh<|bb _⟩;exact⟨fu (Df w M S) i,_,0,(u.drop<|dK.cz w.length 0 M).take<|dK.cz w.length w.length S-dK.cz w.length 0 M,d4 _ rfl⟩
def Kh:fl b (.builtin "len") (λw m G=>∃q Wn,w=[.ref q]/\(dC b.K m q Wn\/cD b.K m q Wn)/\G (.int Wn.length) m):=by
 intro R j D m w Wy G H u c;let⟨q,@Wn,rfl,a,p⟩:=c;let⟨@J,rfl,e⟩:=iS u;cases e;have g:=oe;rcases a with a|a
 ·let⟨@Wl,W3,bI,f⟩:=H.list a;have d:=W3.length;exact Calls.call_len_list bI.isList (by simp only[cV]<;>lia) ⟨.int Wn.length,m,H.tok _,⟨j.toks+1,by rw[cV,d]⟩,p⟩
 ·let⟨@Wl,W3,bI,f⟩:=H.tuple a;have d:=W3.length;exact len_tuple bI (by simp only[cV]<;>lia) ⟨.int Wn.length,m,H.tok _,⟨j.toks+1,by rw[cV,d]⟩,p⟩
def Tw:fl b (.builtin "len") (λw m G=>∃a,w=[.str a]/\a.length<=sizeLine/\G (.int a.length) m):=by
 intro R j D m w Wy G H u c;let⟨@a,rfl,d,p⟩:=c;let⟨@J,rfl,⟨@B,rfl⟩⟩:=iS u;have e:=oe;exact len_str ⋯ ⟨.int a.length,m,H.tok _,⟨_,rfl⟩,p⟩
def fl.or{x:ag}{u W3:List ar->aG->c5->Prop}(c:fl b x u)(U:fl b x W3):fl b x (λw m G=>u w m G\/W3 w m G):=by
 intro R j D m w Wy G H rs p;rcases p with p|p
 ·exact c R j D m w Wy G H rs p
 ·exact U R j D m w Wy G H rs p
def Kv:fl b (.type "list") (λw m G=>∃q Wn,w=[.ref q]/\(dC b.K m q Wn\/cD b.K m q Wn)/\∀t,m t=Y->G (.ref t) (upd m t<|.lst Wn)):=by
 intro R j D m w Wy G H u c;let⟨q,@Wn,rfl,f,p⟩:=c;let⟨@J,rfl,k⟩:=iS u;cases k;have fin:∀(Wl:List ag),b1 Wn Wl->Wn.length<=sizeLine->∀(U:a_) (a:Nat),(∀d M,j.heap.get? d=Z M->U.get? d=Z M)->
   U.get? j.heap.objs.size=Z {cls:=.type "list",dict:=Y,data:=.seq Wl.toArray a,slots:=#[]}->e4 b R D G (.ref j.heap.objs.size) {j with heap:=U}:=λWl W3 g U a dj e=>
  ⟨.ref j.heap.objs.size,_,H.laid (WJ:=j.toks) dj (bb _)<|show fN b.prog b.w _ U _ (.lst Wn) from ⟨g,Wl,a,W3,e⟩,rfl,p _<|H.bg.fresh<|bb _⟩;rcases f with f|f
 ·let⟨@Wl,W3,bI,g⟩:=H.list f;have n:=W3.length;let⟨@o,h,i,⟨@r,hd⟩⟩:=bI.isList;exact C1 q (.inl rfl) h i hd (λU a dj e=>fin Wl W3 g U a dj e) (by simp only[cV]<;>lia)
 ·let⟨@Wl,W3,bI,g⟩:=H.tuple f;have n:=W3.length;let⟨@o,h,i,⟨@r,hd⟩⟩:=bI;exact C1 q (.inr rfl) h i hd (λU a dj e=>fin Wl W3 g U a dj e) (by simp only[cV]<;>lia)
def Sa:fl b (.type "tuple") (λw m G=>∃q Wn,w=[.ref q]/\((dC b.K m q Wn/\∀t,m t=Y->G (.ref t) (upd m t<|.tup Wn))\/(cD b.K m q Wn/\G (.ref q) m))):=by
 intro R j D m w Wy G H u c;let⟨q,@Wn,rfl,c⟩:=c;let⟨@J,rfl,h⟩:=iS u;cases h;rcases c with ⟨a,p⟩|⟨a,p⟩
 ·let⟨@Wl,W3,bI,f⟩:=H.list a;have k:=W3.length;refine call_tuple_list bI.isList (λU dj=>?_) (by simp only[cV]<;>lia);have g:aK b R D m {j with heap:=U}:=H.kept (WJ:=j.toks) dj;have i:aK b R D (upd m U.objs.size<|.tup Wn) {j with heap:=U.push {cls:=.type "tuple",data:=.seq Wl.toArray} }:=
   g.laid (WJ:=j.toks) (λd o e=>cv _ e) (bb _) (show fN b.prog b.w _ _ _ (.tup Wn) from ⟨f,Wl,W3,mH.new _ _⟩);exact⟨.ref U.objs.size,_,i,rfl,p _<|g.bg.fresh<|bb _⟩
 ·let⟨@Wl,W3,bI,f⟩:=H.tuple a;exact call_tuple_same bI ⟨.ref q,m,H,rfl,p⟩
def nz(V8:Φ)(F:String)(f:ar)(m:aG):Prop:=(match f with
 |.str _=>F = "str"
 |.int _=>F = "int"
 |.ref q=>(F = "list" /\ ∃w,dC V8 m q w)\/(F = "tuple" /\ ∃o,V8.lookup q=Z o/\o.cls=.type "tuple" /\ o.dict=Y)\/
   (F = "dict" /\ ((∃Wm,m q=Z (.ee Wm))\/∃Wm,m q=Z (.aH Wm)))\/(F = "set" /\ ∃Wo r,m q=Z (.set Wo r))
 |_=>False)
def Ge{F:String}{f:ar}{v:ag}(H:aK b R D m j)(u:cG f v)(ty:nz b.K F f m):
  j.TypeIs v F/\∀g,v=.ref g->∃k,j.heap.get? g=Z k/\k.dict=Y:=by
 cases f with
 |str d=>
  let⟨@B,rfl⟩:=u;cases (show F = "str" from ty);exact⟨typeIs_str j d B,λ_ e=>nomatch e⟩
 |int a=>
  let⟨@B,rfl⟩:=u;cases (show F = "int" from ty);exact⟨typeIs_int j a B,λ_ e=>nomatch e⟩
 |ref q=>
  cases u;rcases ty with ⟨rfl,w,l⟩|⟨rfl,o,c,n,hd⟩|⟨rfl,c⟩|⟨rfl,Wo,r,c⟩
  ·let⟨@Wl,W,bI,W⟩:=H.list l;refine⟨bI.isList.typeIs,λg e=>?_⟩;cases e;let⟨o,@r,e,h,hd,W⟩:=bI;exact⟨o,e,hd⟩
  ·refine⟨⟨o,H.oK q o c,n⟩,λg e=>?_⟩;cases e;exact⟨o,H.oK _ o c,hd⟩
  ·have d:∃o,j.heap.get? q=Z o/\o.ExactDict:=by
    rcases c with ⟨Wm,c⟩|⟨Wm,c⟩
    ·let@⟨_,_,⟨@_,_,⟨o,_,@_,e,W7,_⟩⟩⟩:=H.bg q _ c;exact⟨o,e,W7⟩
    ·let@⟨_,_,⟨@_,_,⟨o,_,@_,e,W7,_⟩⟩⟩:=H.bg q _ c;exact⟨o,e,W7⟩
   let⟨@o,e,W7⟩:=d;refine⟨⟨o,e,W7.1⟩,λg i=>?_⟩;cases i;exact⟨o,e,W7.2.1⟩
  ·let⟨o,W,W,@W,e,W7,W⟩:=H.bg q _ c;refine⟨⟨o,e,W7.1⟩,λg i=>?_⟩;cases i;exact⟨o,e,W7.2.1⟩
 |_=>exact False.elim ty
def UL(V8:Φ)(F:String)(u:ar->List ar->aG->c5->Prop)(i:cj):cj:=(λD m G=>i D m λf Wh=>nz V8 F f Wh/\u f [] Wh G)
def Ow(V8:Φ)(F:String)(u:ar->List ar->aG->c5->Prop)(i:cj)(B:fQ):cj:=(λD m G=>i D m λf Wh=>nz V8 F f Wh/\B D Wh λw Ws=>u f w Ws G)
variable{o e:bF}{V_:List bF}{i:cj}{B:fQ}{name:aI}{Xq Xk:Pos}{F id:String}{u:ar->List ar->aG->c5->Prop}
def T6(b7:v3 F)(e:Slot F name id)(g:si (.builtin id)=pure (.type "method_descriptor"))(h:Av b id u)(k:bU b o i)(l:vP o name b.env (cE o b.env)=cE o b.env:=by rfl)(n:(Xq.endLine==Xk.line)=aa:=by rfl):bU b (.Call (.Attribute o name Xq) [] [] Xk) (UL b.K F u i):=by
 intro R j D m G H c;refine wpAny_Call_method0_late l n (b6 (k R j D m _ H c) λv p q=>?_);let⟨f,@Wh,a,d,ty,r⟩:=q;let@⟨A,E⟩:=Ge a d ty;exact⟨F,id,b7,e,g,A,E,Gf rfl<|PySem.evalArgs_none<|h R p D Wh f [] v [] G a d .nil r⟩
def Kb(b7:v3 F)(k:Slot F name id)(l:si (.builtin id)=pure (.type "method_descriptor"))(n:Av b id u)(p:bU b o i)(q:iy b (e::V_) B)(r:vP o name b.env (cE o b.env)=cE o b.env:=by rfl)(s:((hj Xk<|b5 (e::V_) b.env).all (λf=>!f.1)&&(backToKw Xk<|keywordEach [] b.env).all (λf=>f.1.isSome)
   && decide ((e::V_).length+([]:List s7).length+(if ([]:List s7).isEmpty then 0 else 1)<30))=aa:=by rfl)(t:(Xq.endLine==Xk.line)=aa:=by rfl)(Wd:b5 (e::V_) b.env=(aw,cE e b.env)::b5 V_ b.env:=by rfl)(w:(hj Xk<|b5 V_ b.env).any (·.1)=aw:=by rfl):
  bU b (.Call (.Attribute o name Xq) (e::V_) [] Xk) (Ow b.K F u i B):=by
 intro R j D m G H c;refine wpAny_Call_method_late r s t rfl (b6 (p R j D m _ H c) λv x a=>?_);let⟨f,@Wh,d,g,ty,y⟩:=a;let@⟨A,E⟩:=Ge d g ty;refine⟨F,id,b7,k,l,A,E,?_⟩;have h:=q Xk R x D Wh _ d y;rw[Wd]at h ⊢;refine Gf (by show (aw || (hj Xk<|b5 V_ b.env).any (·.1))=aw;rw[w]<;>rfl) (Calls.evalArgs_plain ?_);refine b6 h λWy z a=>?_;let⟨V7,@Ws,C,I,J⟩:=a;exact n R z D Ws f V7 v Wy G C g I J
end
def x_(b:aR)(id:String)(u:ar->List ar->aG->c5->Prop):Prop:=(
 ∀(R:List (aj×bk)) (j:au) (D:a9) (m:aG) (f:ar) (w:List ar) (v:ag) (Wy:List ag) (G:c5),aK b R D m j->cG f v->b1 w Wy->u f w m G->
  wpAny (aV b.prog b.w) b.A (call (.builtin id) (v::Wy)) (e4 b R D G) b.dc j)
theorem b1.one:∀{f:ar}{Wy:List ag},b1 [f] Wy->∃J,Wy=[J]/\cG f J
 |_,_,.cons u .nil=>⟨_,rfl,u⟩
theorem b1.zero:∀{Wy:List ag},b1 [] Wy->Wy=[]
 |_,.nil=>rfl
def b1.dropLast{w:List ar}(c:b1 w Wy):b1 w.dropLast Wy.dropLast:=by
 induction c with
 |nil=>exact .nil
 |cons u B a=>
  cases B with
  |nil=>exact .nil
  |cons p WJ=>exact .cons u a
theorem b1.eraseIdx:∀{w:List ar}{Wy:List ag} (a:Nat),b1 w Wy->b1 (w.eraseIdx a) (Wy.eraseIdx a)
 |_,_,_,.nil=>.nil
 |_,_,0,.cons _ B=>B
 |_,_,a+1,.cons u B=>.cons u (b1.eraseIdx a B)
def b1.reverse{w:List ar}(c:b1 w Wy):b1 w.reverse Wy.reverse:=by
 induction c with
 |nil=>exact .nil
 |cons u B a=>rw[s9,s9];exact b1.append a (.cons u .nil)
def K3(t:List Ww):t.eraseIdx (t.length-1)=t.dropLast:=by
 induction t with
 |nil=>rfl
 |cons g u a=>
  cases u with
  |nil=>rfl
  |cons d u=>
   have e:(g::d::u).length-1=((d::u).length-1)+1:=by
    have A:(g::d::u).length=u.length+2:=rfl;have E:(d::u).length=u.length+1:=rfl;lia
   rw[e,List.eraseIdx_cons_succ,a];all_goals rfl
theorem H0{Ww:Type}:∀(t:List Ww) (a:Nat),(t.eraseIdx a).length<=t.length
 |[],_=>bb _
 |_::_,0=>CG _
 |_::u,a+1=>Nat.succ_le_succ (H0 u a)
section
variable{b:aR}{R:List (aj×bk)}{D:a9}{m:aG}{j:au}{t d:aj}{w Wn Q:List ar}
def aK.u0{x:Array ag->Array ag}(H:aK b R D m j)(a:m t=Z (.lst w))(e:j.heap.get? t=Z {cls:=.type "list",data:=.seq Wl.toArray r})(c:x Wl.toArray=y.toArray)(d:b1 Wn y)(g:Wn.length<=sizeLine):
  aK b R D (upd m t<|.lst Wn) {j with heap:=j.heap.update t (bk.mapSeq x),toks:=WJ}:=by
 have p:=Eo e x;rw[c]at p;refine H.write (f:=t) (e:=t) (by rw[a];exact trivial) (.inl rfl) (λk J h i=>(lP j.heap (bk.mapSeq x)<|g6 h).trans i) ⟨_,p⟩ ?_;exact⟨g,y,_,d,p⟩
def aK.MG(H:aK b R D m j)(a:b1 Wn Wl)(c:Wn.length<=sizeLine):
  aK b R D (upd m j.heap.objs.size<|.lst Wn) {j with heap:=j.heap.push {cls:=.type "list",data:=.seq Wl.toArray},toks:=WJ}:=
 H.laid (λ_ W p=>cv _ p) (bb _) ⟨c,Wl,0,a,d4 _ rfl⟩
def aK.fresh(H:aK b R D m j):m j.heap.objs.size=Y:=H.bg.fresh (bb _)
def aK.jc(H:aK b R D m j)(a:m t=Z (.lst w)):w.length<=sizeLine/\∃(Wl:List ag) (r:Nat),b1 w Wl/\w.length=Wl.length/\j.heap.get? t=Z {cls:=.type "list",data:=.seq Wl.toArray r}:=by
 let@⟨c,⟨Wl,@r,u,e⟩⟩:=H.bg t _ a;exact⟨c,Wl,r,u,u.length,e⟩
def Sf(c:r<=sizeLine):bl.List.listTooLong r=aw:=by
 unfold bl.List.listTooLong;exact cW ⋯
end
section
variable{b:aR}
def Kg:ar->List ar->aG->c5->Prop:=(λf V7 m G=>∃t w C,f=.ref t/\V7=[C]/\m t=Z (.lst w)/\w.length<sizeLine/\G .a6 (upd m t<|.lst<|w++[C]))
def MZ:x_ b "list.append" Kg:=by
 intro R j D m f V7 v Wy G H d g c;let⟨t,w,@C,rfl,rfl,a,i,p⟩:=c;cases d;let⟨@J,rfl,h⟩:=g.one;let@⟨z,⟨Wl,@r,u,k,e⟩⟩:=H.jc a;refine ro Gk ⟨_,e,rfl⟩ D_ (EV _ _) (Gm t Wl.toArray r J (by rw[cV];lia)) ⟨e,?_⟩;refine⟨.a6,_,H.u0 (y:=Wl++[J]) a e ↥0 (u.append<|.cons h .nil) ?_,rfl,p⟩;rw[b_,eO];lia
def Lg:ar->List ar->aG->c5->Prop:=(λf V7 m G=>∃t w C,f=.ref t/\V7=[]/\m t=Z (.lst w)/\w[w.length-1]?=Z C/\G C (upd m t<|.lst w.dropLast))
def OX:x_ b "list.pop" Lg:=by
 intro R j D m f V7 v Wy G H d g c;let⟨t,w,@C,rfl,rfl,a,h,p⟩:=c;cases d;have i:=g.zero;subst i;let@⟨z,⟨Wl,@r,u,k,e⟩⟩:=H.jc a;let⟨@J,l,n⟩:=u.get h;have o:Wl.toArray[Wl.toArray.size-1]?=Z J:=by
  show Wl.toArray[Wl.length-1]?=Z J;rw[<-fD,<-k];exact l
 refine ro Ha ⟨_,e,rfl⟩ I0 (F.args_list_pop_1 _) (MeetsSeq.list_pop_last t Wl.toArray r J o (by rw[cV];lia)) ⟨e,?_⟩;refine⟨C,_,H.u0 (y:=Wl.dropLast) a e ?_ u.dropLast ?_,n,p⟩
 ·show Wl.toArray.eraseIdxIfInBounds (Wl.toArray.size-1)=Wl.dropLast.toArray;rw[cV,Bo,K3]
 ·rw[FC];lia
def Lu:ar->List ar->aG->c5->Prop:=(λf V7 m G=>∃t w a n C,f=.ref t/\V7=[.int a]/\m t=Z (.lst w) /\ -(2^63)<=a/\a<2^63/\yP a w.length=Z n/\w[n]?=Z C/\G C (upd m t<|.lst<|w.eraseIdx n))
def Qr:x_ b "list.pop" Lu:=by
 intro R j D m f V7 v Wy G H g h c;let⟨t,w,a,n,@C,rfl,rfl,d,A,E,i,k,p⟩:=c;cases g;let⟨@J,rfl,o⟩:=h.one;let⟨@B,rfl⟩:=o;let@⟨z,⟨Wl,@r,u,q,e⟩⟩:=H.jc d;let⟨@l,s,x⟩:=u.get k;refine ro Ha ⟨_,e,rfl⟩ I0 (F.args_list_pop_2 _ _)
  (MeetsSeq.list_pop_at t Wl.toArray r a B n l (fitsIndex_both A E) (by rw[cV,<-q];exact i) (by rw[<-fD];exact s) (by rw[cV];lia)) ⟨e,?_⟩;refine⟨C,_,H.u0 (y:=Wl.eraseIdx n) d e ?_ (u.eraseIdx n) ?_,x,p⟩
 ·show Wl.toArray.eraseIdxIfInBounds n=(Wl.eraseIdx n).toArray;rw[Bo]
 ·have:=H0 w n;lia
def Mt:cf:=(λf C m G=>∃t d w Q,f=.ref t/\C=.ref d/\m t=Z (.lst w)/\m d=Z (.lst Q)/\w.length+Q.length<=sizeLine/\∀q,m q=Y->G (.ref q) (upd m q<|.lst<|w++Q))
def RL:eo b (g7 .Add) Mt:=by
 intro R j D m f C v J G H g h c;let⟨t,d,w,@Q,rfl,rfl,i,k,q,p⟩:=c;cases g;cases h;let@⟨z,⟨Wl,@r,u,s,e⟩⟩:=H.jc i;let@⟨x,⟨a,@y,l,A,n⟩⟩:=H.jc k;refine PySem.P.add_list e n ?_ (by rw[cV,cV];lia);have o:Wl.toArray++a.toArray=(Wl++a).toArray:=by simp
 rw[o];exact⟨.ref _,_,H.MG (WJ:=j.toks) (u.append l) (by rw[b_];lia),rfl,p _ H.fresh⟩
end
section
variable{Wz:Type}[DecidableEq Wz]
def iM(Wm:List (Wz×ar))(n:Wz):Option ar:=((Wm.find? λa=>decide (a.1=n)).map (·.2))
def iH(Wm:List (Wz×ar))(n:Wz)(v:ar):List (Wz×ar):=(
 if (Wm.any λa=>decide (a.1=n))=aa then Wm.map (λa=>if a.1=n then (a.1,v) else a) else Wm++[(n,v)])
def uo{q:Wz×ar}{u:List (Wz×ar)}{n:Wz}(e:q.1=n):iM (q::u) n=Z q.2:=by simp[iM,kV,e]
def wB{q:Wz×ar}{u:List (Wz×ar)}{n:Wz}(e:¬ q.1=n):iM (q::u) n=iM u n:=by simp[iM,kV,e]
theorem Ez(n:Wz):∀Wm:List (Wz×ar),(Wm.any λa=>decide (a.1=n))=(iM Wm n).isSome
 |[]=>rfl
 |q::u=>by
  rw[nZ];by_cases e:q.1=n
  ·simp only[uo e,c1 e,E2,Option.isSome_some]
  ·rw[wB e,cW e,E1];exact Ez n u
def Es(Wm:List (Wz×ar))(n:Wz)(v:ar):(iH Wm n v).length<=Wm.length+1:=by
 unfold iH;split
 ·rw[aZ];lia
 ·rw[b_,dm,gB];lia
def lQ.sR{J:Option ag}(u:lQ o J):o.isSome=J.isSome:=by
 cases o with
 |none=>cases J with
  |none=>rfl
  |some _=>exact (show False from u).elim
 |some _=>cases J with
  |none=>exact (show False from u).elim
  |some _=>rfl
def gF.val{Wm:List (Wz×ar)}{V7:List (Wz×ag)}(u:gF Wm V7)(n:Wz):lQ (iM Wm n) (o9 V7 n):=by
 unfold gF at u;induction u with
 |nil=>exact True.intro
 |@cons q p Wk a c B f=>
  let@⟨A,E⟩:=c;by_cases e:q.1=n
  ·have b:p.1=n:=A.symm.trans e;have d:o9 (p::a) n=Z p.2:=by simp[o9,kV,b]
   rw[uo e,d];exact E
  ·have b:¬ p.1=n:=λg=>e (A.trans g);have d:o9 (p::a) n=o9 a n:=by simp[o9,kV,b]
   rw[wB e,d];exact f
def gF.any{Wm:List (Wz×ar)}{V7:List (Wz×ag)}(u:gF Wm V7)(n:Wz):(Wm.any λa=>decide (a.1=n))=V7.any λa=>decide (a.1=n):=by
 unfold gF at u;induction u with
 |nil=>rfl
 |cons c B b=>rw[nZ,nZ,b,c.1]
def gF.AH{Wm:List (Wz×ar)}{V7:List (Wz×ag)}(u:gF Wm V7)(n:Wz){C:ar}{J:ag}(b:cG C J):
  gF (Wm.map λa=>if a.1=n then (a.1,C) else a) (V7.map λa=>if a.1=n then (a.1,J) else a):=by
 unfold gF at u ⊢;induction u with
 |nil=>exact .nil
 |@cons q p Wk g c B d=>
  rw[cS,cS];refine .cons ?_ d;let@⟨A,E⟩:=c;by_cases e:q.1=n
  ·rw[aJ e,aJ<|A.symm.trans e];exact⟨A,b⟩
  ·rw[aP e,aP<|λf=>e<|A.trans f];exact⟨A,E⟩
def gF.put{Wm:List (Wz×ar)}{V7:List (Wz×ag)}(u:gF Wm V7)(n:Wz){C:ar}{J:ag}(a:cG C J):gF (iH Wm n C) (stored V7 n J):=by
 unfold iH stored;rw[u.any n];by_cases e:(V7.any λb=>decide (b.1=n))=aa
 ·rw[aJ e,aJ e];exact u.AH n a
 ·rw[aP e,aP e];exact eP.snoc u ⟨rfl,a⟩
def gF.length{Wm:List (Wz×ar)}{V7:List (Wz×ag)}(u:gF Wm V7):Wm.length=V7.length:=eP.length u
end
def xc{n:e8}{J:ag}(u:cG (ct n) J):(nI T l).is n J=aa:=by
 cases n with
 |inl a=>let⟨@B,e⟩:=(show ∃B,J=ag.int a B from u);subst e;exact S4 T l a B
 |inr f=>let⟨@B,e⟩:=(show ∃B,J=ag.str f B from u);subst e;exact K7 T l f B
abbrev gY(m:aG):List (List ae×ar)->List (List ae×aj×ag)->Prop:=eP λq p=>q.1=p.1/\iP m q.1 p.2.1/\cG q.2 p.2.2
def gY.val(u:gY m Wm w)(n:List ae):lQ (iM Wm n) ((m1 w n).map (·.2)):=by
 induction u with
 |nil=>exact True.intro
 |@cons q p Wk a c B f=>
  let@⟨A,_,E⟩:=c;by_cases e:q.1=n
  ·have b:p.1=n:=A.symm.trans e;have d:m1 (p::a) n=Z p.2:=by simp[m1,kV,b]
   rw[uo e,d];exact E
  ·have b:¬ p.1=n:=λg=>e (A.trans g);have d:m1 (p::a) n=m1 a n:=by simp[m1,kV,b]
   rw[wB e,d];exact f
def gY.AH(u:gY m Wm w)(n:List ae){C:ar}{J:ag}(b:cG C J):
  gY m (Wm.map λa=>if a.1=n then (a.1,C) else a) (w.map<|putAt n J):=by
 induction u with
 |nil=>exact .nil
 |@cons q p Wk h c B d=>
  rw[cS,cS];refine .cons ?_ d;let@⟨A,E,f⟩:=c;unfold putAt;by_cases e:q.1=n
  ·rw[aJ e,aJ<|A.symm.trans e];exact⟨A,E,b⟩
  ·rw[aP e,aP<|λg=>e<|A.trans g];exact⟨A,E,f⟩
def gY.put(u:gY m Wm w)(n:List ae){d:aj}{C:ar}{J:ag}(b:iP m n d)(a:cG C J):
  gY m (iH Wm n C) (storedH w n d J):=by
 have e:(Wm.any λc=>decide (c.1=n))=(m1 w n).isSome:=by
  rw[Ez,(u.val n).sR,wk]
 unfold iH storedH;rw[e];by_cases p:(m1 w n).isSome=aa
 ·rw[aJ p,aJ p];exact u.AH n a
 ·rw[aP p,aP p];exact eP.snoc u ⟨rfl,b,a⟩
def gY.keeps(u:gY m Wm w)(br:∀d Wn,m d=Z (.tup Wn)->V6 d=Z (.tup Wn)):gY V6 Wm w:=
 eP.wA u λ_ W a=>⟨a.1,a.2.1.mono br,a.2.2⟩
section
variable{T:bS}{l:bA}{m:aG}{c:a_}{g:aj}
def DV{J:hq}(ok:eE T l m c)(e:l9 m g J):fN T l m c g J:=e.ok ok
def p_{Wm:List (e8×ar)}(ok:eE T l m c)(e:l9 m g (.ee Wm)):Wm.length<=sizeLine/\(g==jW)=aw/\∃V7,gF Wm V7/\c.DictOf (nI T l) g V7:=
 show fN T l m c g (.ee Wm) from DV ok e
def MO{Wm:List (e8×ar)}(ok:eE T l m c)(e:m g=Z (.ee Wm)):Wm.length<=sizeLine/\(g==jW)=aw/\∃V7,gF Wm V7/\c.DictOf (nI T l) g V7:=p_ ok (.inl e)
mutual
theorem cR.fT(ok:eE T l m c):∀{s:ae}{v:ar}{J:ag},cR m s v->cG v J->eg c s J
 |.a6,_,_,e,u=>by cases (show _=ar.a6 from e);exact u
 |.ay d,_,_,e,u=>by cases (show _=ar.ay d from e);exact u
 |.int a,_,_,e,u=>by cases (show _=ar.int a from e);exact u
 |.str f,_,_,e,u=>by cases (show _=ar.str f from e);exact u
 |.fn g,_,_,e,u=>by cases (show _=ar.ref g from e);exact u
 |.tup I,_,_,e,u=>by
  let⟨g,@w,rfl,A,E⟩:=e;cases u;let@⟨_,⟨@Wl,b,⟨@o,h,i,⟨@r,j⟩⟩⟩⟩:=(show fN T l m c g (.tup w) from ok g _ A);exact⟨g,o,Wl.toArray,r,rfl,h,(Prod.mk.inj i).1,j,by simpa using bT.fT ok E b⟩
 |.aW I,_,_,e,u=>by
  let⟨g,w,@o,rfl,A,E⟩:=e;cases u;exact⟨g,rfl⟩
 |.fd,_,_,e,u=>by
  let⟨g,@o,rfl,A⟩:=e;cases u;exact⟨g,rfl⟩
theorem bT.fT(ok:eE T l m c):∀{I:List ae}{V7:List ar}{Wy:List ag},bT m I V7->b1 V7 Wy->el c I Wy
 |[],_,_,e,u=>by cases (show _=[] from e);cases u;rfl
 |s::I,_,_,e,u=>by
  let⟨v,@B,rfl,A,E⟩:=e;cases u with
  |cons a b=>exact⟨_,_,rfl,cR.fT ok A a,bT.fT ok E b⟩
end
def n8{Wg:List ae}(ok:eE T l m c)(e:iP m Wg g):(e7 T l).is c Wg g:=⟨e.1,e.2.fT ok rfl⟩
def r5{T:bS}{l:bA}{P:bH}(c:P.units+20<b3):(e7 T l).room P.in1:=show P.units+1+10<b3 by lia
def tL(ok:eE T l m c)(e:l9 m g (.aH Wm)):Wm.length<=sizeLine/\(g==jW)=aw/\
  ∃w,gY m Wm w/\c.DictOfH (e7 T l) g w:=by
 let@⟨d,C,⟨@w,u,⟨o,V_,@W2,A,E,h,i,j⟩⟩⟩:=(show fN T l m c g (.aH Wm) from DV ok e);refine⟨d,C,w,u,o,V_,W2,A,E,h,i,λf a=>?_,j⟩;have all:∀{t:List (List ae×ar)}{k:List (List ae×aj×ag)},gY m t k->∀f∈k,(e7 T l).is c f.1 f.2.1:=by
  intro t k p;induction p with
  |nil=>intro f a;exact nomatch a
  |@cons q p Wk r b B n=>
   intro f a;rcases cg.mp a with e|a
   ·subst e;exact n8 ok (by rw[<-b.1];exact b.2.1)
   ·exact n f a
 exact all u f a
def Ax(ok:eE T l m c)(e:m g=Z (.aH Wm)):Wm.length<=sizeLine/\(g==jW)=aw/\
  ∃w,gY m Wm w/\c.DictOfH (e7 T l) g w:=tL ok (.inl e)
end
def hN(m:aG)(g:aj)(C:ar)(u:Option ar):Prop:=(
 (∃Wm n,l9 m g (.ee Wm)/\C=ct n/\u=iM Wm n)\/∃Wm n d,l9 m g (.aH Wm)/\C=.ref d/\iP m n d/\u=iM Wm n)
def oP(m:aG)(g:aj)(C v:ar)(V6:aG):Prop:=(
 (∃Wm n,m g=Z (.ee Wm)/\C=ct n/\Wm.length<sizeLine/\V6=upd m g (.ee<|iH Wm n v))\/
 ∃Wm n d,m g=Z (.aH Wm)/\C=.ref d/\iP m n d/\Wm.length<sizeLine/\V6=upd m g (.aH<|iH Wm n v))
def hN.k{m:aG}{g:aj}{Wm:List (e8×ar)}{n:e8}(e:m g=Z (.ee Wm)):hN m g (ct n) (iM Wm n):=.inl ⟨Wm,n,.inl e,rfl,rfl⟩
def hN.t{m:aG}{g d:aj}{Wm:List (List ae×ar)}{n:List ae}(e:m g=Z (.aH Wm))(a:iP m n d):hN m g (.ref d) (iM Wm n):=.inr ⟨Wm,n,d,.inl e,rfl,a,rfl⟩
def oP.k{m:aG}{g:aj}{Wm:List (e8×ar)}{n:e8}{v:ar}(e:m g=Z (.ee Wm))(a:Wm.length<sizeLine):oP m g (ct n) v (upd m g<|.ee<|iH Wm n v):=.inl ⟨Wm,n,e,rfl,a,rfl⟩
def oP.t{m:aG}{g d:aj}{Wm:List (List ae×ar)}{n:List ae}{v:ar}(e:m g=Z (.aH Wm))(a:iP m n d)(b:Wm.length<sizeLine):
  oP m g (.ref d) v (upd m g<|.aH<|iH Wm n v):=.inr ⟨Wm,n,d,e,rfl,a,b,rfl⟩
section
variable{b:aR}{R:List (aj×bk)}{D:a9}{m:aG}{j:au}{g:aj}{C v:ar}{J u:ag}{o:Option ar}{P:bH}{Wa:ag->au->Prop}
def aK.big(H:aK b R D m j):jW<j.heap.objs.size:=by
 have c:d_<j.heap.objs.size:=(H.mod.glob.keeps H.fM).lt;exact pC ∅ c
def K0(s:P.units+20<b3)(H:aK b R D m j)(L:hN m g C (Z v))(r:cG C J)(c:∀a V9,aK b R D m V9->cG v a->G a V9):
  wpAny (aV b.prog b.w) P (lR (.ref g) J) G Wa j:=by
 rcases L with ⟨Wm,n,e,f,t⟩|⟨Wm,n,d,e,f,u,t⟩
 ·subst f;let@⟨z,hd,⟨@V7,h,i⟩⟩:=p_ H.bg e;let⟨@a,k,p⟩:=lQ.some_of (v:=v) (o:=o9 V7 n) (by rw[t];exact h.val n);exact wpAny_getItem_of (xc r) i.mapOf k (c a _ (H.tok _) p)
 ·subst f;cases (show J=ag.ref d from r);let@⟨z,hd,⟨@w,h,i⟩⟩:=tL H.bg e;let⟨@a,k,p⟩:=lQ.some_of (v:=v) (o:=(m1 w n).map (·.2)) (by rw[t];exact h.val n);let⟨@q,x,y⟩:=cU.mp k;refine wpAny_getItem_heap (r5 s) (n8 H.bg u) i x ?_;rw[y];exact c a _ (H.tok _) p
def yq(k:P.units+20<b3)(H:aK b R D m j)(L:hN m g C o)(i:cG C J)(c:∀V9,aK b R D m V9->G (.bool o.isSome) V9):
  wpAny (aV b.prog b.w) P (ey .In J<|.ref g) G Wa j:=by
 rcases L with ⟨Wm,n,e,a,t⟩|⟨Wm,n,d,e,a,q,t⟩
 ·subst a;let@⟨z,hd,⟨@V7,f,h⟩⟩:=p_ H.bg e;refine wpAny_in_of (xc i) hd h.mapOf ?_;rw[<-(f.val n).sR,<-t];exact c _ (H.tok _)
 ·subst a;cases (show J=ag.ref d from i);let@⟨z,hd,⟨@w,f,h⟩⟩:=tL H.bg e;refine wpAny_in_heap (r5 k) (n8 H.bg q) hd h ?_;have p:=(f.val n).sR;rw[wk]at p;rw[<-p,<-t];exact c _ (H.tok _)
def zK(k:P.units+20<b3)(H:aK b R D m j)(L:hN m g C o)(i:cG C J)(c:∀V9,aK b R D m V9->G (.bool<|!o.isSome) V9):
  wpAny (aV b.prog b.w) P (ey .NotIn J<|.ref g) G Wa j:=by
 rcases L with ⟨Wm,n,e,a,t⟩|⟨Wm,n,d,e,a,q,t⟩
 ·subst a;let@⟨z,hd,⟨@V7,f,h⟩⟩:=p_ H.bg e;refine wpAny_notIn_of (xc i) hd h.mapOf ?_;rw[<-(f.val n).sR,<-t];exact c _ (H.tok _)
 ·subst a;cases (show J=ag.ref d from i);let@⟨z,hd,⟨@w,f,h⟩⟩:=tL H.bg e;refine wpAny_notIn_heap (r5 k) (n8 H.bg q) hd h ?_;have p:=(f.val n).sR;rw[wk]at p;rw[<-p,<-t];exact c _ (H.tok _)
def yE{a:hq}(H:aK b R D m j)(c:tW (m g))(Wd:a_.SameBut g j.heap U)(h:∃p,U.get? g=Z p)(new:fN b.prog b.w (upd m g a) U g a):
  aK b R D (upd m g a) {j with heap:=U,toks:=WJ}:=
 H.write (f:=g) (e:=g) c (.inl rfl) (λd p i k=>(Wd.2 d i).trans k) h new
def Lo{Wm:List (e8×ar)}{V7:List (e8×ag)}(a:Wm.length<=sizeLine)(hd:(g==jW)=aw)(b:gF Wm V7)(c:U.DictOf (nI T l) g V7):
  fN T l V6 U g (.ee Wm):=⟨a,hd,V7,b,c⟩
def Dt{G:Unit->au->Prop}(F:P.units+20<b3)(H:aK b R D m j)(L:oP m g C v V6)(y:cG C J)(z:cG v u)(c:∀V9,aK b R D V6 V9->G () V9):
  wpAny (aV b.prog b.w) P (vC (.ref g) J u) G Wa j:=by
 rcases L with ⟨Wm,n,e,o,t,q⟩|⟨Wm,n,d,e,o,A,t,q⟩
 ·subst o q;let@⟨a,hd,⟨@V7,f,r⟩⟩:=MO H.bg e;have s:V7.length<=sizeLine:=by rw[<-f.length];exact a
  have x:(iH Wm n v).length<=sizeLine:=by have:=Es Wm n v;lia
  refine wpAny_setItem_pairs (hsz:=s) (xc y) r λU i Wd=>c _ ?_;have M:∃p,U.get? g=Z p:=let ⟨p,_,_,k,_⟩:=i;⟨p,k⟩
  exact yE H (by rw[e];exact True.intro) Wd M (Lo x hd (f.put n z) i)
 ·subst o q;cases (show J=ag.ref d from y);let@⟨a,hd,⟨@w,f,r⟩⟩:=Ax H.bg e;have s:w.length<=sizeLine:=by rw[<-eP.length f];exact a
  have x:(iH Wm n v).length<=sizeLine:=by have:=Es Wm n v;lia
  refine wpAny_setItem_heap (hsz:=s) (r5 F) (n8 H.bg A) r λU i Wd=>c _ ?_;let⟨p,V_,@W2,k,E,N,O,W,Q⟩:=i;refine yE H (by rw[e];exact True.intro) Wd ⟨p,k⟩ ⟨x,hd,_,(f.put n A z).keeps λh Wn B=>?_,p,V_,W2,k,E,N,O,Q⟩;rw[dI (Gv B e<|λa=>nomatch a)];exact B
end
section
variable{b:aR}{R:List (aj×bk)}{D:a9}{m:aG}{j:au}{g:aj}{Wm:List (e8×ar)}{n:e8}{J:ag}{P:bH}{Wa:ag->au->Prop}
def KR(H:aK b R D m j)(e:l9 m g (.ee Wm))(c:∀B V9,aK b R D m V9->G (.int Wm.length B) V9):wpAny (aV b.prog b.w) P (call (.builtin "len") [.ref g]) G Wa j:=by
 let@⟨z,hd,⟨@V7,a,d⟩⟩:=p_ H.bg e;refine call_len_dict hd d (by rw[<-a.length];rw[wU]at z;lia) ?_;rw[<-a.length];exact c _ _ (H.tok _)
end
def LL{b:aR}{g:aj}{C:ar}(H:aK b R D m j)(L:hN m g C o):j.TypeIs (.ref g) "dict" := by
 rcases L with ⟨Wm,n,e,_,_⟩|⟨Wm,n,d,e,_,_,_⟩
 ·let@⟨_,_,⟨@V7,_,a⟩⟩:=p_ H.bg e;exact a.typeIs
 ·let@⟨_,_,⟨@w,_,a⟩⟩:=tL H.bg e;exact a.typeIs
def B3(c:a_)(a:jW<c.objs.size):fN T l m (c.push {cls:=.type "dict",data:=.dict #[]}) c.objs.size (.aH []):=
 ⟨f7 _,AK.mpr<|g6<|dP a,[],.nil,_,#[],0,d4 _ rfl,⟨rfl,rfl,rfl⟩,rfl,rfl,gU⟩
def Kn:cj:=(λ_ m G=>∀q,m q=Y->G (.ref q) (upd m q<|.aH []))
section
variable{b:aR}{Wq:Pos}
def K8:bU b (.Dict [] [] Wq) Kn:=λR j D m G H c=>
 wpAny_Dict_empty ⟨.ref j.heap.objs.size,_,H.laid (g:=j.heap.objs.size) (o:=.aH []) (WJ:=j.toks) (λ_ W p=>cv _ p) (bb _)<|B3 j.heap H.big,rfl,c _<|H.bg.fresh<|bb _⟩
end
end L2
namespace Dw
open PySem.W PySem.Calls PyProof.Rows
variable{r:Nat}{t:OpenLaw}
def O4{T:xj}{c:a_}:∀(Wu:List Int) (V7:List ag),WellAll T c V7 (Wu.map sQ.int)->sx V7 Wu:=by
 intro Wu;induction Wu with
 |nil=>
  intro V7 l;rw[List.map_nil]at l;cases l;exact .nil
 |cons r Wu a=>
  intro V7 l;rw[cS]at l;cases l with
  |cons g d=>
   cases g;exact .cons _ _ (a _ d)
def RT(h:t.most=Z r){T:xj}{c:a_}{args:List sQ}{d:List ag}(e:t.row.toRowW.claim.pre args=aa)(i:WellAll T c d args):
  ∃g V7 Wu,d=[ag.ref g]/\args=[sQ.list (Wu.map sQ.int)]/\c.get? g=Z {cls:=.type "list",data:=.seq V7.toArray}/\sx V7 Wu/\Wu.length<=r:=by
 have j:sq.hasAll [] args [.list .int]=aa:=(pre_splitW e).1;have f:t.pre.holds [] {args:=args}=aa:=(pre_splitW e).2;let⟨s,@u,rfl,A,E⟩:=hasAllW_cons j;obtain rfl:=hasAllW_nil E;let⟨@w,rfl,k⟩:=hasW_list A;let⟨@Wu,rfl⟩:=items_int k;have l:Wu.length<=r:=by
  unfold OpenLaw.pre at f;have a:(WTm.not<|.lt (.lit<|.int (r:Int))<|.len<|.arg 0).holds [] {args:=[.list (Wu.map .int)]}=aa:=by
   have a:=(holds_andW f).1;rw[h]at a;exact a
  have b:=condW_of a (w_not<|w_lt w_lit<|w_len_list<|w_arg rfl);rw[aZ]at b;refine Nat.le_of_not_lt λp=>?_;have m:(r:Int)<((Wu.length:Nat):Int):=⋯
  first
   | (rw[c1 m]at b;exact absurd b ∅)
   | (simp at b;lia)
 cases i with
 |cons n o=>
  cases o;cases n with
  |list q v=>exact⟨_,_,Wu,rfl,rfl,q,O4 Wu _ v,l⟩
def OD(t:OpenLaw)(args:List sQ):t.row.toRowW.claim.post args (.bool aa) args=aa:=
 postW_of (r:=t.row.toRowW) (X:=(aa==aa))
  (show sq.has [] (.bool aa) .bool=aa by first|rfl|decide|simp[sq.has,sq.arms,sq.armsAll])
  (show (WTm.eq .res<|.lit<|.bool aa).value [] {args:=args,res:=Z (.bool aa),after:=args}=Z (.bool<|aa==aa) from w_eq_bool (w_res rfl) w_lit) rfl
def Mr{p:bS}{d:List aI}{e:(aI->Option ag)->a_->Prop}{f:bA->a_->Prop}{s:DefRec}(j:t.most=Z r)(k:s.params.defaults=[])(call:∀(l:bA) (fS a:au) (aE c:aI->Option ag) (fq:aj) (o:bk) (WT b i:ag) (g:aj) (V7:List ag) (Wu:List Int),
   Ground p d [] e l fS aE c a.heap->f l a.heap->
   a.heap.get? fq=Z o->o.data=.func (docDef s.name s.params s.body s.scope WT b i)->a.heap.CodeRec b s.name->aE s.name=Z (.ref fq)->
   a.heap.get? g=Z {cls:=.type "list",data:=.seq V7.toArray}->sx V7 Wu->Wu.length<=r->a.gens=#[]->
   codeAny (aV t.prog l) oS (.call (.ref fq) ⟨[.ref g],[]⟩) (λu V9=>u=.ok (.ret<|.bool aa)/\OldK a.heap V9.heap/\V9.os=a.os/\me V9.gens) a):
  WalkO p d e f t.row.toRowW s [] (λx V7=>PySem.call x V7):=by
 intro l fS a aE c z Wt fq o WT b i m ct n hd q h v w args J L y M N A O;obtain rfl:m=.none:=Dflts.none h k;obtain rfl:ct=.none:=Dflts.noKw h;let⟨g,V7,@Wu,rfl,rfl,B,C,D⟩:=RT j y A;refine enter_call (rH (call l fS a aE c fq o WT b i g V7 Wu z Wt n (fd_plain hd) q v B C D w) λu V9 F=>?_);let@⟨rfl,E,G,H⟩:=F;exact⟨.inl ⟨.bool aa,.bool aa,[],rfl,λ_=>rfl,.bool aa,OD t _,λ_=>⟨List.Pairwise.nil,λ_ I=>(nomatch I)⟩⟩,E,G,H⟩
end Dw
namespace L2
open Spec PyProof.Rows
variable{Wk:List aI}{x:aj}{O:cp}{Xe f:aI}{fd:hA}{n:Nat}
theorem Ij:∀{V7:List ag}{Wu:List Int},sx V7 Wu->b1 (Wu.map ar.int) V7
 |_,_,.nil=>.nil
 |_,_,.cons r B c=>.cons ⟨B,rfl⟩ (Ij c)
def wd(m:aG):Prop:=(∀d,m d=Y\/∃o w,m d=Z (.eF o<|.lst w))
def Ld{T:bS}{l:bA}{V8:Φ}{aE x:aI->Option ag}{y:k1}{fq g:aj}{et:da}{a:au}{V7:List ag}{Wu:List Int}(C:V8.In a.heap)(D:a.heap.Ns d_ aE)(h:a.heap.Ns yk x)(R:∀f:aI,f ≠ "__name__" -> x f=fy f)(U:a.heap.NoLimit)(al:a.gens=#[])(q:a.heap.get? g=Z {cls:=.type "list",data:=.seq V7.toArray})(S:sx V7 Wu)(F:Wu.length<=sizeLine)(am:fg n oS)(N:∀Wi:a_,V8.In Wi->Wi.Ns d_ aE->i8 T l V8 aE Wi y n fq fd [f] et)(an:∀(j:au) (J:ag),nA j fd ⟨[J],[]⟩ [(f,J)])(ap:∀m:aG,wd m->dC V8 m g (Wu.map ar.int)->et [.ref g] m (λv V=>v=.ay aa) λ_ V V=>False)(as:∀m e V9,y [] m a (λ_ V V=>False) e V9->False):
  codeAny (aV T l) oS (.call (.ref fq) ⟨[.ref g],[]⟩) (λu V9=>u=.ok (.ret<|.bool aa)/\OldK a.heap V9.heap/\V9.os=a.os/\me V9.gens) a:=by
 have G:=Ij S;have a1:=S.length;have H:∀m:aG,wd m->dC V8 m g (Wu.map ar.int)->eE T l m a.heap->(∀d,m d≠Y->d=g)->(m g≠Y->V8.lookup g=Y)->
   codeAny (aV T l) oS (.call (.ref fq) ⟨[.ref g],[]⟩) (λu V9=>u=.ok (.ret<|.bool aa)/\OldK a.heap V9.heap/\V9.os=a.os/\me V9.gens) a:=by
  intro m I a2 bg L bd;have M:∀{d:aj}{o:bk},a.heap.get? d=Z o->m d=Y->(mJ a.heap m).get? d=Z o:=λe r=>PU e r;have be:∀{d:aj}{o:bk}{V_:Array DictEntry}{W2:Nat},a.heap.get? d=Z o->o.data=.dict V_ W2->m d=Y:=λ{d o V_ W2} e s=>by
   cases p:m d with
   |none=>rfl
   |some J=>
    have z:d=g:=L d (by rw[p];simp);subst z;rw[q]at e;cases e;have bi:oC.seq V7.toArray _=oC.dict V_ W2:=s;cases bi
  have t:∀{d:aj}{k:aI->Option ag},a.heap.Ns d k->(mJ a.heap m).Ns d k:=λ{d k} ⟨o,V_,W2,e,s,u⟩=>⟨o,V_,W2,M e<|be e s,s,u⟩;have O:V8.In (mJ a.heap m):=λd o e=>M (C d o e) (by
   cases p:m d with
   |none=>rfl
   |some J=>
    have z:d=g:=L d (by rw[p];simp);subst z;rw[bd (by rw[p];simp)]at e;cases e)
  have bm:Mod V8 aE (mJ a.heap m):=⟨O,t D,⟨x,t h,R⟩,let ⟨bn,A,E⟩:=U;⟨bn,t A,E⟩⟩;have bs:wc T l V8 aE (mJ a.heap m) oS [] a m:=⟨rfl,bm,λd o e=>UD e,Nat.le_of_eq<|KS _ _,trivial,λd h=>absurd (show d∈([]:List aj) from h) ↥0,bg,.of_eq al⟩;refine rH ((N _ O<|t D).run oS [] a m ⟨[.ref g],[]⟩ [.ref g] [.ref g] _ _ am bs (an a<|.ref g) (.cons rfl .nil)<|ap m I a2) λu V9 c=>?_;cases u with
  |error e=>exact (as m e V9 c).elim
  |ok aW=>
   cases aW with
   |next=>exact False.elim c
   |brk=>exact False.elim c
   |cont=>exact False.elim c
   |ret J=>
    let⟨v,@V6,Q,bv,un,ca,W3,p⟩:=c;have cd:v=.ay aa:=p;subst cd;obtain rfl:J=ag.bool aa:=W3;refine⟨rfl,OldK.of_keep λd o e=>?_,Q,bv⟩;cases p:m d with
    |none=>exact un.keep d o e p (by intro b;exact absurd (show d∈([]:List aj) from b) ↥0) ↥0
    |some J=>
     rcases I d with b|⟨ce,w,b⟩
     ·rw[p]at b;cases b
     ·have ch:=un.la d ce _ b;let@⟨P,_⟩:=bg d _ b;let@⟨ci,_⟩:=ca d _ ch;rw[e]at P;cases P;exact ci
 cases B:V8.lookup g with
 |some o=>
  have e:=C g o B;rw[q]at e;cases e;refine H (λ_=>Y) (λ_=>.inl rfl) (.inr ⟨_,V7.toArray,_,B,rfl,rfl,rfl,by rw[cV,a1];exact F,by simpa using G⟩) (λd J b=>by have i:(Y:Option hq)=Z J:=b;cases i) (λd b=>absurd rfl b) λb=>absurd rfl b
 |none=>
  refine H (λd=>if d=g then Z (.eF {cls:=.type "list",data:=.seq V7.toArray} (.lst<|Wu.map ar.int)) else Y) (λd=>?_) (.inl<|.inr ⟨{cls:=.type "list",data:=.seq V7.toArray},aJ rfl⟩) (λd J b=>?_) (λd b=>?_) λ_=>B
  ·by_cases h:d=g
   ·exact .inr ⟨_,_,aJ h⟩
   ·exact .inl (aP h)
  ·by_cases h:d=g
   ·have i:=(aJ h).symm.trans b;cases i;subst h;exact⟨q,by rw[aZ];exact F,V7,_,G,q⟩
   ·have i:=(aP h).symm.trans b;cases i
  ·by_cases h:d=g
   ·exact h
   ·exact absurd (aP h) b
def Qc{t:PySem.W.OpenLaw}{r:Nat}{p:bS}{q:List aI}{u:(aI->Option ag)->a_->Prop}{a:bA->a_->Prop}{s:DefRec}{V8:xj->Φ}{y:bA->k1}{et:bA->da}(w:t.most=Z r)(A:r<=sizeLine)(B:s.params.defaults=[])(C:fg n oS)(D:∀(l:bA) (c:a_),a l c->(V8 l.params).In c)(N:∀(l:bA) (aE:aI->Option ag) (fq:aj) (c:a_),(V8 l.params).In c->c.Ns d_ aE->aE s.name=Z (.ref fq)->
   ∃fd:hA,(∀(j:au) (J:ag),nA j fd ⟨[J],[]⟩ [(f,J)])/\
    ∀Wi:a_,(V8 l.params).In Wi->Wi.Ns d_ aE->i8 t.prog l (V8 l.params) aE Wi (y l) n fq fd [f] (et l))(E:∀(l:bA) (m:aG) (g:aj) (Wu:List Int),Wu.length<=r->wd m->dC (V8 l.params) m g (Wu.map ar.int)->et l [.ref g] m (λv V=>v=.ay aa) λ_ V V=>False)(G:∀(l:bA) (m:aG) (j:au) (e:ag) (V9:au),y l [] m j (λ_ V V=>False) e V9->False):
  PySem.W.WalkO p q u a t.row.toRowW s [] (λx V7=>PySem.call x V7):=by
 refine Dw.Mr w B λl fS H aE al fq o WT am i g V7 Wu z Wt an hd ap I M O h P=>?_;have k:=D l _ Wt;let⟨@fd,Q,R⟩:=N l aE fq _ k z.T.g I;exact Ld k z.T.g z.T.b z.T.builtins z.T.nolimit P M O (fu h A) C R Q (λm S U=>E l m g Wu h S U) λm e V9=>G l m H e V9
def iI(j:cp):Arguments:=(match j with
 |.FunctionDef _ g _ _ _ _ _ _ _ _=>g
 |_=>{posonlyargs:=[],args:=[],vararg:=Y,kwonlyargs:=[],kw_defaults:=[],kwarg:=Y,defaults:=[]})
def gZ(j:cp):List cp:=(match j with
 |.FunctionDef _ _ d _ _ _ _ _ _ _=>d
 |_=>[])
def ek(j:cp):hQ:=(match j with
 |.FunctionDef _ _ _ _ _ _ B _ _ _=>B
 |_=>{kind:=.function,names:=[],isGenerator:=aw,isCoroutine:=aw})
abbrev iV:k1:=λ_ _ _ _ _ _=>False
abbrev SP:ho:=λ_ _ _=>False
def Fu{b:aR}:u6 iV b SP:=λ_ W W W W W W c=>c.elim
structure hg(V8:Φ)(f Xe:aI)(O:cp)(x:aj)(fd:hA):Prop where
 ex:∃(E:ag) (A:Option aj) (ct i WT:ag) (k:Option aj) (M ck:ag) (S:Array (Option ag)),
  fd=Ξ f Xe (iI O) (gZ O) (ek O) .none ct i WT k M ck/\V8.lookup x=Z ⟨E,A,.func fd,S⟩/\Δ V8 M Xe=aa
 dj:Θ V8 (.ref x)=aa
section
variable{T:bS}{l:bA}{V8:Φ}{aE:aI->Option ag}{Wi:a_}
def hg.ok{WM:List aI}{et:da}(N:hg V8 f Xe O x fd)(Wo:pg WM Wk (ek O))(len:∀V7 m G Wa,et V7 m G Wa->V7.length=Wk.length)(a:∀(M:ag) (P:bH) (WX:List fE) (j:au) (m:aG) (V7:List ar) (G:c5) (Wa:ho),fg n (P.deeper<|kE Xe (ek O) j.heap.objs.size x M)->et V7 m G Wa->
   ∃B,i4 (mV iV T l V8 aE Wi WM Xe (ek O) x M P WX j m Wa).oc (gZ O) B/\B {bf:=λ_ V6=>G .a6 V6,eI:=G} (start WM V7) m):i8 T l V8 aE Wi iV (n+1) x fd Wk et:=by
 let⟨E,A,ct,i,WT,k,M,ck,@S,rfl,lk,b⟩:=N.ex;refine PX lk b Wo len λP WX j m V7 G Wa d e=>?_;let⟨@B,c,p⟩:=a M P WX j m V7 G Wa d e;exact⟨B,c.oc,p⟩
def hg.binds(N:hg V8 f Xe O x fd)(c:∀(ct i WT:ag) (k:Option aj) (M ck:ag) (Wy:List ag),Wy.length=Wk.length->ke (Ξ f Xe (iI O) (gZ O) (ek O) .none ct i WT k M ck) ⟨Wy,[]⟩=pure (Wk.zip Wy)):iU V8 fd Wk []:=by
 let⟨E,A,ct,i,WT,k,M,ck,@S,rfl,lk,a⟩:=N.ex;exact .all (c ct i WT k M ck)
def QX{E:ag}{A k:Option aj}{S:Array (Option ag)}{ct i WT M ck:ag}(t:V8.lookup x=Z ⟨E,A,.func<|Ξ f Xe (iI O) (gZ O) (ek O) .none ct i WT k M ck,S⟩)(h:Δ V8 M Xe=aa)(n:Θ V8 (.ref x)=aa):hg V8 f Xe O x (Ξ f Xe (iI O) (gZ O) (ek O) .none ct i WT k M ck):=⟨⟨E,A,ct,i,WT,k,M,ck,S,rfl,t,h⟩,n⟩
end
section
variable{b:aR}
def dh(a:Nat){f:aI}{Wq:Pos}(c:b.N[a]?=Z f:=by rfl)(d:vM b.env.scope f:=by first|exact Or.inl rfl|exact Or.inr (Or.inl rfl)|exact Or.inr (Or.inr rfl))(hd:(f==("__debug__" : aI))=aw:=by decide)(e:(f==("__classdict__" : aI))=aw:=by decide):bU b (.Name f Wq) (ml a):=DP c d hd e
end
def df(m V6:aG):Prop:=(∀d o,m d=Z o->V6 d=Z o)
def df.refl(m:aG):df m m:=λ_ W c=>c
end L2
namespace L2
section
variable{b:aR}
def Q3:fl b (.builtin "len") (λw m G=>∃g Wm,w=[ar.ref g]/\m g=Z (.ee Wm)/\G (.int Wm.length) m):=by
 intro R j D m w Wy G H u c;let⟨g,@Wm,rfl,a,p⟩:=c;let⟨@J,rfl,d⟩:=iS u;cases d;exact KR H (.inl a) λB V9 e=>⟨.int Wm.length,m,e,⟨B,rfl⟩,p⟩
end
end L2
namespace L2
open Spec PyProof.Rows
variable{G:Option ag->au->Prop}{a W2:Nat}{c:a_}{Wg:List ag}{s aT:aj}{fV:dM}{WL Xb Xj:bF}{bL:List aj}{m:aG}{D:a9}{R:List (aj×bk)}{WH:List Nat}{own:List aI}{Wc:fE}{Wq:Pos}{WB:hQ}{T:List bF}{j:au}
def RG{Wf:bS}{l:bA}{P:bH}{Wb:qn->au->Prop}{b:bF}{it e:ag}(H:Nat->au->Prop)(p:∀r j,H r j->wpAny (aV Wf l) P (h1 it) (λu a=>match u with
   |none=>Wb (.ok .next) a
   |some v=>wpAny (aV Wf l) P (sW b it v) (λ_ a=>wpAny (aV Wf l) P (jA b Wc v) (λ_ i=>
     wpAny (aV Wf l) P (forIn T aa λh u=>if u=aa then do let ok <-rm h Wc (cE h Wc);pure (ForInStep.yield ok) else pure (ForInStep.yield u)) (λok g=>
      if ok=aa then wpAny (aV Wf l) P (cE Xj Wc) (λf m=>
       wpAny (aV Wf l) P (call (.builtin "list.append") [e,f]) (λ_ n=>∃k,k<r/\H k n) (λ_ W=>False) m) (λ_ W=>False) g
      else ∃k,k<r/\H k g) (λ_ W=>False) i) (λ_ W=>False) a) (λ_ W=>False) a) (λ_ W=>False) j)(r:Nat)(c:H r j):
  codeAny (aV Wf l) P (.compLoop (.ListComp Xj [⟨b,Xb,T,0⟩] WB Wq) 0 it e Wc) Wb j:=by
 refine codeAny_loop rfl H (λr j q=>?_) r c;show wpAny _ P ((compTurn (.ListComp Xj [⟨b,Xb,T,0⟩] WB Wq) 0 it e Wc).onRaise (λf=>do noteFrame f Wc;theTreesLotGoes f)) _ _ j;refine wpAny_noted ?_;rw[compTurn_list];refine aA (uK<|aA<|iz (p r j q) (λu a d=>?_) λ_ W U=>U.elim);cases u with
 |none=>exact aU d
 |some v=>
  refine aA (iz d (λ_ a d=>?_) λ_ W U=>U.elim);refine aA (iz d (λ_ i s=>aA<|iz s (λok g o=>?_) λ_ W U=>U.elim) λ_ W U=>U.elim);cases ok with
  |false=>exact aU ⟨rfl,o⟩
  |true=>
   exact aA (aA<|iz o (λf m t=>aA<|iz t (λ_ n w=>aU<|aU ⟨rfl,w⟩) λ_ W U=>U.elim) λ_ W U=>U.elim)
def oH(Wc:fE)(a:List (aI×ea)):List (aI×aj):=(a.foldl (λaq C=>if C.2==.free then (C.1,(Wc.cells.lookup C.1).getD 0)::aq else aq) [])
theorem x3{Wc:fE}:∀(a:List (aI×ea)) (aq:List (aI×aj)),(∀C∈a,C.2=.free->∃h,Wc.cells.lookup C.1=Z h)->
  (forIn a aq λ(C:aI×ea) aq=>if C.2==.free then (do let h <-wb Wc C.1;pure (ForInStep.yield ((C.1,h)::aq))) else pure (ForInStep.yield aq):er _)=
   pure (a.foldl (λaq C=>if C.2==.free then (C.1,(Wc.cells.lookup C.1).getD 0)::aq else aq) aq)
 |[],aq,_=>rfl
 |C::u,aq,c=>by
  rw[vN,h4];by_cases b:C.2=.free
  ·let⟨@h,g⟩:=c C m_ b;have e:(C.2==ea.free)=aa:=by simp[b]
   rw[aJ e,aJ e];have i:wb Wc C.1=pure h:=by unfold wb;rw[g]
   rw[i,g];show (forIn u ((C.1,h)::aq) _:er _)=_;exact x3 u _ λd f=>c d (l8 _ f)
  ·have e:¬ (C.2==ea.free)=aa:=by simp[b]
   rw[aP e,aP e];show (forIn u aq _:er _)=_;exact x3 u _ λd f=>c d (l8 _ f)
def N9(c:∀C∈WB.names,C.2=.free->∃h,Wc.cells.lookup C.1=Z h):closureFor WB Wc=pure (oH Wc WB.names):=by
 have:=x3 (Wc:=Wc) WB.names [] c;unfold closureFor;dsimp only;have e:(forIn WB.names ([]:List (aI×aj))<|λ(f:aI×ea) (u:List (aI×aj))=>(if f.2==.free then (do let h <-wb Wc f.1;pure (ForInStep.yield ((f.1,h)::u))) else pure (ForInStep.yield u):er (ForInStep<|List<|aI×aj)))=pure (oH Wc WB.names):=this;rw[e];rfl
theorem HF{Wc:fE}:∀(b:List (aI×ea)) (aq:List (aI×aj)) (f:aI) (h:aj),
  (b.foldl (λaq C=>if C.2==.free then (C.1,(Wc.cells.lookup C.1).getD 0)::aq else aq) aq).lookup f=Z h->
  (h=(Wc.cells.lookup f).getD 0/\(f,ea.free)∈b)\/aq.lookup f=Z h
 |[],aq,f,h,c=>.inr c
 |C::u,aq,f,h,c=>by
  rw[h4]at c;rcases HF u _ f h c with ⟨e,k⟩|c
  ·exact .inl ⟨e,l8 _ k⟩
  ·by_cases a:C.2=.free
   ·rw[aJ (by simp[a])]at c;rw[j6]at c;by_cases d:f=C.1
    ·subst d;rw[my]at c;refine .inl ⟨(Option.some.inj c).symm,?_⟩;rw[<-a];exact m_
    ·have:(f==C.1)=aw:=by simpa using d
     rw[this]at c;exact .inr c
   ·rw[aP (by simp[a])]at c;exact .inr c
theorem yW{Wc:fE}:∀(a:List (aI×ea)) (aq:List (aI×aj)) (f:aI),(f,ea.free)∈a\/(∃h,aq.lookup f=Z h)->
  ∃h,(a.foldl (λaq C=>if C.2==.free then (C.1,(Wc.cells.lookup C.1).getD 0)::aq else aq) aq).lookup f=Z h
 |[],aq,f,c=>by
  rcases c with c|c
  ·cases c
  ·exact c
 |C::u,aq,f,c=>by
  rw[h4];apply yW u _ f;rcases c with c|⟨h,c⟩
  ·rcases cg.mp c with e|c
   ·right;subst e;rw[aJ (by rfl),j6,my];exact⟨_,rfl⟩
   ·exact .inl c
  ·right;by_cases b:(C.2==ea.free)=aa
   ·rw[aJ b,j6];cases f==C.1
    ·exact⟨h,c⟩
    ·exact⟨_,rfl⟩
   ·rw[aP b];exact⟨h,c⟩
structure kQ where
 aT:aj
 s:au
 H:aG
 bL:List aj
variable{Xd:kQ->cj}{I:kQ->e1}{L:kQ->hl}
def aR.gR(b:aR)(a:List aI)(WB:hQ)(Wt:kQ): aR :=(
  {prog:=b.prog,w:=b.w,K:=b.K,aE:=b.aE,base:=b.base,A:=b.A,N:=a,fS:=Wt.s,pG:=Wt.H,env:=vy WB (oH b.env WB.names) Wt.aT b.env,outer:=b.stack,stack:=b.stack,
    ex:=Wt.bL,fn:=λ_ => aw,calm:=b.calm,l6:=[],dc:=λ_ W => False})
theorem yM{Wc:fE}:∀{g:List (aI×ea)}{f:aI}{n:ea},
  (g.map λ(r,n)=>if (n==ea.free&&Wc.scope.kind==.function&&Wc.kindOf r==Z .cell) then (r,ea.cell) else (r,n)).lookup f=Z n->
  (n=.cell\/n=.free)->(∀C∈g,C.2≠.cell)->(f,ea.free)∈g
 |[],f,n,c,_,_=>by simp at c
 | (r,d)::u,f,n,c,a,h=>by
  rw[cS]at c;dsimp only at c;by_cases i:f=r
  ·subst i;by_cases b:(d==ea.free&&Wc.scope.kind==.function&&Wc.kindOf f==Z .cell)=aa
   ·have:d=ea.free:=by
     simp only[cy]at b;exact by simpa using b.1.1
    subst this;exact m_
   ·simp only[b]at c;have e:d=n:=by simpa [j6] using c
    subst e;rcases a with a|a
    ·exact absurd a (h (f,d) m_)
    ·rw[a];exact m_
  ·have j:(f==r)=aw:=by simpa using i
   have U:(u.map λ(r,n)=>if (n==ea.free&&Wc.scope.kind==.function&&Wc.kindOf r==Z .cell) then (r,ea.cell) else (r,n)).lookup f=Z n:=by
    by_cases b:(d==ea.free&&Wc.scope.kind==.function&&Wc.kindOf r==Z .cell)=aa
    ·rw[aJ b,j6,j]at c;exact c
    ·rw[aP b,j6,j]at c;exact c
   exact l8 _ (yM U a λC k=>h C<|l8 _ k)
section
variable{b:aR}
structure kk(b:aR)(WB:hQ)(own:List aI)(WH:List Nat):Prop where
 kind:WB.kind=.function
 cell:∀C∈WB.names,C.2≠.cell
 free:∀C∈WB.names,C.2=.free->b.env.scope.names.lookup C.1=Z .cell
 loc:∀C∈WB.names,C.2=.local->WB.names.lookup C.1=Z .local
 Pc:∀a∈WH,∃f,b.N[a]?=Z f/\(f,ea.free)∈WB.names/\WB.names.lookup f=Z .free
def gM(b:aR)(own:List aI)(WH:List Nat):List aI:=(own++WH.map λa=>b.N.getD a "")
def kX(own:List aI)(WH:List Nat)(D:a9):a9:=(own.map (λ_=>Y)++WH.map λa=>D.getD a Y)
def kk.cells(Wo:kk b WB own WH)(ok:b.Ok):∀C∈WB.names,C.2=.free->∃h,b.env.cells.lookup C.1=Z h:=
 λC a c=>ok.has C.1 (.inl<|Wo.free C a c)
def kk.sub(Wo:kk b WB own WH)(ok:b.Ok){f:aI}{h:aj}(c:(oH b.env WB.names).lookup f=Z h):b.env.cells.lookup f=Z h/\(f,ea.free)∈WB.names:=by
 rcases HF WB.names [] f h c with ⟨e,k⟩|c
 ·let⟨@d,a⟩:=Wo.cells ok (f,.free) k rfl;rw[show (List.lookup f b.env.cells)=Z d from a]at e;refine⟨?_,k⟩;rw[e];exact a
 ·simp at c
theorem IY(Wo:kk b WB own WH)(H:aK b R D m j)(l:j.heap.objs.size<=aT)(i:∀d∈bL,kU b R m d)(n:∀d∈bL,d<j.heap.objs.size):(b.gR (gM b own WH) WB ⟨aT,j,m,bL⟩).Ok where
 mod:=H.ok.mod
 kind:=Wo.kind
 glob:=H.ok.glob
 blt:=H.ok.blt
 above:=l
 inj:=λf C h A E=>H.ok.inj f C h (Wo.sub H.ok A).1 (Wo.sub H.ok E).1
 has:=λf g=>by
  have k:(f,ea.free)∈WB.names:=by
   rcases g with g|g
   ·exact yM g (.inl rfl) Wo.cell
   ·exact yM g (.inr rfl) Wo.cell
  exact yW WB.names [] f (.inl k)
 qA:=λf h c W=>nomatch c
 hd:=H.ok.hd
 frames:=H.ok.frames
 tK:=.inl rfl
 y2:=λd a=>⟨dP<|gm (n d a) l,λf h c=>(i d a).2.2.2.2.1 f h (Wo.sub H.ok c).1⟩
 bs:=H.bs
 mq:=fu H.ok.mq H.iA
 pK:=λd o e a=>by
  rcases (i d a).2.2.2.1 with z|z
  ·exact H.ok.pK d o e z
  ·exact absurd (gm (cu e)<|fu H.ok.mq z) (lN _)
 pz:=λd a z=>by
  rcases cg.mp (H.x5 d z) with e|e
  ·exact (i d a).2.1 e
  ·exact (i d a).2.2.1 e
 j2:=H.stack
 o4:=H.JA
theorem TS{A:a_}{WN:Nat}{k:aI->Option ag}(Wo:kk b WB own WH)(H:aK b R D m j)(B:j.heap.objs.size<=aT)(S:∀d∈bL,kU b R m d)(T:∀d∈bL,d<j.heap.objs.size)(w:∀d o,j.heap.get? d=Z o->A.get? d=Z o)(U:A.Ns aT k):
  aK (b.gR (gM b own WH) WB ⟨aT,j,m,bL⟩) [] (kX own WH D) m {j with heap:=A,toks:=WN} where
 ok:=IY Wo H B S T
 os:=rfl
 bare:=H.bare
 base:=fY.kept w
 loc:=by
  let⟨@bd,be,al⟩:=H.loc;refine⟨k,U,λi f v g e s=>?_⟩;have g:(own++WH.map λa=>b.N.getD a "")[i]?=Z f:=g;have e:(own.map (λ_=>(Y:Option ar))++WH.map λa=>D.getD a Y)[i]?=Z (Z v):=e;by_cases am:i<own.length
  ·rw[jN (by rw[aZ];exact am),fp]at e;cases p:own[i]? with
   |none=>rw[p]at e;cases e
   |some E=>rw[p]at e;cases e
  ·rw[kM ⋯,fp]at g;rw[kM (by rw[aZ];lia),fp,aZ]at e;cases p:WH[i-own.length]? with
   |none=>rw[p]at g;cases g
   |some a=>
    rw[p]at g e;have g:b.N.getD a "" = f:=Option.some.inj g;have e:D.getD a Y=Z v:=Option.some.inj e;let⟨@l,F,G,an⟩:=Wo.Pc a (fH p);have W7:l=f:=by
     rw[<-g,cP,F];rfl
    subst W7;have Wd:D[a]?=Z (Z v):=by
     rw[cP]at e;cases I:D[a]? with
     |none=>rw[I]at e;cases e
     |some E=>rw[I]at e;rw[show E=Z v from e]
    have L:=Wo.free (l,.free) G rfl;let⟨@J,u,lk⟩:=al a l v F Wd (.inr<|.inl L);refine⟨J,u,.inr ⟨?_,?_⟩⟩
    ·rcases s with s|s|s
     ·
      exfalso;have:∀{x:List (aI×ea)},x.lookup l=Z .free->(x.map λ(r,n)=>if (n==ea.free&&b.env.scope.kind==.function&&b.env.kindOf r==Z .cell) then (r,ea.cell) else (r,n)).lookup l≠Z .local:=by
       intro x;induction x with
       |nil=>intro c;simp at c
       |cons C u M=>
        let⟨r,n⟩:=C;intro c;rw[cS];dsimp only;by_cases O:l=r
        ·subst O;have Xr:n=.free:=by simpa [j6] using c
         subst Xr;by_cases t:(ea.free==ea.free&&b.env.scope.kind==ScopeKind.function&&b.env.kindOf l==Z ea.cell)=aa
         ·rw[aJ t];simp[j6]
         ·rw[aP t];simp[j6]
        ·have y:(l==r)=aw:=by simpa using O
         rw[j6,y]at c;by_cases t:(n==ea.free&&b.env.scope.kind==ScopeKind.function&&b.env.kindOf r==Z ea.cell)=aa
         ·rw[aJ t,j6,y];exact M c
         ·rw[aP t,j6,y];exact M c
      exact this an s
     ·exact .inl s
     ·exact .inr s
    ·rcases lk with ⟨ap,_⟩|⟨_,h,as,a1⟩
     ·exact absurd (ap.symm.trans L) ↥0
     ·let⟨@bi,P⟩:=yW (Wc:=b.env) WB.names [] l (.inl G);have:=(Wo.sub H.ok P).1;rw[as]at this;cases this;let⟨@o,z,hd⟩:=a1;exact⟨h,P,o,w _ _ z,hd⟩
 cell:=λf h c=>by
  let⟨v,@o,z,hd⟩:=H.cell f h (Wo.sub H.ok c).1;exact⟨v,o,w _ _ z,hd⟩
 free:=H.bg.fresh B
 kv:=λf h c=>H.kv f h (Wo.sub H.ok c).1
 pin:=λq a2=>nomatch a2
 bg:=H.bg.kept w
 len:=by simp[kX,gM,aR.gR]
def DL(b:aR)(T:List bF)(B:e1)(R:List (aj×bk)):Prop:=(
 ∀(j:au) (D:a9) (m:aG) (G:Bool->aG->Prop),aK b R D m j->B D m G->
  wpAny (aV b.prog b.w) b.A (forIn T aa λh u=>if u=aa then do let ok <-rm h b.env (cE h b.env);pure (ForInStep.yield ok) else pure (ForInStep.yield u)) (t8 b R D G) b.dc j)
def rO(b:aR)(T:List bF)(B:e1):Prop:=(∀R,DL b T B R)
def R5:e1:=(λ_ m G=>G aa m)
def M_:rO b [] R5:=λR j D m G H c=>wpAny_tests_nil ⟨m,H,c⟩
def RF{h:bF}{B:e1}(c:iC b h B):rO b [h] B:=λR j D m G H a=>wpAny_tests_one (c R j D m G H a)
def Ke(own:List aI)(WH:List Nat)(L:hl)(I:e1)(Xd:cj)(D:a9)(WM:List ar->aG->Prop)(Wn:List ar)(f:ar)(V6:aG):Prop:=(
 L f (kX own WH D) V6 λa Ws=>(∀(i:Nat) (v:ar),(kX own WH D)[i]?=Z (Z v)->a[i]?=Z (Z v))/\I a Ws λd b=>if d=aa then Xd a b λv c=>Wn.length<sizeLine/\WM (Wn++[v]) c else WM Wn b)
def Sy(Xg:gc)(own:List aI)(WH:List Nat)(L:hl)(I:e1)(Xd:cj)(D:a9)(Wh:aG)(G:c5):Prop:=(
 ∃W:Nat->Nat->List ar->aG->Prop,(∃k,W 0 k [] Wh)/\∀a k Wn m,W a k Wn m->(Xg.stop a m/\∀y,m y=Y->G (.ref y) (upd m y<|.lst Wn))\/
  (Xg.go a m/\∃WM:List ar->aG->Prop,(∀b V6,WM b V6->∃c,c<k/\W (a+1) c b V6)/\∀f V6,Xg.tJ a m f V6->Ke own WH L I Xd D WM Wn f V6))
def vw(own:List aI)(WH:List Nat)(fV:dM)(L:kQ->hl)(I:kQ->e1)(Xd:kQ->cj):cj:=(λD m G=>fV D m λXg Wh=>∀Wt:kQ,Sy Xg own WH (L Wt) (I Wt) (Xd Wt) D Wh G)
def xv(B:hQ)(WM:List aI)(WB:hQ)(WH:List Nat):Bool:=(
 WB.kind==.function&&WB.names.all (λC=>C.2 != .cell)&&WB.names.all (λC=>C.2 != .free || B.names.lookup C.1==Z .cell)&&WB.names.all (λC=>C.2 != .local || WB.names.lookup C.1==Z .local) &&
  WH.all (λa=>match WM[a]? with|some f=>WB.names.lookup f==Z .free|none=>aw))
theorem mem_of_lookup:∀{t:List (aI×ea)}{f:aI}{n:ea},t.lookup f=Z n->(f,n)∈t
 |[],_,_,c=>by simp at c
 | (r,b)::u,f,n,c=>by
  rw[j6]at c;by_cases a:f=r
  ·subst a;rw[my]at c;cases c;exact m_
  ·rw[show (f==r)=aw by simpa using a]at c;exact l8 _ (mem_of_lookup c)
def mP{b:aR}(B:hQ)(WM:List aI)(c:xv B WM WB WH=aa)(e:b.env.scope=B:=by rfl)(j:b.N=WM:=by rfl):kk b WB own WH:=by
 unfold xv at c;simp only[cy,e_,bne_iff_ne,ne_eq,pQ,t4]at c;let@⟨@⟨@⟨@⟨A,E⟩,k⟩,l⟩,m⟩:=c;refine⟨A,E,λC d g=>?_,λC d g=>?_,λa S=>?_⟩
 ·rw[e];exact (k C d).resolve_left λh=>h g
 ·exact (l C d).resolve_left λh=>h g
 ·have:=m a S;rw[j];cases p:WM[a]? with
  |none=>rw[p]at this;cases this
  |some f=>
   rw[p]at this;have i:WB.names.lookup f=Z .free:=by simpa using this
   exact⟨f,rfl,mem_of_lookup i,i⟩
def BS{W4:Pos}{use:Option (ag->er Unit)}{f1:ag->au->Prop}{lc:c5}(op:b.calm=aa)(Wo:kk b WB own WH)(S:lX b WL Xb fV)(o0:∀Wt,ks (b.gR (gM b own WH) WB Wt) WL<|L Wt)(br:∀Wt,rO (b.gR (gM b own WH) WB Wt) T<|I Wt)(pc:∀Wt,bU (b.gR (gM b own WH) WB Wt) Xj<|Xd Wt)(Wd:∀f,nk Xb b.env f=pure f)(H:aK b R D m j)(c:vw own WH fV L I Xd D m lc)(pi:∀(y aT:aj) (f2:aG) (G:au) (k:aI->Option ag),aK b R D f2 G->G.heap.Ns aT k->f2 aT=Y->b.env.locals≠aT->(∀f h,b.env.cells.lookup f=Z h->h≠aT)->b.fS.heap.objs.size<=aT->(∀q∈b.l6++R,q.1≠aT)->lc (.ref y) f2->compPost (aV b.prog b.w) b.A b.dc use f1 (.ref y) aT (.ok .next) G):
  wpAny (aV b.prog b.w) b.A (x8 (.ListComp Xj [⟨WL,Xb,T,0⟩] WB Wq) WB b.env W4 (th []) aw (cE Xb b.env) use) f1 b.dc j:=by
 refine wpAny_comprehension_free (use:=use) rfl Wd (N9<|Wo.cells H.ok) Wo.kind Wo.loc (b6 (S R j D m _ H c) λv v4 A=>b6 A λv6 x E=>?_);let⟨it,bL,i,Xg,@Ws,e,am,F,f4,ap,pm⟩:=E;subst e;have cs:∀d∈bL,d<x.heap.objs.size:=λd s=>by
  let⟨@o,e,Q⟩:=F.obj _ _ f4 d s;exact cu e
 refine hD (wpAny_newFunctionEnv Wo.cell (by intro C po;simp at po) (λf8 db cd=>?_) Wo.kind);dsimp only at db cd ⊢;generalize ga:x.heap.push {cls:=.type "list",dict:=Y,data:=.seq ([]:List ag).toArray}=ds at db cd ⊢;have ce:ds.objs.size=x.heap.objs.size+1:=by rw[<-ga,oy]
 have bd:x.heap.objs.size≠ds.objs.size:=by rw[ce];exact dP (pL _)
 have ge:x.heap.objs.size<=ds.objs.size:=by rw[ce];exact CG _
 have gl:∀d o,x.heap.get? d=Z o->f8.get? d=Z o:=λd o e=>
  cd.extBut d o (by rw[ce];exact dP (Nat.lt_succ_of_lt<|cu e)) (cv _<|ga ▸ cv _ e);have lf:f8.get? x.heap.objs.size=Z {cls:=.type "list",data:=.seq ([]:List ag).toArray 0}:=cd.extBut _ _ bd (cv _<|ga ▸ d4 _ rfl);generalize wf:ds.objs.size=aT at db cd ce bd ge ⊢;generalize be:x.heap.objs.size=y at lf ce bd ge ⊢;have ch:x.heap.objs.size<=aT:=by rw[be];exact ge
 let⟨@W,⟨@pp,pr⟩,turn⟩:=pm ⟨aT,x,Ws,bL⟩;have li:=λ(WN:Nat)=>TS (WN:=WN) Wo am ch ap cs gl db;have lm:=o0 ⟨aT,x,Ws,bL⟩;have ln:=br ⟨aT,x,Ws,bL⟩;have ls:=pc ⟨aT,x,Ws,bL⟩;have gt:=IY Wo am ch ap cs;generalize N:b.gR (gM b own WH) WB ⟨aT,x,Ws,bL⟩=t at li lm ln ls gt;have bm:t.prog=b.prog:=by rw[<-N];rfl
 have bn:t.w=b.w:=by rw[<-N];rfl
 have lv:t.K=b.K:=by rw[<-N];rfl
 have ci:t.A=b.A:=by rw[<-N];rfl
 have lw:t.calm=aa:=by rw[<-N];exact op
 have bs:t.env.locals=aT:=by rw[<-N];rfl
 have g1:t.ex=bL:=by rw[<-N];rfl
 have dL:t.fS=x:=by rw[<-N];rfl
 have pt:t.pG=Ws:=by rw[<-N];rfl
 have pu:t.V=jj b.stack:=by rw[<-N];rfl
 have eq:t.l6=[]:=by rw[<-N];rfl
 have g2:t.dc=λ_ Q=>False:=by rw[<-N];rfl
 have mb:t.env=vy WB (oH b.env WB.names) aT b.env:=by rw[<-N];rfl
 have mo:∀f h,t.env.cells.lookup f=Z h->b.env.cells.lookup f=Z h:=λf h c=>(Wo.sub am.ok (by rw[mb]at c;exact c)).1;have py:∀f h,t.env.cells.lookup f=Z h->h≠y:=λf h c z=>by
  let⟨v,@o,as,Q⟩:=am.cell f h (mo f h c);have:=cu as;rw[z,<-be]at this;exact lN _ this
 have g3:∀d∈bL,d≠y:=λd s z=>by
  have:=cs d s;rw[z,<-be]at this;exact lN _ this
 have rc:y∉t.V:=λz=>by
  let@⟨_,⟨@o,as,_⟩⟩:=gt.j2.mem z;rw[dL]at as;have:=cu as;rw[be]at this;exact lN _ this
 have hd:∀(V6:aG) (o:bk),(∀d∈bL,V6 d=Y)->∀d∈bL,kU t [(y,o)] V6 d:=λV6 o he d s=>by
  refine⟨he d s,?_,?_,.inl (by rw[g1];exact s),λf h c=>(ap d s).2.2.2.2.1 f h (mo f h c),λq B=>?_⟩
  ·rw[bs];exact dP (gm (cs d s) ch)
  ·exact gt.pz d (by rw[g1];exact s)
  ·rw[eq]at B;have:q=(y,o):=by simpa using B
   rw[this];exact g6 (g3 d s)
 have mp:∀hf:au,hf={x with heap:=f8,toks:=x.toks+([]:List (aI×ag)).length}->
   codeAny (aV b.prog b.w) b.A (.compLoop (.ListComp Xj [⟨WL,Xb,T,0⟩] WB Wq) 0 (.ref it) (.ref y) t.env)
    (compPost (aV b.prog b.w) b.A b.dc use f1 (.ref y) aT) hf:=by
  rintro hf rfl;refine RG (λr V9=>∃(a:Nat) (Wn:List ar) (V6:aG) (Wl:List ag) (n:Nat),aK t [(y,{cls:=.type "list",data:=.seq Wl.toArray n})] (kX own WH D) V6 V9/\b1 Wn Wl/\Wn.length<=sizeLine/\i a V9.heap/\
   (∀d∈bL,V6 d=Y)/\W a r Wn V6) ?_ pp ?_
  ·rintro r ms ⟨a,Wn,O,Wl,n,hm,ev,m0,na,nb,re⟩;rcases turn a r Wn O re with ⟨stop,rs⟩|⟨go,WM,ne,step⟩
   ·have:=F.done t bm bn lv lw a _ ms _ O (λ_ Q=>False) hm (hd O _ nb) na stop;rw[ci]at this;refine b6 this λu G U=>?_;let@⟨hw,a1⟩:=U;subst hw;let⟨@k,he,Q⟩:=a1.loc;have sc:G.heap.Ns aT k:=by rw[<-bs];exact he
    have B:=a1.pin (y,{cls:=.type "list",data:=.seq Wl.toArray n}) (by rw[eq];simp);have bv:O y=Y:=B.2.1;have dj:∀d,d≠aT->G.heap.get? d=G.heap.get? d:=λd s=>rfl;have ca:∀d o,x.heap.get? d=Z o->d≠aT:=λd o e=>dP (gm (cu e) ch);have sn:∀d o,x.heap.get? d=Z o->d≠y:=λd o e=>by rw[<-be];exact dP (cu e)
    have an:fY (jj b.stack) bL Ws O x.heap G.heap:=by
     have:=a1.base;rw[pu,g1,pt,dL]at this;exact this
    have J:fY (jj b.stack) bL Ws (upd O y<|.lst Wn) x.heap G.heap:=
     ⟨λd o e r s bi=>(dj d<|ca d o e).trans<|an.keep d o e r s bi,
      λd o e r s bi=>by
      let⟨@aO,p⟩:=an.slot d o e r s bi;exact⟨aO,(dj d<|ca d o e).trans p⟩,
      λd o e r bi=>by rw[dI (sn d o e)];exact an.free d o e r bi,
      λd o e bi=>by
      let⟨@M,p⟩:=an.there d o e bi;exact⟨M,(dj d<|ca d o e).trans p⟩,
      λd w e=>by rw[dI (ij (an.l7 d w e) bv)];exact an.l7 d w e,
      λd o w e=>by rw[dI (ij (an.la d o w e) bv)];exact an.la d o w e,
      λd Wk e=>by
      let⟨@sp,p⟩:=an.mr d Wk e;exact⟨sp,by rw[dI (ij p bv)];exact p⟩⟩
    have nl:∀d o,O d=Z o->d≠aT:=λd o e z=>by
     have:=a1.free;rw[bs,<-z,e]at this;cases this
    have ss:eE b.prog b.w (upd O y<|.lst Wn) G.heap:=λg o e=>by
     by_cases nm:g=y
     ·subst nm;rw[fB]at e;cases e;exact⟨m0,Wl,n,ev,(dj _ bd).trans B.1⟩
     ·rw[dI nm]at e;have:=a1.bg g o e;rw[bm,bn]at this;refine this.kB (λd J s p=>(dj d ?_).trans p) (λd p=>by rw[dI (ij p bv)];exact p) λd w p=>by rw[dI (ij p bv)];exact p
      rcases s with z|z
      ·rw[z];exact nl g o e
      ·exact nl d _ z
    have sw:aK b R D (upd O y<|.lst Wn) G:=am.Qy (V9:=G) (Xh:=bL) (by have:=a1.os;rw[dL]at this;exact this) J ss a1.bare λd s=>⟨(ap d s).2.2.2.1,(ap d s).2.1,(ap d s).2.2.2.2.1,(ap d s).2.2.2.2.2⟩;have sB:b.env.locals≠aT:=by
     let⟨@wl,sK,Q⟩:=am.loc;let⟨o,Q,@Q,as,Q⟩:=sK;exact ca _ _ as
    have s0:∀f h,b.env.cells.lookup f=Z h->h≠aT:=λf h c=>by
     let⟨v,@o,as,Q⟩:=am.cell f h c;exact ca _ _ as
    refine pi y aT _ G k sw sc ?_ sB s0 ?_ (λq B=>ca _ _ (am.pin q B).1) (rs y bv)
    ·rw[dI (g6 bd)];have:=a1.free
     rwa [bs]at this
    ·exact fu am.iA ch
   ·have:=F.item t bm bn lv lw a _ ms _ O (λ_ Q=>False) hm (hd O _ nb) na go;rw[ci]at this;refine b6 this λu G U=>?_;let⟨@J,hw,s1⟩:=U;subst hw;refine b6 s1 λ_ cl U=>?_;let⟨f,@h0,s2,s3,s4,ii,s5⟩:=U;have to:=s2.pinned (hd h0 _ s5) (F.obj _ _ ii);have nn:=lm _ cl _ h0 f J _ to s3 (step f h0 s4);rw[bm,bn,ci,g2]at nn;refine b6 nn λ_ tt U=>?_;let⟨co,@ty,tz,t0,t1⟩:=U;have no:=ln _ tt co ty _ tz t1;rw[bm,bn,ci,g2]at no;refine b6 no λd t3 U=>?_;let⟨@np,fd,fn⟩:=U;have ns:∀{nw:a9}{V6:aG}{V9:au},aK t ([(y,{cls:=.type "list",data:=.seq Wl.toArray n})]++nS bL cl.heap) nw V6 V9->(∀d∈bL,V6 d=Y)/\i (a+1) V9.heap:=λ{nw V6 V9} cr=>by
     refine⟨λd s=>?_,F.keep _ _ _ ii λd s o e=>(cr.pin (d,o)<|ej _<|ej _<|ui s e).1⟩;let⟨@o,e,Q⟩:=F.obj _ _ ii d s;exact (cr.pin (d,o)<|ej _<|ej _<|ui s e).2.1
    have iD:∀{im:List (aj×bk)}{V6:aG}{V9:au},aK t im co V6 V9->aK t im (kX own WH D) V6 V9:=λ{im V6 V9} cr=>
     cr.weak (by rw[cr.len,hm.len]) t0;cases d with
    |false=>
     rw[aP dz]at fn;let⟨@io,jp,ul⟩:=ne _ _ fn;rw[aP dz];let@⟨WD,WR⟩:=ns fd;exact⟨io,jp,a+1,Wn,np,Wl,n,iD (fd.qW λq B=>fd.pin q (by
      rw[eq];simp at B ⊢;exact .inl B)),ev,m0,WR,WD,ul⟩
    |true=>
     rw[aJ rfl]at fn ⊢;have of:=ls _ t3 co np _ fd fn;rw[bm,bn,ci,g2]at of;refine b6 of λal a2 U=>?_;let⟨un,@kt,fr,up,wn,us⟩:=U;let⟨@io,jp,ut⟩:=ne _ _ us;have B:=fr.pin (y,{cls:=.type "list",data:=.seq Wl.toArray n}) (ej _ (ed _ ↥0));have kw:=B.1;refine ro Gk ⟨_,kw,rfl⟩ D_ (EV _ _) (Gm y Wl.toArray n al (by rw[cV,<-ev.length];lia)) ⟨kw,?_⟩;have p:=Eo kw (λg=>g.push al);let@⟨WD,WR⟩:=ns fr;have u8:aK t (nS bL cl.heap) co kt a2:=fr.qW λq B=>fr.pin q (ej _<|ej _ B);have ol:∀d o,d≠y->a2.heap.get? d=Z o->(a2.heap.update y<|bk.mapSeq λg=>g.push al).get? d=Z o:=λd o s e=>(lP a2.heap _<|g6 s).trans e;have v0:aK t (nS bL cl.heap) co kt {a2 with heap:=a2.heap.update y (bk.mapSeq λg=>g.push al),toks:=a2.toks}:=
      u8.turned (it:=y) ol B.2.1 (by rw[bs];exact bd) (.inr (by rw[dL,be];exact bb _)) py λq f0=>by
       rw[eq]at f0;let@⟨s,_⟩:=Ed (show q∈nS bL cl.heap by simpa using f0);exact g3 _ s
     refine⟨io,jp,a+1,Wn++[un],kt,Wl++[al],n+1,iD<|v0.qW λq f0=>?_,ev.append<|.cons up .nil,?_,?_,WD,ut⟩
     ·have e:q=(y,{cls:=.type "list",data:=.seq (Wl++[al]).toArray (n+1)}):=by simpa using f0
      subst e;refine⟨?_,B.2.1,B.2.2.1,B.2.2.2.1,λv z=>by cases z⟩;have v1:Wl.toArray.push al=(Wl++[al]).toArray:=by simp
      rw[<-v1];have on:IsL (a2.heap.update y<|bk.mapSeq λg=>g.push al) y (Wl.toArray.push al) (if (Wl.toArray.push al).size==Wl.toArray.size then n else n+1):=p;rw[aP ↥0]at on;exact on
     ·rw[b_,eO];lia
     ·refine F.keep _ _ _ WR λd s o e=>ol d o (g3 d s) e
  ·refine⟨0,[],Ws,[],0,?_,.nil,f7 _,F.keep _ _ _ f4 λd Q o e=>gl d o e,λd s=>(ap d s).1,pr⟩;refine (li _).qW λq B=>?_;have e:q=(y,{cls:=.type "list",data:=.seq ([]:List ag).toArray 0}):=by simpa using B
   subst e;exact⟨lf,am.bg.fresh (by rw[be];exact bb _),by rw[bs];exact bd,rc,λv z=>by cases z⟩
 have v2:vy WB (oH b.env WB.names) aT b.env=t.env:=mb.symm;show codeAny (aV b.prog b.w) b.A (.compStart _ 0 (.ref it) (.ref y)<|vy WB (oH b.env WB.names) aT b.env) _ _;rw[v2];exact codeAny_compStart_list (mp _ rfl) (F.self b.A 0 _ _ _ (F.keep _ _ _ f4 λd Q o e=>gl d o e)<|mp _ rfl)
def Pj(g:b.calm=aa)(Wo:kk b WB own WH)(S:lX b WL Xb fV)(i:∀Wt,ks (b.gR (gM b own WH) WB Wt) WL<|L Wt)(br:∀Wt,rO (b.gR (gM b own WH) WB Wt) T<|I Wt)(l:∀Wt,bU (b.gR (gM b own WH) WB Wt) Xj<|Xd Wt)(Wd:∀f,nk Xb b.env f=pure f:=by intro W;rfl):bU b (.ListComp Xj [⟨WL,Xb,T,0⟩] WB Wq) (vw own WH fV L I Xd):=by
 intro R j D m G H c;show wpAny _ b.A (x8 (.ListComp Xj [⟨WL,Xb,T,0⟩] WB Wq) WB b.env _ (th []) aw (cE Xb b.env) Y) _ _ j;refine BS (use:=Y) (f1:=e4 b R D G) g Wo S i br l Wd H c λy aT n a k r s x t h u q p=>?_;show ∃k,a.heap.Ns aT k/\∀U,a_.SameBut aT a.heap U->e4 b R D G (.ref y) {a with heap:=U};refine⟨k,s,λU c0=>⟨.ref y,n,?_,rfl,p⟩⟩;exact r.turned (it:=aT) (WJ:=a.toks) (λd o v e=>(c0.2 d v).trans e) x (g6 t) (.inr u) h q
end
def j3(c:a_)(s:aj)(Wg:List ag)(W2:Nat):Prop:=(∃o V_,c.get? s=Z o/\o.ExactDict/\o.data=.dict V_ W2/\V_.toList.map (·.key)=Wg)
def j3.ty(f:j3 j.heap s Wg W2):j.TypeIs (.ref s) "dict" := let ⟨o,_,e,h,_⟩:=f;⟨o,e,h.1⟩
def j3.lt(f:j3 c s Wg W2):s<c.objs.size:=let ⟨_,_,e,_⟩:=f;cu e
def j3.go{U:a_}(f:j3 c s Wg W2)(n:∀o,c.get? s=Z o->U.get? s=Z o):j3 U s Wg W2:=let ⟨o,V_,e,u⟩:=f;⟨o,V_,n o e,u⟩
section
variable{Wf:bS}{l:bA}{P:bH}{Wa:ag->au->Prop}{j:au}
def P5{G:ag->au->Prop}(M:(s==jW)=aw)(f:j3 j.heap s Wg W2)(p:G (.ref j.heap.objs.size) {j with heap:=j.heap.push {cls:=.type "dict_keyiterator",data:=.fields #[.ref s,.int 0 0,.int Wg.length 0,.int W2 0]} }):wpAny (aV Wf l) P (s_<|.ref s) G Wa j:=by
 have ty:=f.ty;let⟨o,@V_,a,d,b,c⟩:=f;have r:V_.size=Wg.length:=by rw[<-c,aZ,eb]
 refine wpAny_pyIter_slot ty Ja (j4 Ja ty F.entry_dict_iter ?z<|F.args_dict_iter_1 _)
 case z=>
  unfold bl.«dict.__iter__» bl.Dict.dictSlotNone;refine aA (aA<|DN ty ?_);show wpAny _ _ (pure<|ag.ref s) _ _ j;apply aU;show wpAny _ _ (bl.Dict.showsAll s >>= _) _ _ j;unfold bl.Dict.showsAll;rw[aP (by rw[M];simp)];refine aA (aU<|aA<|uE a b<|aA<|zG a b<|aA<|hD<|aU ⟨_,rfl,"dict_keyiterator",_,⟨_,d4 _ rfl,rfl⟩,sZ.lookup,?_⟩);simpa [lV,r] using p
def Rc{it s:aj}{v:ag}(b:j.heap.IsKeyIter it s a Wg.length W2)(f:j3 j.heap s Wg W2)(d:Wg[a]?=Z v)(p:∀U,U.IsKeyIter it s (a+1) Wg.length W2->a_.SameBut it j.heap U->G (Z v) {j with heap:=U}):wpAny (aV Wf l) P (h1<|.ref it) G Wa j:=by
 let⟨@q,e,n,c⟩:=id b;let⟨o,@V_,h,t,i,k⟩:=f;have r:V_.size=Wg.length:=by rw[<-k,aZ,eb]
 have S:a<V_.size:=by
  have:a<Wg.length:=(gk.mp d).1;lia
 have Xr:V_[a].key=v:=by
  rw[<-k,fp,fD,pl S]at d;exact Option.some.inj d
 unfold h1;refine aA (sf<|lG (name:=aI.ofString "__next__") b.typeIs sZ<|j4 sZ b.typeIs FY ?g<|IH _)
 case g=>
  refine aA (aU<|aA<|aA ?_);refine aA (v_ b.typeIs<|aU<|aA<|Cw e c ?_);simp only[show bl.Dict_items.ownsTuple "dict_keyiterator" = aw by decide,hJ,gf];show wpAny _ _ (if (ag.ref s==ag.none)=aa then _ else _) _ _ j;rw[aP (show ¬ (ag.ref s==ag.none)=aa by intro g;cases g)];refine aA (aU<|aA<|uE h i ?_);rw[aP (by simp[r])];refine aA (aU<|aA<|zG h i ?_);rw[aP ↥0];apply aU;simp only[show ¬ ((a:Int)<0) by lia,gf,p0,pl S];refine aA (aA<|v_ b.typeIs<|aU<|aA<|D6 b.typeIs ?_);show wpAny _ _ (setField (.ref it) 1 (lV<|(a:Int)+1) >>= _) _ _ j;have m:(j.heap.update it (bk.mapFields (·.setIfInBounds 1 (lV<|(a:Int)+1)))).IsKeyIter it s (a+1) Wg.length W2:=
   ⟨_,pJ _ e<|BW<|xm c _,(En ..).trans n,by rw[xm c];simp[lV]⟩;refine aA (w_ e c ↥0 (aA (fK (aA (D6 (s:={j with heap:=j.heap.update it (bk.mapFields (·.setIfInBounds 1 (lV<|(a:Int)+1)))}) m.typeIs ?_)))));show wpAny _ _ (pure V_[a].key) _ _ _;rw[Xr];exact aU (aU ⟨_,rfl,aU<|p _ m<|pH ..⟩)
def K1{it s:aj}(n:P.handled=Y)(b:j.heap.IsKeyIter it s a Wg.length W2)(f:j3 j.heap s Wg W2)(t:Wg.length<=a)(p:∀U,a_.ExtBut it j.heap U->G Y {j with heap:=U}):wpAny (aV Wf l) P (h1<|.ref it) G Wa j:=by
 let⟨@u,e,v,h⟩:=id b;let⟨o,@V_,i,w,m,q⟩:=f;have r:V_.size=Wg.length:=by rw[<-q,aZ,eb]
 unfold h1;refine aA (sf<|lG (name:=aI.ofString "__next__") b.typeIs sZ<|j4 sZ b.typeIs FY ?c<|IH _)
 case c=>
  refine aA (aU<|aA<|aA ?_);refine aA (v_ b.typeIs<|aU<|aA<|Cw e h ?_);simp only[show bl.Dict_items.ownsTuple "dict_keyiterator" = aw by decide,hJ,gf];show wpAny _ _ (if (ag.ref s==ag.none)=aa then _ else _) _ _ j;rw[aP (show ¬ (ag.ref s==ag.none)=aa by intro c;cases c)];refine aA (aU<|aA<|uE i m ?_);rw[aP (by simp[r])];refine aA (aU<|aA<|zG i m ?_);rw[aP ↥0];apply aU;simp only[show ¬ ((a:Int)<0) by lia,gf,p0,Array.getElem?_eq_none (show V_.size<=a by lia)];refine aA (aA<|v_ b.typeIs<|aU ?_);show wpAny _ _ (setField (.ref it) 0 .none >>= _) _ _ j;refine aA (w_ e h ↥0 ?_);show wpAny _ _ (wH (.type "StopIteration") [] >>= _) _ _ _;apply aA;simp only[wH,yy];refine aA (hD (aA (m:=wF _ _) (ta (a:=ag.none) (by first|rfl|(simp only[wF];rfl)) (hD ?_ (by size_fits)))) (by size_fits));simp only[raiseNew];apply aA;apply GR;rw[show P.in1.handled=Y from n];refine aA (m:=pure _) (aU<|wpAny_throw ?_);apply aA;refine vh (T := "StopIteration") (b:=aa) ⟨_,d4 _ rfl,rfl⟩ Jm ?_;exact aU (p _<|((pH ..).extBut.push _).push _)
theorem M4(k:P.handled=Y)(it s:aj)(ne:s≠it)(Wg:List ag)(W2:Nat):mf Wf l P it [it,s] [it] Wg.length (λa v=>Wg[a]?=Z v) (λa c=>c.IsKeyIter it s a Wg.length W2/\j3 c s Wg W2) where
 sub:=λd m=>by
  have:d=it:=by simpa using m
  simp[this]
 frame:=λa c U O n=>⟨let ⟨o,e,u⟩:=O.1;⟨o,n it ↥0 o e,u⟩,O.2.go (n s ↥0)⟩
 item:=λa j G Wa S O b=>by
  have i:Wg[a]?=Z Wg[a]:=by simp[S]
  refine Rc O.1 O.2 i λU g d=>b _ U j.toks i ⟨g,O.2.go λo e=>d.extBut s o ne e⟩ λh o f e=>d.extBut h o ⇑f e
 done:=λj G Wa O b=>K1 k O.1 O.2 (bb _) λU d=>b U j.toks λh o f e=>d h o ⇑f e
 self:=λa j G Wa O b=>wpAny_pyIter_keyiter O.1 b
theorem Nc(M:(s==jW)=aw):PySem.W.KdlSrc Wf l "dict" s s Wg.length (λa v=>Wg[a]?=Z v) (λc=>j3 c s Wg W2) where
 type:=λj f=>f.ty
 there:=λc f=>⟨f.lt,f.lt⟩
 keep:=λc U f n=>f.go (n s<|.inl rfl)
 notList:=by decide
 notTuple:=by decide
 hint:=λP Wa j G f p=>PySem.W.kdl_hint_dict f.ty p
 iter:=λP j b f=>⟨_,_,(λWa G p=>P5 M f p),M4 b _ s (dP f.lt) Wg W2,⟨⟨_,d4 _ rfl,rfl,rfl⟩,f.go λo e=>cv _ e⟩⟩
end
end L2
namespace L2
open Spec PyProof.Rows PySem.W
section
variable{r:Nat}{Q:Nat->Int}{b:Nat->Nat->(Bool->au->Prop)->au->Prop}
def bq(Q:Nat->Int)(q:Array Nat)(a:Nat):Int:=(Q (q.getD a 0))
def i0(Q:Nat->Int)(q:Array Nat)(k:Nat):Prop:=(∀a i,a<=i->i<k->bq Q q a<=bq Q q i)
def gG(r:Nat)(Q:Nat->Int)(b:Nat->Nat->(Bool->au->Prop)->au->Prop)(j:au):Prop:=(∀a i aT,a<r->i<r->aT (decide (Q a<Q i)) j->b a i aT j)
def dA(r:Nat)(q:Array Nat):Prop:=(q.toList.Perm (range r))
variable{q:Array Nat}
def dA.size(c:dA r q):q.size=r:=by
 have:=c.length_eq;simpa using this
def dA.lt(c:dA r q){a:Nat}(S:a<r):q.getD a 0<r:=by
 have Wd:=c.size;have e:q.getD a 0=q[a]:=by simp[Array.getD,Wd,S]
 rw[e];have:q[a]∈q.toList:=by simp
 exact fI.mp (c.mem_iff.mp this)
def dA.ne(c:dA r q)(inj:∀a i,a<r->i<r->Q a=Q i->a=i){a i:Nat}(j:a<i)(b:i<r):bq Q q a≠bq Q q i:=by
 intro e;have Wd:=c.size;have d:=inj _ _ (c.lt (by omega)) (c.lt b) e;have f:q.getD a 0=q[a]:=by simp[Array.getD,Wd,show a<r by omega]
 have g:q.getD i 0=q[i]:=by simp[Array.getD,Wd,b]
 rw[f,g]at d;have ao:q.toList.Nodup:=c.nodup_iff.mpr w5;have h:q.toList[a]'(by simpa [Wd] using (show a<r by omega))=q.toList[i]'(by simpa [Wd] using b):=by simpa using d
 have:=(HB ao).mp h;omega
def nR{p:Array Nat}{a i:Nat}(e:q[a]?=p[i]?):bq Q q a=bq Q p i:=by
 unfold bq;rw[EN,EN,e]
theorem dA.rev(c:dA r q)(a i:Nat):dA r (nF q a i):=(Js.mp<|mirror_perm q a i _).trans c
theorem dA.Vo(c:dA r q)(a i:Nat):dA r (rQ q a i):=(Js.mp<|bubble_perm q a i).trans c
end
section
variable{Wf:bS}{l:bA}{P:bH}{Wa:ag->au->Prop}{Wz:hC}{it:Array bw}{Q:Nat->Int}{r:Nat}{j:au}
def pE:Bool->bw->Array bw->Nat->Nat->Nat->StateT bK er (Option Nat):=(sortPriv% PySem.Builtin.gallop)
def sN(b:gG r Q (f6 Wf l P Wz it) j){a i:Nat}(S:a<r)(d:i<r){O:bK}(e:kindOf O=Wz){G:Option Bool->bK->au->Prop}(c:G (Z<|decide (Q a<Q i)) O j):
  kasC (aV Wf l) P Wa (lt' (bt it a)<|bt it i) G O j:=by
 rw[lt'_eq];apply bB;apply kI;have:=b a i (λh V9=>V9=j/\h=decide (Q a<Q i)) S d ⟨rfl,rfl⟩;unfold f6 at this;rw[e];refine bB (pj<|sf<|iz this (λh V9 f=>?_) λ_ W g=>g.elim);let@⟨rfl,rfl⟩:=f;exact bx c
theorem hL{D W_:Type}{aF:ig}{x:Nat->W_->StateT D er (ForInStep W_)}{G:W_->D->au->Prop}(H:Nat->W_->D->au->Prop)(step:∀f h O V9,H f h O V9->kasC aF P Wa (x f h) (λu b d=>match u with | .yield a=>H (f+1) a b d | .done a=>G a b d) O V9):∀(k g:Nat) (h:W_) (O:D) (V9:au),(∀h O V9,H (g+k) h O V9->G h O V9)->H g h O V9->
   kasC aF P Wa (forIn (range' g k) h x) G O V9
 |0,g,h,O,V9,fin,c=>by
  show kasC aF P Wa (forIn ([]:List Nat) h x) G O V9;exact kasC_nil (fin h O V9 c)
 |k+1,g,h,O,V9,fin,c=>by
  show kasC aF P Wa (forIn (g::range' (g+1) k) h x) G O V9;refine kasC_cons (iz (step g h O V9 c) (λu d U=>?_) λ_ W e=>e);let⟨u,b⟩:=u;cases u with
  |done a=>exact U
  |yield a=>exact hL H step k (g+1) a b d (λh O V9 S=>fin h O V9 (by rw[show g+(k+1)=g+1+k by lia];exact S)) U
def c8(Q:Nat->Int)(left:Bool)(n:Nat)(b7:Array Nat)(Wi a:Nat):Bool:=(if left=aa then decide (Q (b7.getD (Wi+a) 0)<Q n) else !decide (Q n<Q (b7.getD (Wi+a) 0)))
def Gj(R:gG r Q (f6 Wf l P Wz it) j){left:Bool}{n:Nat}(T:n<r){b7:Array Nat}(ap:∀a,a<b7.size->b7.getD a 0<r){Wi k b:Nat}(bd:Wi+k<=b7.size)(as:b<k)(mono:∀a i,a<=i->i<k->c8 Q left n b7 Wi i=aa->c8 Q left n b7 Wi a=aa){O:bK}(U:kindOf O=Wz){G:Option Nat->bK->au->Prop}(c:∀u,u<=k->(∀a,a<u->c8 Q left n b7 Wi a=aa)->(∀a,u<=a->a<k->c8 Q left n b7 Wi a=aw)->G (Z u) O j):
  kasC (aV Wf l) P Wa (pE left (bt it n) (b7.map<|bt it) Wi k b) G O j:=by
 have a1:∀a,a<k->(b7.map<|bt it)[Wi+a]?=Z (bt it<|b7.getD (Wi+a) 0):=λa S=>by
  have:Wi+a<b7.size:=⋯
  simp[Array.getD,this]
 have ask:∀a,a<k->∀N:Option Bool->bK->au->Prop,N (Z<|c8 Q left n b7 Wi a) O j->
   kasC (aV Wf l) P Wa (do let f <-elem' (b7.map<|bt it) (Wi+a);if left=aa then lt' f (bt it n) else do let u <-lt' (bt it n) f;pure (u.map λf=>!f)) N O j:=λa S N I=>by
  rw[u9,a1 a S];apply bB;apply bx;have al:=ap (Wi+a) ⋯;unfold c8 at I;cases left with
  |true=>
   rw[aJ rfl]at I ⊢;exact sN R al T U I
  |false=>
   rw[aP dz]at I ⊢;exact bB (sN R T al U<|bx I)
 unfold pE;with_unfolding_all refine bB ?_;refine ask b as _ ?_;dsimp only;cases am:c8 Q left n b7 Wi b with
 |true=>
  rw[aJ rfl];apply bB;apply gV;have F:∀last m,last<m->b+last<k->c8 Q left n b7 Wi (b+last)=aa->(m >= k-b\/c8 Q left n b7 Wi (b+m)=aw)->
    b+last+1<=b+min m (k-b)/\b+min m (k-b)<=k/\(∀a,a<b+last+1->c8 Q left n b7 Wi a=aa)/\(∀a,b+min m (k-b)<=a->a<k->c8 Q left n b7 Wi a=aw)/\b+min m (k-b)-(b+last+1)<=k-0:=λlast m a2 an L D=>by
   refine⟨⋯,⋯,λa S=>mono a (b+last) ⋯ an L,λa A E=>?_,⋯⟩;rcases D with D|D
   ·lia
   ·cases x:c8 Q left n b7 Wi a with
    |false=>rfl
    |true=>rw[mono (b+m) a ⋯ E x]at D;cases D
  refine hL (λf h q V9=>q=O/\V9=j/\∃last m,h=(Y,last,m)/\last<m/\f<m/\b+last<k/\c8 Q left n b7 Wi (b+last)=aa) ?_ _ 0 _ _ _ ?_ ⟨rfl,rfl,0,1,rfl,⋯,⋯,⋯,am⟩
  ·rintro f h q V9 ⟨s,t,last,m,rfl,A,E,o,p⟩;rw[s,t];dsimp only;by_cases H:m >= k-b
   ·rw[aJ H];apply bx;dsimp only;have y:=F last m A o p (.inl H);apply bB;apply gV;refine hL (λf h q V9=>q=O/\V9=j/\∃M S,h=(Y,M,S)/\M<=S/\S<=k/\(∀a,a<M->c8 Q left n b7 Wi a=aa)/\(∀a,S<=a->a<k->c8 Q left n b7 Wi a=aw)/\S-M<=k-f) ?_ _ 0 _ _ _ ?_ ⟨rfl,rfl,_,_,rfl,y⟩
    ·rintro f h q V9 ⟨s,t,M,S,rfl,A,E,o,p,z⟩;rw[s,t];dsimp only;by_cases w:M >= S
     ·rw[aJ w];apply bx;dsimp only;have e:M=S:=⋯
      subst e;exact bx (c M E o p)
     ·rw[aP w];have B:M<=M+(S-M)/2:=⋯
      have C:M+(S-M)/2<S:=⋯
      generalize M+(S-M)/2=mid at B C ⊢;refine bB (ask mid ⋯ _ ?_);dsimp only;cases v:c8 Q left n b7 Wi mid with
      |true=>
       rw[aJ rfl];exact bx ⟨rfl,rfl,mid+1,S,rfl,⋯,E,λa J=>mono a mid ⋯ ⋯ v,p,⋯⟩
      |false=>
       rw[aP dz];refine bx ⟨rfl,rfl,M,mid,rfl,⋯,⋯,o,λa g d=>?_,⋯⟩;cases x:c8 Q left n b7 Wi a with
       |false=>rfl
       |true=>rw[mono mid a g d x]at v;cases v
    ·rintro h q V9 ⟨s,t,M,S,rfl,A,E,o,p,z⟩;rw[s,t];dsimp only;have e:M=S:=⋯
     subst e;exact bx (c M E o p)
   ·rw[aP H];refine bB (ask (b+m) ⋯ _ ?_);dsimp only;cases v:c8 Q left n b7 Wi (b+m) with
    |true=>
     simp only[qx,hJ,gf];exact bx ⟨rfl,rfl,m,2*m+1,rfl,⋯,⋯,⋯,v⟩
    |false=>
     simp only[Bool.not_false,iu];apply bx;dsimp only;have y:=F last m A o p (.inr v);apply bB;apply gV;refine hL (λf h q V9=>q=O/\V9=j/\∃M S,h=(Y,M,S)/\M<=S/\S<=k/\(∀a,a<M->c8 Q left n b7 Wi a=aa)/\(∀a,S<=a->a<k->c8 Q left n b7 Wi a=aw)/\S-M<=k-f) ?_ _ 0 _ _ _ ?_ ⟨rfl,rfl,_,_,rfl,y⟩
     ·rintro f h q V9 ⟨s,t,M,S,rfl,A,E,o,p,z⟩;rw[s,t];dsimp only;by_cases w:M >= S
      ·rw[aJ w];apply bx;dsimp only;have e:M=S:=⋯
       subst e;exact bx (c M E o p)
      ·rw[aP w];have B:M<=M+(S-M)/2:=⋯
       have C:M+(S-M)/2<S:=⋯
       generalize M+(S-M)/2=mid at B C ⊢;refine bB (ask mid ⋯ _ ?_);dsimp only;cases v:c8 Q left n b7 Wi mid with
       |true=>
        rw[aJ rfl];exact bx ⟨rfl,rfl,mid+1,S,rfl,⋯,E,λa J=>mono a mid ⋯ ⋯ v,p,⋯⟩
       |false=>
        rw[aP dz];refine bx ⟨rfl,rfl,M,mid,rfl,⋯,⋯,o,λa g d=>?_,⋯⟩;cases x:c8 Q left n b7 Wi a with
        |false=>rfl
        |true=>rw[mono mid a g d x]at v;cases v
     ·rintro h q V9 ⟨s,t,M,S,rfl,A,E,o,p,z⟩;rw[s,t];dsimp only;have e:M=S:=⋯
      subst e;exact bx (c M E o p)
  ·rintro h q V9 ⟨s,t,last,m,rfl,A,E,o,p⟩;rw[s,t];dsimp only;have y:=F last m A o p (.inl ⋯);apply bB;apply gV;refine hL (λf h q V9=>q=O/\V9=j/\∃M S,h=(Y,M,S)/\M<=S/\S<=k/\(∀a,a<M->c8 Q left n b7 Wi a=aa)/\(∀a,S<=a->a<k->c8 Q left n b7 Wi a=aw)/\S-M<=k-f) ?_ _ 0 _ _ _ ?_ ⟨rfl,rfl,_,_,rfl,y⟩
   ·rintro f h q V9 ⟨s,t,M,S,rfl,A,E,o,p,z⟩;rw[s,t];dsimp only;by_cases w:M >= S
    ·rw[aJ w];apply bx;dsimp only;have e:M=S:=⋯
     subst e;exact bx (c M E o p)
    ·rw[aP w];have B:M<=M+(S-M)/2:=⋯
     have C:M+(S-M)/2<S:=⋯
     generalize M+(S-M)/2=mid at B C ⊢;refine bB (ask mid ⋯ _ ?_);dsimp only;cases v:c8 Q left n b7 Wi mid with
     |true=>
      rw[aJ rfl];exact bx ⟨rfl,rfl,mid+1,S,rfl,⋯,E,λa J=>mono a mid ⋯ ⋯ v,p,⋯⟩
     |false=>
      rw[aP dz];refine bx ⟨rfl,rfl,M,mid,rfl,⋯,⋯,o,λa g d=>?_,⋯⟩;cases x:c8 Q left n b7 Wi a with
      |false=>rfl
      |true=>rw[mono mid a g d x]at v;cases v
   ·rintro h q V9 ⟨s,t,M,S,rfl,A,E,o,p,z⟩;rw[s,t];dsimp only;have e:M=S:=⋯
    subst e;exact bx (c M E o p)
 |false=>
  rw[aP dz];apply bB;apply gV;have F:∀last m,last<m->last<=b->c8 Q left n b7 Wi (b-last)=aw->(m >= b+1\/c8 Q left n b7 Wi (b-m)=aa)->
    b+1-min m (b+1)<=b-last/\b-last<=k/\(∀a,a<b+1-min m (b+1)->c8 Q left n b7 Wi a=aa)/\(∀a,b-last<=a->a<k->c8 Q left n b7 Wi a=aw)/\b-last-(b+1-min m (b+1))<=k-0:=λlast m a2 an L D=>by
   refine⟨⋯,⋯,λa S=>?_,λa A E=>?_,⋯⟩
   ·rcases D with D|D
    ·lia
    ·exact mono a (b-m) ⋯ ⋯ D
   ·cases x:c8 Q left n b7 Wi a with
    |false=>rfl
    |true=>rw[mono (b-last) a ⋯ E x]at L;cases L
  refine hL (λf h q V9=>q=O/\V9=j/\∃last m,h=(Y,last,m)/\last<m/\f<m/\last<=b/\c8 Q left n b7 Wi (b-last)=aw) ?_ _ 0 _ _ _ ?_ ⟨rfl,rfl,0,1,rfl,⋯,⋯,⋯,am⟩
  ·rintro f h q V9 ⟨s,t,last,m,rfl,A,E,o,p⟩;rw[s,t];dsimp only;by_cases H:m >= b+1
   ·rw[aJ H];apply bx;dsimp only;have y:=F last m A o p (.inl H);apply bB;apply gV;refine hL (λf h q V9=>q=O/\V9=j/\∃M S,h=(Y,M,S)/\M<=S/\S<=k/\(∀a,a<M->c8 Q left n b7 Wi a=aa)/\(∀a,S<=a->a<k->c8 Q left n b7 Wi a=aw)/\S-M<=k-f) ?_ _ 0 _ _ _ ?_ ⟨rfl,rfl,_,_,rfl,y⟩
    ·rintro f h q V9 ⟨s,t,M,S,rfl,A,E,o,p,z⟩;rw[s,t];dsimp only;by_cases w:M >= S
     ·rw[aJ w];apply bx;dsimp only;have e:M=S:=⋯
      subst e;exact bx (c M E o p)
     ·rw[aP w];have B:M<=M+(S-M)/2:=⋯
      have C:M+(S-M)/2<S:=⋯
      generalize M+(S-M)/2=mid at B C ⊢;refine bB (ask mid ⋯ _ ?_);dsimp only;cases v:c8 Q left n b7 Wi mid with
      |true=>
       rw[aJ rfl];exact bx ⟨rfl,rfl,mid+1,S,rfl,⋯,E,λa J=>mono a mid ⋯ ⋯ v,p,⋯⟩
      |false=>
       rw[aP dz];refine bx ⟨rfl,rfl,M,mid,rfl,⋯,⋯,o,λa g d=>?_,⋯⟩;cases x:c8 Q left n b7 Wi a with
       |false=>rfl
       |true=>rw[mono mid a g d x]at v;cases v
    ·rintro h q V9 ⟨s,t,M,S,rfl,A,E,o,p,z⟩;rw[s,t];dsimp only;have e:M=S:=⋯
     subst e;exact bx (c M E o p)
   ·rw[aP H];refine bB (ask (b-m) ⋯ _ ?_);dsimp only;cases v:c8 Q left n b7 Wi (b-m) with
    |false=>
     rw[aP dz];exact bx ⟨rfl,rfl,m,2*m+1,rfl,⋯,⋯,⋯,v⟩
    |true=>
     rw[aJ rfl];apply bx;dsimp only;have y:=F last m A o p (.inr v);apply bB;apply gV;refine hL (λf h q V9=>q=O/\V9=j/\∃M S,h=(Y,M,S)/\M<=S/\S<=k/\(∀a,a<M->c8 Q left n b7 Wi a=aa)/\(∀a,S<=a->a<k->c8 Q left n b7 Wi a=aw)/\S-M<=k-f) ?_ _ 0 _ _ _ ?_ ⟨rfl,rfl,_,_,rfl,y⟩
     ·rintro f h q V9 ⟨s,t,M,S,rfl,A,E,o,p,z⟩;rw[s,t];dsimp only;by_cases w:M >= S
      ·rw[aJ w];apply bx;dsimp only;have e:M=S:=⋯
       subst e;exact bx (c M E o p)
      ·rw[aP w];have B:M<=M+(S-M)/2:=⋯
       have C:M+(S-M)/2<S:=⋯
       generalize M+(S-M)/2=mid at B C ⊢;refine bB (ask mid ⋯ _ ?_);dsimp only;cases v:c8 Q left n b7 Wi mid with
       |true=>
        rw[aJ rfl];exact bx ⟨rfl,rfl,mid+1,S,rfl,⋯,E,λa J=>mono a mid ⋯ ⋯ v,p,⋯⟩
       |false=>
        rw[aP dz];refine bx ⟨rfl,rfl,M,mid,rfl,⋯,⋯,o,λa g d=>?_,⋯⟩;cases x:c8 Q left n b7 Wi a with
        |false=>rfl
        |true=>rw[mono mid a g d x]at v;cases v
     ·rintro h q V9 ⟨s,t,M,S,rfl,A,E,o,p,z⟩;rw[s,t];dsimp only;have e:M=S:=⋯
      subst e;exact bx (c M E o p)
  ·rintro h q V9 ⟨s,t,last,m,rfl,A,E,o,p⟩;rw[s,t];dsimp only;have y:=F last m A o p (.inl ⋯);apply bB;apply gV;refine hL (λf h q V9=>q=O/\V9=j/\∃M S,h=(Y,M,S)/\M<=S/\S<=k/\(∀a,a<M->c8 Q left n b7 Wi a=aa)/\(∀a,S<=a->a<k->c8 Q left n b7 Wi a=aw)/\S-M<=k-f) ?_ _ 0 _ _ _ ?_ ⟨rfl,rfl,_,_,rfl,y⟩
   ·rintro f h q V9 ⟨s,t,M,S,rfl,A,E,o,p,z⟩;rw[s,t];dsimp only;by_cases w:M >= S
    ·rw[aJ w];apply bx;dsimp only;have e:M=S:=⋯
     subst e;exact bx (c M E o p)
    ·rw[aP w];have B:M<=M+(S-M)/2:=⋯
     have C:M+(S-M)/2<S:=⋯
     generalize M+(S-M)/2=mid at B C ⊢;refine bB (ask mid ⋯ _ ?_);dsimp only;cases v:c8 Q left n b7 Wi mid with
     |true=>
      rw[aJ rfl];exact bx ⟨rfl,rfl,mid+1,S,rfl,⋯,E,λa J=>mono a mid ⋯ ⋯ v,p,⋯⟩
     |false=>
      rw[aP dz];refine bx ⟨rfl,rfl,M,mid,rfl,⋯,⋯,o,λa g d=>?_,⋯⟩;cases x:c8 Q left n b7 Wi a with
      |false=>rfl
      |true=>rw[mono mid a g d x]at v;cases v
   ·rintro h q V9 ⟨s,t,M,S,rfl,A,E,o,p,z⟩;rw[s,t];dsimp only;have e:M=S:=⋯
    subst e;exact bx (c M E o p)
end
section
variable{Q:Nat->Int}
def cJ(Q:Nat->Int)(t:List Nat):Prop:=(t.Pairwise λf C=>Q f<=Q C)
structure MJ(Q:Nat->Int)(w y:List Nat)(b:List Nat)(z F:Nat):Prop where
 perm:b.Perm (w.take z++y.take F)
 aQ:cJ Q (b++w.drop z)
 c0:cJ Q (b++y.drop F)
 b7:z+1<w.length
 kO:F<y.length
variable{t k:List Nat}
def gs:cJ Q (t++k)↔cJ Q t/\cJ Q k/\∀f∈t,∀C∈k,Q f<=Q C:=EJ
def qR(t:List Nat)(a n:Nat):t.take a++(t.drop a).take n=t.take (a+n):=by rw[List.take_add]
variable{w y b:List Nat}{z F:Nat}
def vc(n:Nat)(perm:b.Perm (w.take z++y.take F))(aQ:cJ Q (b++w.drop z))(c0:cJ Q (b++y.drop F))(c:∀f∈(w.drop z).take n,∀C∈y.drop F,Q f<=Q C):
  (b++(w.drop z).take n).Perm (w.take (z+n)++y.take F)/\cJ Q (b++(w.drop z).take n++w.drop (z+n))/\cJ Q (b++(w.drop z).take n++y.drop F):=by
 refine⟨?_,?_,?_⟩
 ·rw[<-qR w z n];refine (perm.append_right _).trans ?_;rw[bM,bM];exact eL _ dW
 ·rw[bM,<-oM,gi];exact aQ
 ·rw[bM];have d:=gs.mp aQ;have e:=gs.mp c0;refine gs.mpr ⟨d.1,gs.mpr ⟨d.2.1.sublist<|rS _ _,e.2.1,c⟩,λf g C a=>?_⟩;rcases dw.mp a with a|a
  ·exact d.2.2 f g C (nt a)
  ·exact e.2.2 f g C a
def z5(n:Nat)(perm:b.Perm (w.take z++y.take F))(aQ:cJ Q (b++w.drop z))(c0:cJ Q (b++y.drop F))(c:∀f∈(y.drop F).take n,∀C∈w.drop z,Q f<=Q C):
  (b++(y.drop F).take n).Perm (w.take z++y.take (F+n))/\cJ Q (b++(y.drop F).take n++w.drop z)/\cJ Q (b++(y.drop F).take n++y.drop (F+n)):=by
 have:=vc (w:=y) (y:=w) n (perm.trans dW) c0 aQ c;exact⟨this.1.trans dW,this.2.2,this.2.1⟩
variable{a:Nat}
def k7(c:a<t.length):(t.drop a).take 1=[t.getD a 0]:=by
 rw[kr c,cP,eB c];rfl
variable{C:Nat}
def k3(c:C∈t.drop a):∃i,a<=i/\i<t.length/\C=t.getD i 0:=by
 let⟨i,b,e⟩:=mg.mp c;have d:=b;rw[f9]at d;exact⟨a+i,⋯,⋯,by rw[<-e,qh];simp[List.getD,show a+i<t.length by lia]⟩
variable{n:Nat}
def pV(c:C∈(t.drop a).take n):∃i,i<n/\a+i<t.length/\C=t.getD (a+i) 0:=by
 let⟨i,b,e⟩:=mg.mp c;have d:=b;rw[gK,f9]at d;exact⟨i,by omega,by omega,by rw[<-e,vO,qh];simp[List.getD,show a+i<t.length by omega]⟩
def o1(c:cJ Q t){a i:Nat}(d:a<=i)(b:i<t.length):Q (t.getD a 0)<=Q (t.getD i 0):=by
 rcases Nat.lt_or_eq_of_le d with e|rfl
 ·have:=oE.mp c a i ⋯ b e;simpa [List.getD,b,show a<t.length by lia] using this
 ·exact jR _
theorem BR(c:cJ Q (t++k)):cJ Q k:=(gs.mp c).2.1
def rd{i:Nat}(c:cJ Q (b++t.drop a))(d:a<=i)(e:i<=n)(f:n<t.length):Q (t.getD i 0)<=Q (t.getD n 0):=by
 have:=o1 (BR c) (a:=i-a) (i:=n-a) ⋯ (by rw[f9];lia);simpa [List.getD,ng,show a+(i-a)=i by lia,show a+(n-a)=n by lia] using this
def hK(Q:Nat->Int)(it:Array bw)(w y:List Nat)(out:Array bw):Prop:=(∃b:List Nat,out=(b.map<|bt it).toArray/\b.Perm (w++y)/\cJ Q b)
def tG{it:Array bw}(perm:b.Perm (w.take z++y.take F))(aQ:cJ Q (b++w.drop z))(c0:cJ Q (b++y.drop F))(a:F=y.length\/z=w.length):
  hK Q it w y ((b.map<|bt it).toArray++(w.map<|bt it).toArray.extract z (w.map<|bt it).toArray.size++(y.map<|bt it).toArray.extract F (y.map<|bt it).toArray.size):=by
 refine⟨b++w.drop z++y.drop F,?_,?_,?_⟩
 ·apply lF;simp[jE,sP]
 ·rw[bM];refine (perm.append_right _).trans ?_;have:(w.take z++y.take F++(w.drop z++y.drop F)).Perm ((w.take z++w.drop z)++(y.take F++y.drop F)):=by
   rw[bM,bM];refine eL _ ?_;rw[<-bM,<-bM];exact gj _ dW
  rw[gi,gi]at this;exact this
 ·rcases a with e|e
  ·rw[e,yu,cO];exact aQ
  ·rw[e,yu,cO];exact c0
def uk{it:Array bw}(perm:b.Perm (w.take z++y.take F))(aQ:cJ Q (b++w.drop z))(c0:cJ Q (b++y.drop F))(d:z+1=w.length)(du:∀f∈y,Q f<=Q (w.getD (w.length-1) 0)):
  hK Q it w y ((b.map<|bt it).toArray++(y.map<|bt it).toArray.extract F (y.map<|bt it).toArray.size++(w.map<|bt it).toArray.extract z (w.map<|bt it).toArray.size):=by
 refine⟨b++y.drop F++w.drop z,?_,?_,?_⟩
 ·apply lF;simp[jE,sP]
 ·rw[bM];refine (perm.append_right _).trans ?_;have:(w.take z++y.take F++(y.drop F++w.drop z)).Perm ((w.take z++w.drop z)++(y.take F++y.drop F)):=by
   rw[bM,bM];refine eL _ ?_;rw[<-bM];exact dW
  rw[gi,gi]at this;exact this
 ·refine gs.mpr ⟨c0,BR aQ,λf a C c=>?_⟩;rcases dw.mp a with a|a
  ·exact (gs.mp aQ).2.2 f a C c
  ·let⟨@i,A,E,rfl⟩:=k3 c;have:i=w.length-1:=⋯
   rw[this];exact du f (lj a)
end
section
variable{Wf:bS}{l:bA}{P:bH}{Wa:ag->au->Prop}{Wz:hC}{it:Array bw}{Q:Nat->Int}{r:Nat}{j:au}
def I6:Array bw->Array bw->StateT bK er (Array bw):=(sortPriv% PySem.Builtin.mergeLo)
structure dV(u O:bK):Prop where
 k:kindOf O=kindOf u
 a:arrOf O=arrOf u
 p:iK O=iK u
 f:i5 O=i5 u
def dV.refl(O:bK):dV O O:=⟨rfl,rfl,rfl,rfl⟩
def iY{D Ww:Type}{aF:ig}{k:StateT D er Ww}{G a:Ww->D->au->Prop}{O:D}{V9:au}(c:kasC aF P Wa k a O V9)(L:∀g O V9,a g O V9->G g O V9):kasC aF P Wa k G O V9:=
 iz c (λu V9 f=>L u.1 u.2 V9 f) λ_ W e=>e
variable{t:List Nat}
def hk{a:Nat}(S:a<t.length){O:bK}{G:bw->bK->au->Prop}(c:G (bt it<|t.getD a 0) O j):kasC (aV Wf l) P Wa (elem' (t.map<|bt it).toArray a) G O j:=by
 rw[u9,show ((t.map<|bt it).toArray)[a]?=Z (bt it<|t.getD a 0) by simp[List.getD,S]];exact bx c
def ky(b:∀f∈t,f<r){a:Nat}(S:a<t.length):t.getD a 0<r:=by
 rw[cP,eB S];exact b _ (w9 S)
def mz(t:List Nat)(a:Nat):t.toArray.getD a 0=t.getD a 0:=by simp[Array.getD,List.getD];split<;>simp_all
def AJ(e:gG r Q (f6 Wf l P Wz it) j){n:Nat}(h:n<r){t:List Nat}(m:∀f∈t,f<r){Wi k b:Nat}(o:Wi+k<=t.length)(p:b<k)(mono:∀a i,Wi<=a->a<=i->i<Wi+k->Q (t.getD a 0)<=Q (t.getD i 0)){O:bK}(q:kindOf O=Wz){G:Option Nat->bK->au->Prop}(c:∀u,u<=k->(∀a,Wi<=a->a<Wi+u->Q (t.getD a 0)<=Q n)->(∀a,Wi+u<=a->a<Wi+k->Q n<Q (t.getD a 0))->G (Z u) O j):
  kasC (aV Wf l) P Wa (pE aw (bt it n) (t.map<|bt it).toArray Wi k b) G O j:=by
 rw[<-Ck];refine Gj e h (λa S=>by rw[mz];exact ky m ⇑S) ⇑o p (λa i w x s=>?_) q λu v g d=>c u v (λa A E=>?_) (λa A E=>?_)
 ·simp only[c8,mz,hJ,gf,k2,lx,zi]at s ⊢;have:=mono (Wi+a) (Wi+i) ⋯ ⋯ ⋯;lia
 ·have:=g (a-Wi) ⋯;simp only[c8,mz,hJ,gf,k2,lx,zi]at this
  rwa [show Wi+(a-Wi)=a by lia]at this
 ·have:=d (a-Wi) ⋯ ⋯;simp only[c8,mz,hJ,gf,Bool.not_eq_false',Be]at this
  rwa [show Wi+(a-Wi)=a by lia]at this
def zH(e:gG r Q (f6 Wf l P Wz it) j){n:Nat}(h:n<r){t:List Nat}(m:∀f∈t,f<r){Wi k b:Nat}(o:Wi+k<=t.length)(p:b<k)(mono:∀a i,Wi<=a->a<=i->i<Wi+k->Q (t.getD a 0)<=Q (t.getD i 0)){O:bK}(q:kindOf O=Wz){G:Option Nat->bK->au->Prop}(c:∀u,u<=k->(∀a,Wi<=a->a<Wi+u->Q (t.getD a 0)<Q n)->(∀a,Wi+u<=a->a<Wi+k->Q n<=Q (t.getD a 0))->G (Z u) O j):
  kasC (aV Wf l) P Wa (pE aa (bt it n) (t.map<|bt it).toArray Wi k b) G O j:=by
 rw[<-Ck];refine Gj e h (λa S=>by rw[mz];exact ky m ⇑S) ⇑o p (λa i w x s=>?_) q λu v g d=>c u v (λa A E=>?_) (λa A E=>?_)
 ·simp only[c8,mz,iu,Be]at s ⊢;have:=mono (Wi+a) (Wi+i) ⋯ ⋯ ⋯;lia
 ·have:=g (a-Wi) ⋯;simp only[c8,mz,iu,Be]at this
  rwa [show Wi+(a-Wi)=a by lia]at this
 ·have:=d (a-Wi) ⋯ ⋯;simp only[c8,mz,iu,lx,zi]at this
  rwa [show Wi+(a-Wi)=a by lia]at this
def pA(b:List Nat)(C:Nat):(b.map<|bt it).toArray.push (bt it C)=((b++[C]).map<|bt it).toArray:=by simp
def Di(b t:List Nat)(a n:Nat):(b.map<|bt it).toArray++(t.map<|bt it).toArray.extract a (a+n)=((b++(t.drop a).take n).map<|bt it).toArray:=by
 apply lF;simp[jE,kF,t5]
end
section
variable{Wf:bS}{l:bA}{P:bH}{Wa:ag->au->Prop}{Wz:hC}{it:Array bw}{Q:Nat->Int}{r:Nat}{j:au}
def iR(Q:Nat->Int)(it:Array bw)(w y:List Nat)(out:Array bw)(z F:Nat):Prop:=(∃b:List Nat,out=(b.map<|bt it).toArray/\MJ Q w y b z F)
variable{D Ww:Type}
def EA{aF:ig}{P:bH}{Wa:ag->au->Prop}{h:Nat->Prop}{b:∀L,Decidable (h L)}{g T:Nat->StateT D er Ww}{G:Ww->D->au->Prop}{O:D}{j:au}(f:Nat->Nat)(a:∀L,g L=T (f L))(m:∀L,kasC aF P Wa (T L) G O j):∀L,kasC aF P Wa (if h L then g L else T L) G O j:=by
 intro L;rw[a];split
 ·exact m _
 ·exact m _
variable{h:Prop}
def xd{aF:ig}{P:bH}{Wa:ag->au->Prop}{i:Decidable h}{b Xg:Array bw->Nat->StateT D er Ww}{G:Ww->D->au->Prop}{O:D}{j:au}(d e:Array bw->Nat->Prop)(m:∀o a,e o a->kasC aF P Wa (Xg o a) G O j)(f:¬ h->∀o a,d o a->e o a)(g:(∀o a,e o a->kasC aF P Wa (Xg o a) G O j)->h->∀o a,d o a->kasC aF P Wa (b o a) G O j):∀o a,d o a->kasC aF P Wa (if h then b o a else Xg o a) G O j:=λo a q=>
 if c:h then by rw[aJ c];exact g m c o a q else by rw[aP c];exact m o a (f c o a q)
def IC{aF:ig}{P:bH}{Wa:ag->au->Prop}{x:bK->bK}{G:PUnit->bK->au->Prop}{u O:bK}{j:au}(Wd:dV u (x O))(c:∀a,dV u a->G ⟨⟩ a j):kasC aF P Wa (modify x:StateT bK er PUnit) G O j:=lA (c _ Wd)
def tc(Q:Nat->Int)(it:Array bw)(w y:List Nat)(O:bK)(j:au): Option (Array bw)×Array bw×Nat×Nat×Nat->bK->au->Prop:=(λh b V9=>j=V9/\dV O b/\∃a q p u L,h=(Z a,q,p,u,L)/\hK Q it w y a)
def se(Q:Nat->Int)(it:Array bw)(w y:List Nat)(O:bK)(j:au)(f:Nat):Option (Array bw)×Array bw×Nat×Nat×Nat->bK->au->Prop:=(λh a V9=>j=V9/\dV O a/\∃o z F L,h=(Y,o,z,F,L)/\iR Q it w y o z F/\f+1<=z+F)
def lH(Q:Nat->Int)(it:Array bw)(w y:List Nat)(O:bK)(j:au)(f:Nat):Option (Array bw)×Array bw×Nat×Nat×Nat×Nat->bK->au->Prop:=(λh c V9=>j=V9/\dV O c/\((∃b q p u ac a,h=(Z b,q,p,u,ac,a)/\hK Q it w y b)\/∃o z F ac a,h=(Y,o,z,F,ac,a)/\iR Q it w y o z F/\f+2<=z+F))
def qK(Q:Nat->Int)(it:Array bw)(w y:List Nat)(O:bK)(j:au)(f C:Nat):Option (Array bw)×Array bw×Nat×Nat×Nat×Nat->bK->au->Prop:=(λh a V9=>j=V9/\dV O a/\∃o z F ac b,h=(Y,o,z,F,ac,b)/\iR Q it w y o z F/\f+1+C<=z+F)
def kg(Q:Nat->Int)(it:Array bw)(w y:List Nat)(O:bK)(j:au)(f:Nat):Option (Array bw)×Array bw×Nat×Nat×Nat×Nat×Nat->bK->au->Prop:=(λh c V9=>j=V9/\dV O c/\((∃b q p u L ac a,h=(Z b,q,p,u,L,ac,a)/\hK Q it w y b)\/∃o z F L ac a,h=(Y,o,z,F,L,ac,a)/\iR Q it w y o z F/\f+2<=z+F))
def rR(Q:Nat->Int)(it:Array bw)(w y:List Nat)(O:bK)(j:au)(f C:Nat):Option (Array bw)×Array bw×Nat×Nat×Nat×Nat×Nat->bK->au->Prop:=(λh a V9=>j=V9/\dV O a/\∃o z F L ac b,h=(Y,o,z,F,L,ac,b)/\iR Q it w y o z F/\f+2<=z+F)
def tc.a{Q:Nat->Int}{it:Array bw}{w y:List Nat}{O b:bK}{j:au}{out:Array bw}{q:Array bw}{p u:Nat}{L:Nat}(c:dV O b)(k:hK Q it w y out):tc Q it w y O j (Z out,q,p,u,L) b j:=⟨rfl,c,_,_,_,_,_,rfl,k⟩
def se.k{Q:Nat->Int}{it:Array bw}{w y:List Nat}{O a:bK}{j:au}{f:Nat}{o:Array bw}{z F:Nat}{L:Nat}(c:dV O a)(i:iR Q it w y o z F)(e:f+1<=z+F):se Q it w y O j f (Y,o,z,F,L) a j:=⟨rfl,c,_,_,_,_,rfl,i,e⟩
def lH.a{Q:Nat->Int}{it:Array bw}{w y:List Nat}{O b:bK}{j:au}{f:Nat}{out:Array bw}{q:Array bw}{p u:Nat}{L d:Nat}(c:dV O b)(k:hK Q it w y out):lH Q it w y O j f (Z out,q,p,u,L,d) b j:=⟨rfl,c,.inl ⟨_,_,_,_,_,_,rfl,k⟩⟩
def lH.b{Q:Nat->Int}{it:Array bw}{w y:List Nat}{O a:bK}{j:au}{f:Nat}{o:Array bw}{z F:Nat}{L g:Nat}(c:dV O a)(i:iR Q it w y o z F)(e:f+2<=z+F):lH Q it w y O j f (Y,o,z,F,L,g) a j:=⟨rfl,c,.inr ⟨_,_,_,_,_,rfl,i,e⟩⟩
def qK.k{Q:Nat->Int}{it:Array bw}{w y:List Nat}{O a:bK}{j:au}{f C:Nat}{o:Array bw}{z F:Nat}{L b:Nat}(c:dV O a)(i:iR Q it w y o z F)(e:f+1+C<=z+F):qK Q it w y O j f C (Y,o,z,F,L,b) a j:=⟨rfl,c,_,_,_,_,_,rfl,i,e⟩
def kg.a{Q:Nat->Int}{it:Array bw}{w y:List Nat}{O b:bK}{j:au}{f:Nat}{out:Array bw}{q:Array bw}{p u:Nat}{L d e:Nat}(c:dV O b)(k:hK Q it w y out):kg Q it w y O j f (Z out,q,p,u,L,d,e) b j:=⟨rfl,c,.inl ⟨_,_,_,_,_,_,_,rfl,k⟩⟩
def kg.b{Q:Nat->Int}{it:Array bw}{w y:List Nat}{O a:bK}{j:au}{f:Nat}{o:Array bw}{z F:Nat}{L g h:Nat}(c:dV O a)(i:iR Q it w y o z F)(e:f+2<=z+F):kg Q it w y O j f (Y,o,z,F,L,g,h) a j:=⟨rfl,c,.inr ⟨_,_,_,_,_,_,rfl,i,e⟩⟩
def rR.k{Q:Nat->Int}{it:Array bw}{w y:List Nat}{O a:bK}{j:au}{f C:Nat}{o:Array bw}{z F:Nat}{L b d:Nat}(c:dV O a)(i:iR Q it w y o z F)(e:f+2<=z+F):rR Q it w y O j f C (Y,o,z,F,L,b,d) a j:=⟨rfl,c,_,_,_,_,_,_,rfl,i,e⟩
def Rj{g d:Nat}(c:g=d):(g==d)=aa:=by simp[c]
def Sd{g d:Nat}(c:¬ g=d):¬ (g==d)=aa:=by simp[c]
def mD{aF:ig}{P:bH}{Wa:ag->au->Prop}{g:Nat}{t:List Nat}{f C:StateT D er Ww}{G:Ww->D->au->Prop}{O:D}{j:au}(br:g=t.length->kasC aF P Wa f G O j)(a:¬ g=t.length->kasC aF P Wa C G O j):kasC aF P Wa (if (g==(List.map (bt it) t).toArray.size)=aa then f else C) G O j:=by
 rw[show (List.map (bt it) t).toArray.size=t.length by simp];by_cases c:g=t.length
 ·rw[aJ (Rj c)];exact br c
 ·rw[aP (Sd c)];exact a c
def mW{aF:ig}{P:bH}{Wa:ag->au->Prop}{b:Decidable h}{f C:StateT D er Ww}{G:Ww->D->au->Prop}{O:D}{j:au}(br:h->kasC aF P Wa f G O j)(a:¬ h->kasC aF P Wa C G O j):kasC aF P Wa (if h then f else C) G O j:=if c:h then by rw[aJ c];exact br c else by rw[aP c];exact a c
def Ui(b:gG r Q (f6 Wf l P Wz it) j){n:Nat}(e:n<r){t:List Nat}(k:∀f∈t,f<r){Wi:Nat}(p:Wi<t.length)(mono:∀a i,Wi<=a->a<=i->i<t.length->Q (t.getD a 0)<=Q (t.getD i 0)){O:bK}(m:kindOf O=Wz){G:Option Nat->bK->au->Prop}(c:∀u,Wi+u<=t.length->(∀a,Wi<=a->a<Wi+u->Q (t.getD a 0)<=Q n)->(∀a,Wi+u<=a->a<t.length->Q n<Q (t.getD a 0))->G (Z u) O j):
  kasC (aV Wf l) P Wa (pE aw (bt it n) (t.map<|bt it).toArray Wi ((t.map<|bt it).toArray.size-Wi) 0) G O j:=by
 rw[show (t.map<|bt it).toArray.size=t.length by simp];exact AJ b e k ⋯ ⋯ (λa i g d h=>mono a i g d ⋯) m λu A E o=>c u ⋯ E λa g d=>o a g ⋯
def Si(b:gG r Q (f6 Wf l P Wz it) j){n:Nat}(e:n<r){t:List Nat}(k:∀f∈t,f<r){Wi:Nat}(p:Wi<t.length)(mono:∀a i,Wi<=a->a<=i->i<t.length->Q (t.getD a 0)<=Q (t.getD i 0)){O:bK}(m:kindOf O=Wz){G:Option Nat->bK->au->Prop}(c:∀u,Wi+u<=t.length->(∀a,Wi<=a->a<Wi+u->Q (t.getD a 0)<Q n)->(∀a,Wi+u<=a->a<t.length->Q n<=Q (t.getD a 0))->G (Z u) O j):
  kasC (aV Wf l) P Wa (pE aa (bt it n) (t.map<|bt it).toArray Wi ((t.map<|bt it).toArray.size-Wi) 0) G O j:=by
 rw[show (t.map<|bt it).toArray.size=t.length by simp];exact zH b e k ⋯ ⋯ (λa i g d h=>mono a i g d ⋯) m λu A E o=>c u ⋯ E λa g d=>o a g ⋯
def T5(bm:gG r Q (f6 Wf l P Wz it) j){w y:List Nat}(bn:∀f∈w,f<r)(bs:∀f∈y,f<r)(fr:cJ Q w)(f0:cJ Q y)(h0:0<w.length)(A:0<y.length)(first:∀f∈w,Q (y.getD 0 0)<=Q f)(du:∀f∈y,Q f<=Q (w.getD (w.length-1) 0)){O:bK}(cl:kindOf O=Wz){G:Array bw->bK->au->Prop}(c:∀out E,hK Q it w y out->dV O E->G out E j):
  kasC (aV Wf l) P Wa (I6 (w.map<|bt it).toArray (y.map<|bt it).toArray) G O j:=by
 have bv:[y.getD 0 0].Perm (w.take 0++y.take 1):=by
  have:=k7 (t:=y) (a:=0) A;simp only[l_]at this;rw[this];exact List.Perm.refl _
 have ca:cJ Q ([y.getD 0 0]++y.drop 1):=by
  have:=k7 (t:=y) (a:=0) A;simp only[l_]at this;rw[<-this,gi];exact f0
 have cd:cJ Q ([y.getD 0 0]++w.drop 0):=gs.mpr ⟨e9 _ _,by rw[l_];exact fr,λf e C s=>by
  rw[cM.mp e];exact first C (by rwa [l_]at s)⟩
 have ii:(List.map (bt it) w).toArray.size=w.length:=by simp
 have im:(List.map (bt it) y).toArray.size=y.length:=by simp
 unfold I6;with_unfolding_all refine bB (pj<|ki ?_);refine bB (hk A ?_);refine mD (λco=>bx<|c _ _ (tG bv cd ca<|.inl co)<|dV.refl O) λco=>?_;refine mD (λcr=>bx<|c _ _ (uk bv cd ca cr du)<|dV.refl O) λcr=>?_;refine bB (kI ?_);refine bB (iY (a:=tc Q it w y O j) (gV (hL (se Q it w y O j) ?step _ 0 _ _ _ ?fin (se.k (dV.refl O) ⟨_,rfl,bv,cd,ca,⋯,⋯⟩ ⋯))) ?after)
 case after=>
  rintro h E V9 ⟨rfl,Wd,db,o,z,F,L,rfl,ap⟩;exact bx (c _ _ ap Wd)
 case fin=>
  rintro h E V9 ⟨rfl,Wd,o,z,F,L,rfl,⟨b,rfl,k⟩,e⟩;have:=k.b7;have:=k.kO;lia
 case step=>
  rintro f h E V9 ⟨rfl,Wd,o,z,F,L,rfl,H,e⟩;refine bB (iY (a:=lH Q it w y O j f)
   (gV (hL (qK Q it w y O j f) ?f4 _ 0 _ _ _ ?f8 (qK.k Wd H ⋯))) ?ga)
  case f8=>
   rintro h E V9 ⟨rfl,Wd,o,z,F,ac,U,rfl,H,e⟩;exact lH.b Wd H ⋯
  case f4=>
   rintro C h E V9 ⟨rfl,Wd,o,z,F,ac,U,rfl,⟨b,rfl,k⟩,e⟩;have as:=k.b7;have v:=k.kO;have be:kindOf E=Wz:=Wd.k.trans cl;have D:z<w.length:=⋯
   have dY:Q (y.getD F 0)<Q (w.getD z 0)->(b++[y.getD F 0]).Perm (w.take z++y.take (F+1))/\cJ Q (b++[y.getD F 0]++w.drop z)/\cJ Q (b++[y.getD F 0]++y.drop (F+1)):=λa1=>by
    have:=z5 1 k.perm k.aQ k.c0 (λf e C s=>by
     rw[k7 v,cM]at e;let⟨@i,I,al,rfl⟩:=k3 s;have:=rd k.aQ (bb _) I al;rw[e];lia)
    rwa [k7 v]at this
   have dH:¬ Q (y.getD F 0)<Q (w.getD z 0)->(b++[w.getD z 0]).Perm (w.take (z+1)++y.take F)/\cJ Q (b++[w.getD z 0]++w.drop (z+1))/\cJ Q (b++[w.getD z 0]++y.drop F):=λa1=>by
    have:=vc 1 k.perm k.aQ k.c0 (λf e C s=>by
     rw[k7 D,cM]at e;let⟨@i,I,al,rfl⟩:=k3 s;have:=rd k.c0 (bb _) I al;rw[e];lia)
    rwa [k7 D]at this
   refine bB (hk v<|bB<|hk D<|bB<|sN bm (ky bs v) (ky bn D) be ?_);refine mW (λa1=>?_) λa1=>?_
   ·have d:=dY ⇑a1;refine bB (hk v (mD (λN=>bx (lH.a Wd (by rw[pA];exact tG d.1 d.2.1 d.2.2 (.inl N)))) λN=>?_));have R:iR Q it w y ((b.map<|bt it).toArray.push<|bt it<|y.getD F 0) z (F+1):=⟨_,pA _ _,d.1,d.2.1,d.2.2,as,⋯⟩;exact mW (λ_=>bx (lH.b Wd R ⋯)) λ_=>bx (qK.k Wd R ⋯)
   ·have d:=dH ⇑a1;refine bB (hk D (mD (λN=>bx (lH.a Wd (by rw[pA];exact uk d.1 d.2.1 d.2.2 N du))) λN=>?_));have R:iR Q it w y ((b.map<|bt it).toArray.push<|bt it<|w.getD z 0) (z+1) F:=⟨_,pA _ _,d.1,d.2.1,d.2.2,⋯,v⟩;exact mW (λ_=>bx (lH.b Wd R ⋯)) λ_=>bx (qK.k Wd R ⋯)
  case ga=>
   rintro h E V9 ⟨rfl,Wd,⟨db,o,z,F,ac,U,rfl,ap⟩|⟨o,z,F,ac,U,rfl,H,e⟩⟩
   ·exact bx (tc.a Wd ap)
   ·refine bB (pj<|ki ?_);refine bB (iY (a:=kg Q it w y O j f)
     (gV (hL (rR Q it w y O j f) ?ge _ 0 _ _ _ ?fin2 (rR.k Wd H ⋯))) ?gl)
    case fin2=>
     rintro h E V9 ⟨rfl,Wd,o,z,F,L,ac,U,rfl,H,e⟩;exact kg.b Wd H ⋯
    case gl=>
     rintro h E V9 ⟨rfl,Wd,⟨db,o,z,F,L,ac,U,rfl,ap⟩|⟨o,z,F,L,ac,U,rfl,H,e⟩⟩
     ·exact bx (tc.a Wd ap)
     ·refine bB (lA ?_);exact bx (se.k ⟨Wd.k,Wd.a,Wd.p,Wd.f⟩ H ⋯)
    case ge=>
     rintro C h E V9 ⟨rfl,Wd,o,z,F,L,ac,U,rfl,⟨b,ds,k⟩,e⟩;have as:=k.b7;have v:=k.kO;dsimp only;revert L;refine EA (λL=>L-1) ?D ?_
     case D=>exact λL=>rfl
     intro L;refine bB (IC (u:=O) ⟨Wd.k,Wd.a,Wd.p,Wd.f⟩ λio S=>?_);have be:=S.k.trans cl;refine bB (hk v ?_);refine bB (Ui bm (ky bs v) bn (show z<w.length by lia) (λa i g d h=>rd k.aQ g d h) be ?_);intro n jp go dL;dsimp only;generalize a2:o=M;generalize bd:z=a;have T:M=o/\a=z:=⟨a2.symm,bd.symm⟩;clear a2 bd;revert M a;refine xd (λM a=>M=o/\a=z) (λM a=>iR Q it w y M a F/\z<=a/\∀i,a<=i->i<w.length->Q (y.getD F 0)<Q (w.getD i 0)) ?Wh ?f1 ?gt
     case f1=>
      rintro g1 M a ⟨rfl,rfl⟩;exact⟨⟨b,ds,k⟩,bb _,λi g d=>dL i ⋯ d⟩
     case gt=>
      rintro m _ M a ⟨rfl,rfl⟩;try dsimp only
      have J:=vc n k.perm k.aQ k.c0 (λf e C s=>by
       let⟨@i,g2,I,rfl⟩:=pV e;let⟨@g3,ce,ch,rfl⟩:=k3 s;have:=go (a+i) ⋯ ⋯;have:=rd k.c0 (bb _) ce ch;lia)
      rw[ds,Di];refine mD (λN=>bx<|kg.a S<|uk J.1 J.2.1 J.2.2 N du) λN=>?_;refine mD (λeq=>bx<|kg.a S<|tG J.1 J.2.1 J.2.2<|.inr eq) λeq=>?_;exact m _ _ ⟨⟨_,rfl,J.1,J.2.1,J.2.2,⋯,v⟩,⋯,λi g d=>dL i g d⟩
     case Wh=>
      rintro M a ⟨⟨b,rfl,k⟩,le,hd⟩;have as:=k.b7;try dsimp only
      refine bB (hk v ?_);have W4:=z5 1 k.perm k.aQ k.c0 (λf e C s=>by
       rw[k7 v,cM]at e;let⟨@i,I,al,rfl⟩:=k3 s;have:=hd i I al;rw[e];lia)
      rw[k7 v]at W4;rw[pA];refine mD (λev=>bx<|kg.a S<|tG W4.1 W4.2.1 W4.2.2<|.inl ev) λev=>?_;have D:a<w.length:=⋯
      refine bB (hk D ?_);refine bB (Si bm (ky bn D) bs (show F+1<y.length by lia) (λa i g d h=>rd W4.2.2 g d h) be ?_);intro WR kt he ex;dsimp only;generalize b++[y.getD F 0]=ci at *;generalize kw:F+1=bi at *;generalize a2:(List.map (bt it) ci).toArray=M;generalize bd:bi=i;have T:M=(List.map (bt it) ci).toArray/\i=bi:=⟨a2.symm,bd.symm⟩;clear a2 bd;revert M i;refine xd (λM i=>M=(List.map (bt it) ci).toArray/\i=bi) (λM i=>iR Q it w y M a i/\bi<=i/\∀B,i<=B->B<y.length->Q (w.getD a 0)<=Q (y.getD B 0)) ?Ws ?f2 ?hf
      case f2=>
       rintro g1 M i ⟨rfl,rfl⟩;exact⟨⟨_,rfl,W4.1,W4.2.1,W4.2.2,as,⋯⟩,bb _,λB g d=>ex B ⋯ d⟩
      case hf=>
       rintro m _ M i ⟨rfl,rfl⟩;try dsimp only
       have an:=z5 WR W4.1 W4.2.1 W4.2.2 (λf e C s=>by
        let⟨@B,g2,I,rfl⟩:=pV e;let⟨@g3,ce,ch,rfl⟩:=k3 s;have:=he (i+B) ⋯ ⋯;have:=rd W4.2.1 (bb _) ce ch;lia)
       rw[Di];refine mD (λfd=>bx<|kg.a S<|tG an.1 an.2.1 an.2.2<|.inl fd) λfd=>?_;exact m _ _ ⟨⟨_,rfl,an.1,an.2.1,an.2.2,as,⋯⟩,⋯,λB g d=>ex B g d⟩
      case Ws=>
       rintro M i ⟨⟨b,rfl,k⟩,lc,hm⟩;have hw:=k.kO;try dsimp only
       refine bB (hk D ?_);have am:=vc 1 k.perm k.aQ k.c0 (λf e C s=>by
        rw[k7 D,cM]at e;let⟨@B,I,al,rfl⟩:=k3 s;rw[e];exact hm B I al)
       rw[k7 D]at am;rw[pA];refine mD (λfn=>bx<|kg.a S<|uk am.1 am.2.1 am.2.2 fn du) λfn=>?_;have R:iR Q it w y ((b++[w.getD a 0]).map<|bt it).toArray (a+1) i:=⟨_,rfl,am.1,am.2.1,am.2.2,⋯,hw⟩;exact mW (λ_=>bx (kg.b S R ⋯)) λ_=>bx (rR.k S R ⋯)
end
section
variable{Wf:bS}{l:bA}{P:bH}{Wa:ag->au->Prop}{Wz:hC}{it:Array bw}{Q:Nat->Int}{r:Nat}{j:au}
def Dd:Array bw->Array bw->StateT bK er (Array bw):=(sortPriv% PySem.Builtin.mergeHi)
variable{t:List Nat}{a i:Nat}
def AF(b:a<=i)(c:i<=t.length):t.drop a=(t.take i).drop a++t.drop i:=by
 have e:t.drop a=(t.take i++t.drop i).drop a:=by rw[gi]
 rw[e,List.drop_append_of_le_length (by rw[gK];lia)]
def LB(b:a<=i):t.take a++(t.take i).drop a=t.take i:=by
 have:=gi a (t.take i)
 rwa [xf,qa b]at this
variable{w y k:List Nat}{v D:Nat}
def wo(n:Nat)(e:n<=v)(h:v<=w.length)(perm:k.Perm (w.drop v++y.drop D))(aQ:cJ Q (w.take v++k))(c0:cJ Q (y.take D++k))(c:∀f∈(w.take v).drop n,∀C∈y.take D,Q C<=Q f):
  ((w.take v).drop n++k).Perm (w.drop n++y.drop D)/\cJ Q (w.take n++((w.take v).drop n++k))/\cJ Q (y.take D++((w.take v).drop n++k)):=by
 refine⟨?_,?_,?_⟩
 ·rw[AF e h,bM];exact eL _ perm
 ·rw[<-bM,LB e];exact aQ
 ·have g:=gs.mp aQ;have d:=gs.mp c0;refine gs.mpr ⟨d.1,gs.mpr ⟨g.1.sublist<|u_ _ _,d.2.1,λf b C a=>g.2.2 f (lj b) C a⟩,λf b C a=>?_⟩;rcases dw.mp a with a|a
  ·exact c C a f b
  ·exact d.2.2 f b C a
def BE(n:Nat)(a:n<=D)(b:D<=y.length)(perm:k.Perm (w.drop v++y.drop D))(aQ:cJ Q (w.take v++k))(c0:cJ Q (y.take D++k))(c:∀f∈(y.take D).drop n,∀C∈w.take v,Q C<=Q f):
  ((y.take D).drop n++k).Perm (w.drop v++y.drop n)/\cJ Q (w.take v++((y.take D).drop n++k))/\cJ Q (y.take n++((y.take D).drop n++k)):=by
 have:=wo (w:=y) (y:=w) n a b (perm.trans dW) c0 aQ c;exact⟨this.1.trans dW,this.2.2,this.2.1⟩
def mh(b:0<a)(c:a<=t.length):(t.take a).drop (a-1)=[t.getD (a-1) 0]:=by
 rw[t5,show a-(a-1)=1 by lia];exact k7 ⋯
variable{C:Nat}
def mn(c:C∈t.take a):∃i,i<a/\i<t.length/\C=t.getD i 0:=by
 have:=pV (a:=0) (n:=a) (C:=C) (t:=t) (by rwa [l_]);let⟨@i,g,d,e⟩:=this;exact⟨i,g,⋯,by rw[e];congr 1;lia⟩
variable{n:Nat}
def FI(c:C∈(t.take n).drop a):∃i,a<=i/\i<n/\i<t.length/\C=t.getD i 0:=by
 rw[t5]at c;let⟨@i,g,d,e⟩:=pV c;exact⟨a+i,⋯,⋯,d,e⟩
def pF(c:cJ Q (t.take a++k))(b:i<=n)(d:n<a)(e:n<t.length):Q (t.getD i 0)<=Q (t.getD n 0):=by
 have:=o1 (gs.mp c).1 (a:=i) (i:=n) b (by rw[gK];lia);simpa [List.getD,oo,show i<a by lia,d] using this
def tl(perm:k.Perm (w.drop v++y.drop D))(aQ:cJ Q (w.take v++k))(c0:cJ Q (y.take D++k))(a:v=0\/D=0):
  hK Q it w y ((w.map<|bt it).toArray.extract 0 v++(y.map<|bt it).toArray.extract 0 D++(k.reverse.map<|bt it).toArray.reverse):=by
 refine⟨w.take v++y.take D++k,?_,?_,?_⟩
 ·apply lF;simp[kF]
 ·refine (eL _ perm).trans ?_;have:(w.take v++y.take D++(w.drop v++y.drop D)).Perm ((w.take v++w.drop v)++(y.take D++y.drop D)):=by
   rw[bM,bM];refine eL _ ?_;rw[<-bM,<-bM];exact gj _ dW
  rw[gi,gi]at this;exact this
 ·rcases a with e|e
  ·rw[e,pX,pw];exact c0
  ·rw[e,pX,cO];exact aQ
def v8(perm:k.Perm (w.drop v++y.drop D))(aQ:cJ Q (w.take v++k))(c0:cJ Q (y.take D++k))(c:D=1)(first:∀f∈w,Q (y.getD 0 0)<=Q f):
  hK Q it w y ((y.map<|bt it).toArray.extract 0 D++(w.map<|bt it).toArray.extract 0 v++(k.reverse.map<|bt it).toArray.reverse):=by
 refine⟨y.take D++w.take v++k,?_,?_,?_⟩
 ·apply lF;simp[kF]
 ·refine (eL _ perm).trans ?_;have:(y.take D++w.take v++(w.drop v++y.drop D)).Perm ((w.take v++w.drop v)++(y.take D++y.drop D)):=by
   rw[bM,<-bM (w.take v),<-bM (w.take v++w.drop v)];rw[<-bM (y.take D)];exact gj _ dW
  rw[gi,gi]at this;exact this
 ·rw[bM];refine gs.mpr ⟨(gs.mp c0).1,aQ,λf b C a=>?_⟩;rcases dw.mp a with a|a
  ·let⟨@i,A,E,rfl⟩:=mn b;have:i=0:=⋯
   rw[this];exact first C (nt a)
  ·exact (gs.mp c0).2.2 f b C a
def q9(k:List Nat)(C:Nat):(k.reverse.map<|bt it).toArray.push (bt it C)=(([C]++k).reverse.map<|bt it).toArray:=by simp
def DR(k t:List Nat)(a n:Nat):(k.reverse.map<|bt it).toArray++((t.map<|bt it).toArray.extract a n).reverse=(((t.take n).drop a++k).reverse.map<|bt it).toArray:=by
 apply lF;simp[jE,kF,t5]
structure Qa(Q:Nat->Int)(w y:List Nat)(k:List Nat)(v D:Nat):Prop where
 perm:k.Perm (w.drop v++y.drop D)
 aQ:cJ Q (w.take v++k)
 c0:cJ Q (y.take D++k)
 b7:0<v
 kO:1<D
 xK:v<=w.length
 xS:D<=y.length
def iL(Q:Nat->Int)(it:Array bw)(w y:List Nat)(out:Array bw)(v D:Nat):Prop:=(∃k:List Nat,out=(k.reverse.map<|bt it).toArray/\Qa Q w y k v D)
end
section
variable{Wf:bS}{l:bA}{P:bH}{Wa:ag->au->Prop}{Wz:hC}{it:Array bw}{Q:Nat->Int}{r:Nat}{j:au}
def sS(Q:Nat->Int)(it:Array bw)(w y:List Nat)(O:bK)(j:au): Option (Array bw)×Nat×Nat×Array bw×Nat->bK->au->Prop:=(λh b V9=>j=V9/\dV O b/\∃a q p u L,h=(Z a,q,p,u,L)/\hK Q it w y a)
def rJ(Q:Nat->Int)(it:Array bw)(w y:List Nat)(O:bK)(j:au)(f:Nat):Option (Array bw)×Nat×Nat×Array bw×Nat->bK->au->Prop:=(λh a V9=>j=V9/\dV O a/\∃v D o L,h=(Y,v,D,o,L)/\iL Q it w y o v D/\v+D+f+1<=w.length+y.length)
def l4(Q:Nat->Int)(it:Array bw)(w y:List Nat)(O:bK)(j:au)(f:Nat):Option (Array bw)×Nat×Nat×Array bw×Nat×Nat->bK->au->Prop:=(λh c V9=>j=V9/\dV O c/\((∃b q p u ac a,h=(Z b,q,p,u,ac,a)/\hK Q it w y b)\/∃v D o ac a,h=(Y,v,D,o,ac,a)/\iL Q it w y o v D/\v+D+f+2<=w.length+y.length))
def qH(Q:Nat->Int)(it:Array bw)(w y:List Nat)(O:bK)(j:au)(f C:Nat):Option (Array bw)×Nat×Nat×Array bw×Nat×Nat->bK->au->Prop:=(λh a V9=>j=V9/\dV O a/\∃v D o ac b,h=(Y,v,D,o,ac,b)/\iL Q it w y o v D/\v+D+f+1+C<=w.length+y.length)
def kp(Q:Nat->Int)(it:Array bw)(w y:List Nat)(O:bK)(j:au)(f:Nat):Option (Array bw)×Nat×Nat×Array bw×Nat×Nat×Nat->bK->au->Prop:=(λh c V9=>j=V9/\dV O c/\((∃b q p u L ac a,h=(Z b,q,p,u,L,ac,a)/\hK Q it w y b)\/∃v D o L ac a,h=(Y,v,D,o,L,ac,a)/\iL Q it w y o v D/\v+D+f+2<=w.length+y.length))
def rG(Q:Nat->Int)(it:Array bw)(w y:List Nat)(O:bK)(j:au)(f C:Nat):Option (Array bw)×Nat×Nat×Array bw×Nat×Nat×Nat->bK->au->Prop:=(λh a V9=>j=V9/\dV O a/\∃v D o L ac b,h=(Y,v,D,o,L,ac,b)/\iL Q it w y o v D/\v+D+f+2<=w.length+y.length)
def sS.a{Q:Nat->Int}{it:Array bw}{w y:List Nat}{O b:bK}{j:au}{out:Array bw}{q p:Nat}{u:Array bw}{L:Nat}(c:dV O b)(k:hK Q it w y out):sS Q it w y O j (Z out,q,p,u,L) b j:=⟨rfl,c,_,_,_,_,_,rfl,k⟩
def rJ.k{Q:Nat->Int}{it:Array bw}{w y:List Nat}{O a:bK}{j:au}{f:Nat}{v D:Nat}{o:Array bw}{L:Nat}(c:dV O a)(i:iL Q it w y o v D)(e:v+D+f+1<=w.length+y.length):rJ Q it w y O j f (Y,v,D,o,L) a j:=⟨rfl,c,_,_,_,_,rfl,i,e⟩
def l4.a{Q:Nat->Int}{it:Array bw}{w y:List Nat}{O b:bK}{j:au}{f:Nat}{out:Array bw}{q p:Nat}{u:Array bw}{L d:Nat}(c:dV O b)(k:hK Q it w y out):l4 Q it w y O j f (Z out,q,p,u,L,d) b j:=⟨rfl,c,.inl ⟨_,_,_,_,_,_,rfl,k⟩⟩
def l4.b{Q:Nat->Int}{it:Array bw}{w y:List Nat}{O a:bK}{j:au}{f:Nat}{v D:Nat}{o:Array bw}{L g:Nat}(c:dV O a)(i:iL Q it w y o v D)(e:v+D+f+2<=w.length+y.length):l4 Q it w y O j f (Y,v,D,o,L,g) a j:=⟨rfl,c,.inr ⟨_,_,_,_,_,rfl,i,e⟩⟩
def qH.k{Q:Nat->Int}{it:Array bw}{w y:List Nat}{O a:bK}{j:au}{f C:Nat}{v D:Nat}{o:Array bw}{L b:Nat}(c:dV O a)(i:iL Q it w y o v D)(e:v+D+f+1+C<=w.length+y.length):qH Q it w y O j f C (Y,v,D,o,L,b) a j:=⟨rfl,c,_,_,_,_,_,rfl,i,e⟩
def kp.a{Q:Nat->Int}{it:Array bw}{w y:List Nat}{O b:bK}{j:au}{f:Nat}{out:Array bw}{q p:Nat}{u:Array bw}{L d e:Nat}(c:dV O b)(k:hK Q it w y out):kp Q it w y O j f (Z out,q,p,u,L,d,e) b j:=⟨rfl,c,.inl ⟨_,_,_,_,_,_,_,rfl,k⟩⟩
def kp.b{Q:Nat->Int}{it:Array bw}{w y:List Nat}{O a:bK}{j:au}{f:Nat}{v D:Nat}{o:Array bw}{L g h:Nat}(c:dV O a)(i:iL Q it w y o v D)(e:v+D+f+2<=w.length+y.length):kp Q it w y O j f (Y,v,D,o,L,g,h) a j:=⟨rfl,c,.inr ⟨_,_,_,_,_,_,rfl,i,e⟩⟩
def rG.k{Q:Nat->Int}{it:Array bw}{w y:List Nat}{O a:bK}{j:au}{f C:Nat}{v D:Nat}{o:Array bw}{L b d:Nat}(c:dV O a)(i:iL Q it w y o v D)(e:v+D+f+2<=w.length+y.length):rG Q it w y O j f C (Y,v,D,o,L,b,d) a j:=⟨rfl,c,_,_,_,_,_,_,rfl,i,e⟩
def mY{aF:ig}{P:bH}{Wa:ag->au->Prop}{D Ww:Type}{g d:Nat}{f C:StateT D er Ww}{G:Ww->D->au->Prop}{O:D}{j:au}(br:g=d->kasC aF P Wa f G O j)(a:¬ g=d->kasC aF P Wa C G O j):kasC aF P Wa (if (g==d)=aa then f else C) G O j:=mW (λc=>br ⇑c) λc=>a ⇑c
def Uy(cd:gG r Q (f6 Wf l P Wz it) j){w y:List Nat}(ce:∀f∈w,f<r)(ch:∀f∈y,f<r)(ge:cJ Q w)(gl:cJ Q y)(go:0<w.length)(A:0<y.length)(first:∀f∈w,Q (y.getD 0 0)<=Q f)(du:∀f∈y,Q f<=Q (w.getD (w.length-1) 0)){O:bK}(eq:kindOf O=Wz){G:Array bw->bK->au->Prop}(c:∀out t,hK Q it w y out->dV O t->G out t j):
  kasC (aV Wf l) P Wa (Dd (w.map<|bt it).toArray (y.map<|bt it).toArray) G O j:=by
 have bs:(List.map (bt it) w).toArray.size=w.length:=by simp
 have bv:(List.map (bt it) y).toArray.size=y.length:=by simp
 have a8:=mh go (bb _);rw[rC]at a8;have ci:[w.getD (w.length-1) 0].Perm (w.drop (w.length-1)++y.drop y.length):=by
  rw[a8,yu];exact List.Perm.refl _
 have cl:cJ Q (w.take (w.length-1)++[w.getD (w.length-1) 0]):=by
  rw[<-a8,gi];exact ge
 have co:cJ Q (y.take y.length++[w.getD (w.length-1) 0]):=gs.mpr ⟨by rw[rC];exact gl,e9 _ _,λf e C s=>by
  rw[cM.mp s];exact du f (by rwa [rC]at e)⟩
 unfold Dd;with_unfolding_all refine bB (pj<|ki ?_);refine bB (hk (show (List.map (bt it) w).toArray.size-1<w.length by lia) ?_);refine mY (λcr=>bx (c _ _ (by rw[bs]at cr;rw[bs,bv];exact tl ci cl co (.inl cr))<|dV.refl O)) λcr=>?_;refine mY (λcs=>bx (c _ _ (by rw[bv]at cs;rw[bs,bv];exact v8 ci cl co cs first)<|dV.refl O)) λcs=>?_;refine bB (kI ?_);refine bB (iY (a:=sS Q it w y O j) (gV (hL (rJ Q it w y O j) ?step _ 0 _ _ _ ?fin (rJ.k (dV.refl O) (by rw[bs,bv];exact⟨_,rfl,ci,cl,co,⋯,⋯,⋯,⋯⟩) ⋯))) ?after)
 case after=>
  rintro h t V9 ⟨rfl,Wd,ex,o,z,F,L,rfl,a2⟩;exact bx (c _ _ a2 Wd)
 case fin=>
  rintro h t V9 ⟨rfl,Wd,v,D,o,L,rfl,⟨b,rfl,k⟩,e⟩;have:=k.b7;have:=k.kO;lia
 case step=>
  rintro f h t V9 ⟨rfl,Wd,v,D,o,L,rfl,H,e⟩;refine bB (iY (a:=l4 Q it w y O j f)
   (gV (hL (qH Q it w y O j f) ?gt _ 0 _ _ _ ?g1 (qH.k Wd H ⋯))) ?g2)
  case g1=>
   rintro h t V9 ⟨rfl,Wd,v,D,o,ac,am,rfl,H,e⟩;exact l4.b Wd H ⋯
  case gt=>
   rintro C h t V9 ⟨rfl,Wd,v,D,o,ac,am,rfl,⟨b,rfl,k⟩,e⟩;have I:=k.b7;have db:=k.kO;have E:=k.xK;have J:=k.xS;have ca:kindOf t=Wz:=Wd.k.trans eq;have N:v-1<w.length:=⋯
   have an:D-1<y.length:=⋯
   have dY:Q (y.getD (D-1) 0)<Q (w.getD (v-1) 0)->_:=λbd=>by
    have:=wo (v-1) ⋯ E k.perm k.aQ k.c0 (λf e C s=>by
     rw[mh I E,cM]at e;let⟨@i,ap,be,rfl⟩:=mn s;have:=pF k.c0 (show i<=D-1 by lia) ⋯ ⋯;rw[e];lia)
    rw[mh I E]at this;exact this
   have dH:¬ Q (y.getD (D-1) 0)<Q (w.getD (v-1) 0)->_:=λbd=>by
    have:=BE (D-1) ⋯ J k.perm k.aQ k.c0 (λf e C s=>by
     rw[mh ⋯ J,cM]at e;let⟨@i,ap,be,rfl⟩:=mn s;have:=pF k.aQ (show i<=v-1 by lia) ⋯ ⋯;rw[e];lia)
    rw[mh ⋯ J]at this;exact this
   refine bB (hk an<|bB<|hk N<|bB<|sN cd (ky ch an) (ky ce N) ca ?_);refine mW (λbd=>?_) λbd=>?_
   ·have d:=dY ⇑bd;refine bB (hk N (mY (λS=>bx (l4.a Wd (by rw[q9];exact tl d.1 d.2.1 d.2.2 (.inl S)))) λS=>?_));have U:iL Q it w y ((b.reverse.map<|bt it).toArray.push<|bt it<|w.getD (v-1) 0) (v-1) D:=⟨_,q9 _ _,d.1,d.2.1,d.2.2,⋯,db,⋯,J⟩;exact mW (λ_=>bx (l4.b Wd U ⋯)) λ_=>bx (qH.k Wd U ⋯)
   ·have d:=dH ⇑bd;refine bB (hk an (mY (λS=>bx (l4.a Wd (by rw[q9];exact v8 d.1 d.2.1 d.2.2 S first))) λS=>?_));have U:iL Q it w y ((b.reverse.map<|bt it).toArray.push<|bt it<|y.getD (D-1) 0) v (D-1):=⟨_,q9 _ _,d.1,d.2.1,d.2.2,I,⋯,E,⋯⟩;exact mW (λ_=>bx (l4.b Wd U ⋯)) λ_=>bx (qH.k Wd U ⋯)
  case g2=>
   rintro h t V9 ⟨rfl,Wd,⟨ex,o,z,F,ac,am,rfl,a2⟩|⟨v,D,o,ac,am,rfl,H,e⟩⟩
   ·exact bx (sS.a Wd a2)
   ·refine bB (pj<|ki ?_);refine bB (iY (a:=kp Q it w y O j f)
     (gV (hL (rG Q it w y O j f) ?g3 _ 0 _ _ _ ?fin2 (rG.k Wd H ⋯))) ?hd)
    case fin2=>
     rintro h t V9 ⟨rfl,Wd,v,D,o,L,ac,am,rfl,H,e⟩;exact kp.b Wd H ⋯
    case hd=>
     rintro h t V9 ⟨rfl,Wd,⟨ex,o,z,F,L,ac,am,rfl,a2⟩|⟨v,D,o,L,ac,am,rfl,H,e⟩⟩
     ·exact bx (sS.a Wd a2)
     ·refine bB (lA ?_);exact bx (rJ.k ⟨Wd.k,Wd.a,Wd.p,Wd.f⟩ H ⋯)
    case g3=>
     rintro C h t V9 ⟨rfl,Wd,v,D,o,L,ac,am,rfl,⟨b,fd,k⟩,e⟩;have I:=k.b7;have db:=k.kO;have E:=k.xK;have J:=k.xS;have an:D-1<y.length:=⋯
     dsimp only;revert L;refine EA (λL=>L-1) ?N ?_
     case N=>exact λL=>rfl
     intro L;refine bB (IC (u:=O) ⟨Wd.k,Wd.a,Wd.p,Wd.f⟩ λlc al=>?_);have ca:=al.k.trans eq;refine bB (hk an ?_);refine bB (AJ cd (ky ch an) ce (Wi:=0) (k:=v) (b:=v-1) ⋯ ⋯ (λa i g d h=>pF k.aQ d ⋯ ⋯) ca ?_);intro n lf fn hf;dsimp only;generalize li:v-n=lm;generalize bi:o=M;generalize bm:v=a;have T:M=o/\a=v:=⟨bi.symm,bm.symm⟩;clear bi bm;revert M a;refine xd (λM a=>M=o/\a=v) (λM a=>iL Q it w y M a D/\a<=v/\∀i,i<a->Q (w.getD i 0)<=Q (y.getD (D-1) 0)) ?Wh ?f1 ?hm
     case f1=>
      rintro hw M a ⟨rfl,rfl⟩;exact⟨⟨b,fd,k⟩,bb _,λi g=>fn i ⋯ ⋯⟩
     case hm=>
      rintro m _ M a ⟨rfl,rfl⟩;try dsimp only
      have a1:=wo n ⋯ E k.perm k.aQ k.c0 (λf e C s=>by
       let⟨@i,h0,ap,be,rfl⟩:=FI e;let⟨@ds,ii,im,rfl⟩:=mn s;have:=hf i ⋯ ⋯;have:=pF k.c0 (show ds<=D-1 by lia) ⋯ ⋯;lia)
      rw[fd,DR];refine mY (λS=>bx<|kp.a al<|tl a1.1 a1.2.1 a1.2.2<|.inl S) λS=>?_;exact m _ _ ⟨⟨_,rfl,a1.1,a1.2.1,a1.2.2,⋯,db,⋯,J⟩,⋯,λi g=>fn i ⋯ ⋯⟩
     case Wh=>
      rintro M a ⟨⟨b,rfl,k⟩,le,io⟩;have I:=k.b7;have E:=k.xK;have N:a-1<w.length:=⋯
      try dsimp only
      refine bB (hk an ?_);have W4:=BE (D-1) ⋯ J k.perm k.aQ k.c0 (λf e C s=>by
       rw[mh ⋯ J,cM]at e;let⟨@i,ap,be,rfl⟩:=mn s;rw[e];exact io i ap)
      rw[mh ⋯ J]at W4;rw[q9];refine mY (λfr=>bx<|kp.a al<|v8 W4.1 W4.2.1 W4.2.2 fr first) λfr=>?_;refine bB (hk N ?_);refine bB (zH cd (ky ce N) ch (Wi:=0) (k:=D-1) (b:=D-1-1) ⋯ ⋯ (λa i g d h=>pF W4.2.2 d ⋯ ⋯) ca ?_);intro WR ln f0 jp;dsimp only;generalize [y.getD (D-1) 0]++b=dL at *;generalize ls:D-1=bn at *;generalize lv:bn-WR=fM;generalize bi:(List.map (bt it) dL.reverse).toArray=M;generalize bm:bn=i;have T:M=(List.map (bt it) dL.reverse).toArray/\i=bn:=⟨bi.symm,bm.symm⟩;clear bi bm;revert M i;refine xd (λM i=>M=(List.map (bt it) dL.reverse).toArray/\i=bn) (λM i=>iL Q it w y M a i/\i<=bn/\∀B,B<i->Q (y.getD B 0)<Q (w.getD (a-1) 0)) ?Ws ?f2 ?kt
      case f2=>
       rintro hw M i ⟨rfl,rfl⟩;exact⟨⟨_,rfl,W4.1,W4.2.1,W4.2.2,I,⋯,E,⋯⟩,bb _,λB g=>f0 B ⋯ ⋯⟩
      case kt=>
       rintro m _ M i ⟨rfl,rfl⟩;try dsimp only
       have R:=BE WR ⋯ (show i<=y.length by lia) W4.1 W4.2.1 W4.2.2 (λf e C s=>by
        let⟨@B,h0,ap,be,rfl⟩:=FI e;let⟨@ds,ii,im,rfl⟩:=mn s;have:=jp B ⋯ ⋯;have:=pF W4.2.1 (show ds<=a-1 by lia) ⋯ ⋯;lia)
       rw[DR];refine mY (λf4=>bx<|kp.a al<|v8 R.1 R.2.1 R.2.2 f4 first) λf4=>?_;refine mY (λf8=>bx<|kp.a al<|tl R.1 R.2.1 R.2.2<|.inr f8) λf8=>?_;exact m _ _ ⟨⟨_,rfl,R.1,R.2.1,R.2.2,I,⋯,E,⋯⟩,⋯,λB g=>f0 B ⋯ ⋯⟩
      case Ws=>
       rintro M i ⟨⟨b,rfl,k⟩,lw,kw⟩;try dsimp only
       refine bB (hk N ?_);have as:=wo (a-1) ⋯ E k.perm k.aQ k.c0 (λf e C s=>by
        rw[mh I E,cM]at e;let⟨@B,ap,be,rfl⟩:=mn s;have:=kw B ap;rw[e];lia)
       rw[mh I E]at as;rw[q9];refine mY (λga=>bx<|kp.a al<|tl as.1 as.2.1 as.2.2<|.inl ga) λga=>?_;have U:iL Q it w y (([w.getD (a-1) 0]++b).reverse.map<|bt it).toArray (a-1) i:=⟨_,rfl,as.1,as.2.1,as.2.2,⋯,k.kO,⋯,k.xS⟩;exact mW (λ_=>bx (kp.b al U ⋯)) λ_=>bx (rG.k al U ⋯)
def Qv{D:Type}{aF:ig}{G:PUnit->D->au->Prop}{O a:D}{j:au}(c:G ⟨⟩ a j):kasC aF P Wa (set a:StateT D er PUnit) G O j:=by
 unfold kasC;rw[StateT.run_set];exact aU c
theorem xA{Ww:Type}:∀(t:List Ww) (b:List Ww) (p d T:Nat),p+t.length<=b.length->p=T+d->((t.zipIdx d).foldl (λ(g:Array Ww) (f:Ww×Nat)=>g.setIfInBounds (T+f.2) f.1) b.toArray)=(b.take p++t++b.drop (p+t.length)).toArray
 |[],b,p,d,T,c,e=>by simp
 |f::t,b,p,d,T,c,e=>by
  rw[dm]at c;rw[zT,h4];dsimp only;rw[<-e,CH,xA t (b.set p f) (p+1) (d+1) T (by rw[zU];lia) ⋯];congr 1;have h:(b.set p f).take (p+1)=b.take p++[f]:=by
   apply qj;intro a;rw[oo,List.getElem?_append,gK,oo,H3];by_cases A:a<p
   ·rw[aJ ⋯,aP ⋯,aJ ⋯,aJ A]
   ·by_cases E:a=p
    ·subst E;rw[aJ ⋯,aJ rfl,aJ ⋯,aP ⋯];simp[show a-min a b.length=0 by lia]
    ·rw[aP ⋯,aP ⋯];rw[uX];rw[eO];lia
  have i:(b.set p f).drop (p+1+t.length)=b.drop (p+(t.length+1)):=by
   apply qj;intro a;rw[ng,ng,H3,aP ⋯];congr 1;lia
  rw[h,i,dm,bM,bM,bM];rfl
def F_{c d b:List Nat}{n k:Nat}(p:cJ Q c)(q:cJ Q d)(u:0<d.length)(v:0<c.length)(A:∀f∈c.take n,Q f<=Q (d.getD 0 0))(r:∀f∈d.drop k,Q (c.getD (c.length-1) 0)<=Q f)(l:b.Perm (c.drop n++d.take k))(et:cJ Q b):cJ Q (c.take n++b++d.drop k)/\(c.take n++b++d.drop k).Perm (c++d):=by
 have m:∀C∈d,Q (d.getD 0 0)<=Q C:=λC g=>by
  let⟨@i,W,o,rfl⟩:=k3 (a:=0) (t:=d) (by rwa [l_]);exact o1 q (f7 _) o
 have s:∀f∈c,Q f<=Q (c.getD (c.length-1) 0):=λf e=>by
  let⟨@i,W,o,rfl⟩:=k3 (a:=0) (t:=c) (by rwa [l_]);exact o1 p (by omega) (by omega)
 have h:cJ Q (c.take n++c.drop n):=by rwa [gi]
 have j:cJ Q (d.take k++d.drop k):=by rwa [gi]
 have h:=gs.mp h;have j:=gs.mp j;refine⟨gs.mpr ⟨gs.mpr ⟨h.1,et,λf e C g=>?_⟩,j.2.1,λf e C g=>?_⟩,?_⟩
 ·rcases dw.mp (l.mem_iff.mp g) with g|g
  ·exact h.2.2 f e C g
  ·exact zE (A f e) (m C<|nt g)
 ·rcases dw.mp e with e|e
  ·exact zE (A f e) (m C<|lj g)
  ·rcases dw.mp (l.mem_iff.mp e) with e|e
   ·exact zE (s f<|lj e) (r C g)
   ·exact j.2.2 f e C g
 ·refine (gj _<|eL _ l).trans ?_;rw[<-bM,gi,bM,gi]
def Rz(T:gG r Q (f6 Wf l P Wz it) j){m:List Nat}(H:∀f∈m,f<r){a aQ v D bn fr:Nat}{O:bK}(B:PyProof.Rows.kindOf O=Wz)(f0:arrOf O=(m.map<|bt it).toArray)(U:i5 O=Y)(S:(iK O)[a]?=Z (aQ,v,bn))(L:(iK O)[a+1]?=Z (aQ+v,D,fr))(f1:0<v)(bs:0<D)(gt:aQ+v+D<=m.length)(E:cJ Q ((m.drop aQ).take v))(F:cJ Q ((m.drop<|aQ+v).take D)){G:Bool->bK->au->Prop}(c:∀mid u,PyProof.Rows.kindOf u=Wz->i5 u=Y->iK u=((iK O).setIfInBounds a (aQ,v+D,bn)).eraseIdxIfInBounds (a+1)->mid.Perm ((m.drop aQ).take<|v+D)->cJ Q mid->
   arrOf u=((m.take aQ++mid++m.drop (aQ+(v+D))).map<|bt it).toArray->G aa u j):
  kasC (aV Wf l) P Wa (vT a) G O j:=by
 have bv:((m.drop aQ).take v).length=v:=by rw[gK,f9];lia
 have f2:((m.drop<|aQ+v).take D).length=D:=by rw[gK,f9];lia
 have I:∀i,i<v->((m.drop aQ).take v).getD i 0=m.getD (aQ+i) 0:=λi L=>by simp[List.getD,oo,ng,L]
 have J:∀i,i<D->((m.drop<|aQ+v).take D).getD i 0=m.getD (aQ+v+i) 0:=λi L=>by simp[List.getD,oo,ng,L]
 have al:(m.drop aQ).take v++(m.drop<|aQ+v).take D=(m.drop aQ).take (v+D):=by rw[<-oM,qR]
 have ca:m.take aQ++(m.drop aQ).take (v+D)++m.drop (aQ+(v+D))=m:=by rw[qR,gi]
 have cd:∀a i,aQ<=a->a<=i->i<aQ+v->Q (m.getD a 0)<=Q (m.getD i 0):=λa i g d h=>by
  have:=o1 E (a:=a-aQ) (i:=i-aQ) ⋯ ⋯
  rwa [I _ ⋯,I _ ⋯,show aQ+(a-aQ)=a by lia,show aQ+(i-aQ)=i by lia]at this
 have ce:∀a i,aQ+v<=a->a<=i->i<aQ+v+D->Q (m.getD a 0)<=Q (m.getD i 0):=λa i g d h=>by
  have:=o1 F (a:=a-(aQ+v)) (i:=i-(aQ+v)) ⋯ ⋯
  rwa [J _ ⋯,J _ ⋯,show aQ+v+(a-(aQ+v))=a by lia,show aQ+v+(i-(aQ+v))=i by lia]at this
 have y:∀f∈(m.drop aQ).take v,∃i,aQ<=i/\i<aQ+v/\f=m.getD i 0:=λf s=>by
  let⟨@i,M,w,rfl⟩:=pV s;exact⟨aQ+i,⋯,⋯,rfl⟩
 have ch:∀f∈(m.drop<|aQ+v).take D,∃i,aQ+v<=i/\i<aQ+v+D/\f=m.getD i 0:=λf s=>by
  let⟨@i,M,w,rfl⟩:=pV s;exact⟨aQ+v+i,⋯,⋯,rfl⟩
 unfold vT;with_unfolding_all refine bB (kI ?_);simp only[S,L,f0];refine bB (Qv ?_);refine bB (hk (show aQ+v<m.length by lia) ?_);refine bB (AJ T (ky H (show aQ+v<m.length by lia)) H (Wi:=aQ) (k:=v) (b:=0) ⋯ f1 cd (by exact B) ?_);intro n ci cl f8;dsimp only;by_cases co:v-n=0
 ·rw[aJ ⇑co];refine bx (c _ _ (by exact B) (by exact U) rfl (List.Perm.refl _) ?_ ?_)
  ·rw[<-al];refine gs.mpr ⟨E,F,λf s C am=>?_⟩;let⟨@i,w,ga,rfl⟩:=y f s;let⟨@an,cr,ap,rfl⟩:=ch C am;have:=cl i w ⋯;have:=ce (aQ+v) an ⋯ cr ap;lia
  ·rw[ca]
 rw[aP ⇑co];rw[show aQ+n+(v-n)-1=aQ+v-1 by lia];refine bB (hk (show aQ+v-1<m.length by lia) ?_);refine bB (zH T (ky H (show aQ+v-1<m.length by lia)) H (Wi:=aQ+v) (k:=D) (b:=D-1) ⋯ ⋯ ce (by exact B) ?_);intro o as ge cs;dsimp only;by_cases db:o=0
 ·rw[aJ ⇑db];refine bx (c _ _ (by exact B) (by exact U) rfl (List.Perm.refl _) ?_ ?_)
  ·rw[<-al];refine gs.mpr ⟨E,F,λf s C am=>?_⟩;let⟨@i,w,ga,rfl⟩:=y f s;let⟨@an,cr,ap,rfl⟩:=ch C am;have:=cs an ⋯ ap;have:=cd i (aQ+v-1) w ⋯ ⋯;lia
  ·rw[ca]
 rw[aP ⇑db];have gl:(m.map<|bt it).toArray.extract (aQ+n) (aQ+v)=((((m.drop aQ).take v).drop n).map<|bt it).toArray:=by
  apply lF;simp only[Jr,List.extract_eq_drop_take,jE,kF];rw[t5,oM,show aQ+v-(aQ+n)=v-n by lia]
 have go:(m.map<|bt it).toArray.extract (aQ+v) (aQ+v+o)=((((m.drop<|aQ+v).take D).take o).map<|bt it).toArray:=by
  apply lF;simp only[Jr,List.extract_eq_drop_take,jE,kF];rw[xf,qa as,show aQ+v+o-(aQ+v)=o by lia]
 rw[gl,go];have A:∀f∈((m.drop aQ).take v).take n,Q f<=Q (((m.drop<|aQ+v).take D).getD 0 0):=λf s=>by
  rw[J 0 bs];let⟨@i,M,w,rfl⟩:=mn s;rw[I i ⋯];exact cl _ ⋯ ⋯
 have ds:∀f∈((m.drop<|aQ+v).take D).drop o,Q (((m.drop aQ).take v).getD (((m.drop aQ).take v).length-1) 0)<=Q f:=λf s=>by
  rw[bv,I _ ⋯];let⟨@i,M,w,rfl⟩:=k3 s;rw[J i ⋯,show aQ+(v-1)=aQ+v-1 by lia];exact cs _ ⋯ ⋯
 have dL:∀f∈((m.drop aQ).take v).drop n,Q ((((m.drop<|aQ+v).take D).take o).getD 0 0)<=Q f:=λf s=>by
  rw[show (((m.drop<|aQ+v).take D).take o).getD 0 0=((m.drop<|aQ+v).take D).getD 0 0 by simp only[List.getD,oo,aJ (show 0<o by lia)],J 0 bs];let⟨@i,M,w,rfl⟩:=k3 s;rw[I i ⋯];have:=f8 (aQ+i) ⋯ ⋯;rw[AR];lia
 have bz:(((m.drop aQ).take v).drop n).length=v-n:=by rw[f9,bv]
 have eq:(((m.drop<|aQ+v).take D).take o).length=o:=by rw[gK,f2];lia
 have ev:∀f∈((m.drop<|aQ+v).take D).take o,Q f<=Q ((((m.drop aQ).take v).drop n).getD ((((m.drop aQ).take v).drop n).length-1) 0):=λf s=>by
  rw[bz,show (((m.drop aQ).take v).drop n).getD (v-n-1) 0=((m.drop aQ).take v).getD (v-1) 0 by simp only[List.getD,ng,show n+(v-n-1)=v-1 by lia],I _ ⋯,show aQ+(v-1)=aQ+v-1 by lia];let⟨@i,M,w,rfl⟩:=mn s;rw[J i ⋯];have:=ge (aQ+v+i) ⋯ ⋯;lia
 have ex:∀f∈((m.drop aQ).take v).drop n,f<r:=λf s=>H f (lj<|nt<|lj s);have fd:∀f∈((m.drop<|aQ+v).take D).take o,f<r:=λf s=>H f (lj<|nt<|nt s);by_cases fn:v-n<=o
 ·rw[aJ fn];refine bB (T5 T ex fd (E.sublist<|u_ _ _) (F.sublist<|rS _ _) ⋯ ⋯ dL ev (by exact B) ?_);intro out u a1 z;let⟨@b,rfl,N,a2⟩:=a1;have R:=F_ (Q:=Q) E F ⋯ ⋯ A ds N a2;refine bB (lA ?_);refine bB (kI ?_);refine bx ?_;have e:i5 u=Y:=z.f.trans U;show G (i5 u).isNone _ j;rw[e];refine c (((m.drop aQ).take v).take n++b++((m.drop<|aQ+v).take D).drop o) _ (z.k.trans B) (by first|rfl|exact e) (by exact z.p) (by rw[<-al];exact R.2) R.1 ?_;have bd:arrOf u=(m.map<|bt it).toArray:=z.a;have bI:b.length=v-n+o:=by rw[N.length_eq,b_,bz,eq]
  have be:=xA (b.map<|bt it) (m.map<|bt it) (aQ+n) 0 (aQ+n) (by rw[aZ,aZ,bI];lia) rfl;show List.foldl (λg f=>g.setIfInBounds (aQ+n+f.2) f.1) (arrOf u) (b.map<|bt it).toArray.toList.zipIdx=_;rw[bd];refine be.trans ?_;rw[aZ,bI,<-kF,<-jE,<-d9,<-d9];congr 2;have bi:m.take (aQ+n)=m.take aQ++((m.drop aQ).take v).take n:=by
   rw[xf,qa ci,qR]
  have bm:m.drop (aQ+n+(v-n+o))=((m.drop<|aQ+v).take D).drop o++m.drop (aQ+(v+D)):=by
   have:=AF (t:=m.drop (aQ+v)) (a:=o) (i:=D) as (by rw[f9];lia);rw[oM,oM]at this;rw[show aQ+n+(v-n+o)=aQ+v+o by lia,this,show aQ+v+D=aQ+(v+D) by lia]
  rw[bi,bm];simp only[bM]
 ·rw[aP fn];refine bB (Uy T ex fd (E.sublist<|u_ _ _) (F.sublist<|rS _ _) ⋯ ⋯ dL ev (by exact B) ?_);intro out u a1 z;let⟨@b,rfl,N,a2⟩:=a1;have R:=F_ (Q:=Q) E F ⋯ ⋯ A ds N a2;refine bB (lA ?_);refine bB (kI ?_);refine bx ?_;have e:i5 u=Y:=z.f.trans U;show G (i5 u).isNone _ j;rw[e];refine c (((m.drop aQ).take v).take n++b++((m.drop<|aQ+v).take D).drop o) _ (z.k.trans B) (by first|rfl|exact e) (by exact z.p) (by rw[<-al];exact R.2) R.1 ?_;have bd:arrOf u=(m.map<|bt it).toArray:=z.a;have bI:b.length=v-n+o:=by rw[N.length_eq,b_,bz,eq]
  have be:=xA (b.map<|bt it) (m.map<|bt it) (aQ+n) 0 (aQ+n) (by rw[aZ,aZ,bI];lia) rfl;show List.foldl (λg f=>g.setIfInBounds (aQ+n+f.2) f.1) (arrOf u) (b.map<|bt it).toArray.toList.zipIdx=_;rw[bd];refine be.trans ?_;rw[aZ,bI,<-kF,<-jE,<-d9,<-d9];congr 2;have bi:m.take (aQ+n)=m.take aQ++((m.drop aQ).take v).take n:=by
   rw[xf,qa ci,qR]
  have bm:m.drop (aQ+n+(v-n+o))=((m.drop<|aQ+v).take D).drop o++m.drop (aQ+(v+D)):=by
   have:=AF (t:=m.drop (aQ+v)) (a:=o) (i:=D) as (by rw[f9];lia);rw[oM,oM]at this;rw[show aQ+n+(v-n+o)=aQ+v+o by lia,this,show aQ+v+D=aQ+(v+D) by lia]
  rw[bi,bm];simp only[bM]
end
section
variable{Wf:bS}{l:bA}{P:bH}{Wa:ag->au->Prop}{Wz:hC}{it:Array bw}{Q:Nat->Int}{r:Nat}{j:au}{o:Array (Nat×Nat×Nat)}
structure fk(Wz:hC)(it:Array bw)(o:Array (Nat×Nat×Nat))(O:bK)(p:Array Nat):Prop where
 k:PyProof.Rows.kindOf O=Wz
 a:arrOf O=p.map (bt it)
 p:iK O=o
 f:i5 O=Y
def tw(f:gG r Q (f6 Wf l P Wz it) j){q:Array Nat}(b:dA r q){a i:Nat}(S:a<r)(d:i<r){O:bK}(m:fk Wz it o O q){G:Option Bool->bK->au->Prop}(c:G (Z<|decide (bq Q q a<bq Q q i)) O j):
  kasC (aV Wf l) P Wa (pe a i) G O j:=by
 have e:∀a,a<r->(q.map<|bt it)[a]?=Z (bt it<|q.getD a 0):=λa S=>by
  have:a<q.size:=by rw[b.size];exact S
  simp[Array.getD,this]
 rw[ltAt'_eq];refine bB (kI ?_);rw[m.a];dsimp only;rw[u9,u9,e a S,e i d];refine bB (bx ?_);refine bB (bx ?_);exact sN f (b.lt S) (b.lt d) m.k c
variable{q:Array Nat}{O:bK}
def vQ(m:fk Wz it o O q){a i:Nat}{G:Unit->bK->au->Prop}(c:∀b,fk Wz it o b (nF q a i)->G () b j):kasC (aV Wf l) P Wa (rL a i) G O j:=by
 rw[reverseSlice'_eq];refine lA (c _ ⟨m.k,?_,m.p,m.f⟩);show mirror (arrOf O) a i ((i-a)/2)=_;rw[m.a];exact B5 (bt it) (λn=>a+n) (λn=>i-1-n) _ q
def LR(m:fk Wz it o O q){a i:Nat}{G:Unit->bK->au->Prop}(c:∀b,fk Wz it o b (rQ q a<|a-i)->G () b j):kasC (aV Wf l) P Wa (moveDown' a i) G O j:=by
 rw[moveDown'_eq];refine lA (c _ ⟨m.k,?_,m.p,m.f⟩);show rQ (arrOf O) a (a-i)=_;rw[m.a];exact B5 (bt it) (λn=>a-n) (λn=>a-n-1) _ q
theorem rN{D W_:Type}{aF:ig}{x:Nat->W_->StateT D er (ForInStep W_)}{G:W_->D->au->Prop}(H:Nat->W_->D->au->Prop)(WA:Nat)(step:∀f h O V9,f<WA->H f h O V9->kasC aF P Wa (x f h) (λu b d=>match u with | .yield a=>H (f+1) a b d | .done a=>G a b d) O V9):∀(k g:Nat) (h:W_) (O:D) (V9:au),g+k<=WA->(∀h O V9,H (g+k) h O V9->G h O V9)->H g h O V9->
   kasC aF P Wa (forIn (range' g k) h x) G O V9
 |0,g,h,O,V9,i,fin,c=>by
  show kasC aF P Wa (forIn ([]:List Nat) h x) G O V9;exact kasC_nil (fin h O V9 c)
 |k+1,g,h,O,V9,i,fin,c=>by
  show kasC aF P Wa (forIn (g::range' (g+1) k) h x) G O V9;refine kasC_cons (iz (step g h O V9 ⋯ c) (λu d U=>?_) λ_ W e=>e);let⟨u,b⟩:=u;cases u with
  |done a=>exact U
  |yield a=>exact rN H WA step k (g+1) a b d ⋯ (λh O V9 S=>fin h O V9 (by rw[show g+(k+1)=g+1+k by lia];exact S)) U
end
section
variable{Wf:bS}{l:bA}{P:bH}{Wa:ag->au->Prop}{Wz:hC}{it:Array bw}{Q:Nat->Int}{r:Nat}{j:au}{o:Array (Nat×Nat×Nat)}
def iN(Q:Nat->Int)(q:Array Nat)(M k:Nat):Prop:=(∀a i,M<=a->a<=i->i<M+k->bq Q q a<=bq Q q i)
def HA{q:Array Nat}{M k:Nat}(c:∀i,M+1<=i->i<M+k->bq Q q (i-1)<=bq Q q i):iN Q q M k:=by
 intro a i S b e;obtain⟨s,rfl⟩:∃s,i=a+s:=⟨i-a,⋯⟩;clear b;induction s with
 |zero=>exact jR _
 |succ s f=>
  have g:=f ⋯;have d:=c (a+(s+1)) ⋯ e;rw[show a+(s+1)-1=a+s by lia]at d;lia
def Q7(U:gG r Q (f6 Wf l P Wz it) j){q:Array Nat}(al:dA r q){M k s:Nat}(be:M+k<=r)(A:1<=s)(bi:s<=k)(up:iN Q q M s){O:bK}(m:fk Wz it o O q){G:Bool->bK->au->Prop}(c:∀x b,dA r x->fk Wz it o b x->(∀a,a<M->x[a]?=q[a]?)->iN Q x M k->G aa b j):
  kasC (aV Wf l) P Wa (binarySort' M k s) G O j:=by
 rw[binarySort'_eq];rw[show max s 1=s by lia];with_unfolding_all refine bB (iY (a:=λh b V9=>j=V9/\h=(Y,())/\∃p,dA r p/\fk Wz it o b p/\(∀a,a<M->p[a]?=q[a]?)/\iN Q p M k)
  (gV (rN (λf h b V9=>j=V9/\h=(Y,())/\1<=f/\∃p,dA r p/\fk Wz it o b p/\(∀a,a<M->p[a]?=q[a]?)/\iN Q p M f) k ?step _ _ _ _ _ ⋯ ?fin ⟨rfl,rfl,A,q,al,m,λ_ W=>rfl,up⟩)) ?after)
 case after=>
  rintro h b V9 ⟨rfl,rfl,p,z,B,D,y⟩;exact bx (c p _ z B D y)
 case fin=>
  rintro h b V9 ⟨rfl,rfl,bm,p,z,B,D,y⟩;rw[show s+(k-s)=k by lia]at y;exact⟨rfl,rfl,p,z,B,D,y⟩
 case step=>
  rintro n h b V9 bn ⟨rfl,rfl,WD,p,E,V6,an,up⟩;dsimp only;have ap:∀a,M<=a->a<M+0->bq Q p a<=bq Q p (M+n):=λa g d=>⋯
  have as:∀a,M+n<=a->a<M+n->bq Q p (M+n)<=bq Q p a:=λa g d=>⋯
  refine bB (iY (a:=λh v V9=>j=V9/\b=v/\∃t u,h=(Y,t,u)/\t<=n/\(∀a,M<=a->a<M+t->bq Q p a<=bq Q p (M+n))/\(∀a,M+t<=a->a<M+n->bq Q p (M+n)<=bq Q p a))
   (gV (rN (λf h v V9=>j=V9/\b=v/\∃t u,h=(Y,t,u)/\t<=u/\u<=n/\u-t<=n-f/\(∀a,M<=a->a<M+t->bq Q p a<=bq Q p (M+n))/\(∀a,M+u<=a->a<M+n->bq Q p (M+n)<=bq Q p a)) n ?s2 _ _ _ _ _ ⋯ ?f2 ⟨rfl,rfl,0,n,rfl,⋯,⋯,⋯,ap,as⟩)) ?a2)
  case f2=>
   rintro h v V9 ⟨rfl,rfl,t,u,rfl,dY,dH,oj,kY,lq⟩;exact⟨rfl,rfl,t,u,rfl,⋯,kY,λa f C=>lq a ⋯ C⟩
  case s2=>
   rintro f h v V9 bs ⟨rfl,rfl,t,u,rfl,dY,dH,oj,kY,lq⟩;dsimp only;by_cases e:t >= u
   ·rw[aJ e];exact bx ⟨rfl,rfl,t,u,rfl,⋯,kY,λa f C=>lq a ⋯ C⟩
   rw[aP e];have F:t<=(t+u)/2:=⋯
   have a1:(t+u)/2<u:=⋯
   have H:(t+u)/2-t<=n-(f+1):=⋯
   have I:u-((t+u)/2+1)<=n-(f+1):=⋯
   generalize (t+u)/2=mid at F a1 H I ⊢;refine bB (tw U E ⋯ ⋯ V6 ?_);dsimp only;by_cases J:bq Q p (M+n)<bq Q p (M+mid)
   ·rw[aJ ⇑J];refine bx ⟨rfl,rfl,t,mid,rfl,F,⋯,H,kY,λa f C=>?_⟩;have:=up (M+mid) a ⋯ f C;lia
   ·rw[aP ⇑J];refine bx ⟨rfl,rfl,mid+1,u,rfl,⋯,dH,I,λa f C=>?_,lq⟩;have:=up a (M+mid) f ⋯ ⋯;lia
  case a2=>
   rintro h v V9 ⟨rfl,rfl,t,u,rfl,dY,kY,lq⟩;dsimp only;refine bB (LR V6 ?_);intro bv bd;have L:∀a,(rQ p (M+n)<|M+n-(M+t))[a]?=if a=M+t then p[M+n]? else if M+t<a/\a<=M+n then p[a-1]? else p[a]?:=λa=>by
    have:=getElem?_bubble (xs:=p) (src:=M+n) (by rw[E.size];lia) (M+n-(M+t)) ⋯ a
    rwa [show M+n-(M+n-(M+t))=M+t by lia]at this
   have ba:∀a,bq Q (rQ p (M+n)<|M+n-(M+t)) a=if a=M+t then bq Q p (M+n) else if M+t<a/\a<=M+n then bq Q p (a-1) else bq Q p a:=λa=>by
    have L:=L a;by_cases e:a=M+t
    ·rw[aJ e]at L ⊢;exact nR L
    ·rw[aP e]at L ⊢;by_cases N:M+t<a/\a<=M+n
     ·rw[aJ N]at L ⊢;exact nR L
     ·rw[aP N]at L ⊢;exact nR L
   refine bx ⟨rfl,rfl,⋯,_,E.Vo _ _,bd,λa S=>by rw[L,aP ⋯,aP ⋯];exact an a S,HA λi f C=>?_⟩;rw[ba,ba];by_cases R:i-1=M+t
   ·rw[aJ R,aP ⋯,aJ ⋯];exact lq (i-1) ⋯ ⋯
   ·rw[aP R];by_cases T:i=M+t
    ·rw[aJ T,aP ⋯];exact kY (i-1) ⋯ ⋯
    ·rw[aP T];by_cases cd:M+t<i-1
     ·rw[aJ ⋯,aJ ⋯];exact up _ _ ⋯ ⋯ ⋯
     ·rw[aP ⋯,aP ⋯];exact up _ _ ⋯ ⋯ ⋯
def e2(Q:Nat->Int)(q:Array Nat):Nat->List (Nat×Nat×Nat)->Nat->Prop
 |g,[],d=>g=d
 |g,(f,t,_)::B,d=>f=g/\0<t/\iN Q q f t/\e2 Q q (g+t) B d
variable{q:Array Nat}
theorem e2.le:∀{B:List (Nat×Nat×Nat)}{g d:Nat},e2 Q q g B d->g+B.length<=d
 |[],g,d,c=>by rw[show d=g from c.symm];exact bb _
 | (f,t,_)::B,g,d,c=>by
  have:=c.2.2.2.le;have:=c.2.1;rw[dm];lia
theorem e2.congr{p:Array Nat}:∀{B:List (Nat×Nat×Nat)}{g d:Nat},e2 Q q g B d->(∀a,g<=a->a<d->bq Q p a=bq Q q a)->e2 Q p g B d
 |[],g,d,c,_=>c
 | (f,t,_)::B,g,d,c,L=>by
  have:=c.2.2.2.le;let@⟨rfl,E,b,e⟩:=c;refine⟨rfl,E,λa i S h j=>?_,e.congr λa g d=>L a ⋯ d⟩;rw[L a S ⋯,L i ⋯ ⋯];exact b a i S h j
theorem e2.app{q:Array Nat}:∀{B J:List (Nat×Nat×Nat)}{g d:Nat},e2 Q q g (B++J) d↔∃h,e2 Q q g B h/\e2 Q q h J d
 |[],J,g,d=>⟨λc=>⟨g,rfl,c⟩,λ⟨h,e,c⟩=>by rw[show g=h from e];exact c⟩
 | (f,t,j)::B,J,g,d=>by
  show (f=g/\0<t/\iN Q q f t/\e2 Q q (g+t) (B++J) d)↔_;rw[e2.app];constructor
  ·rintro⟨A,E,a,h,b,i⟩;exact⟨h,⟨A,E,a,b⟩,i⟩
  ·rintro⟨h,⟨A,E,a,b⟩,i⟩;exact⟨A,E,a,h,b,i⟩
def KJ{Ww:Type}{t:List Ww}{a:Nat}(c:a+1<t.length):∃a8 f C bz,t=a8++f::C::bz/\a8.length=a:=by
 refine⟨t.take a,t[a]'⋯,t[a+1],t.drop<|a+2,?_,by rw[gK];lia⟩;have b:=kr (l:=t) (i:=a) ⋯;have d:=kr (l:=t) (i:=a+1) c;rw[<-d,<-b,gi]
def vY(t:List Nat)(a:Nat):bq Q t.toArray a=Q (t.getD a 0):=by unfold bq;rw[mz]
def Fb(L:gG r Q (f6 Wf l P Wz it) j){q:Array Nat}(B:dA r q){O:bK}(m:fk Wz it o O q){M a:Nat}(S:a+1<o.size)(Wb:e2 Q q 0 o.toList M)(ci:M<=r){G:Bool->bK->au->Prop}(c:∀C s u,dA r s->fk Wz it C u s->C.size+1=o.size->e2 Q s 0 C.toList M->(∀a,M<=a->bq Q s a=bq Q q a)->G aa u j):kasC (aV Wf l) P Wa (vT a) G O j:=by
 let⟨a8,⟨aQ,v,b⟩,⟨c0,D,w⟩,@bz,e,rfl⟩:=KJ (t:=o.toList) (a:=a) ⇑S;rw[e]at Wb;let⟨@h,N,rfl,R,T,rfl,U,al,cf⟩:=e2.app.mp Wb;have dH:=cf.le;have y:o=(a8++(aQ,v,b)::(aQ+v,D,w)::bz).toArray:=by rw[<-e]
 have am:q.size=r:=B.size;have an:∀f∈q.toList,f<r:=λf ap=>fI.mp (B.mem_iff.mp ap);have z:∀a,bq Q q a=Q (q.toList.getD a 0):=λa=>vY q.toList a;have bI:q.toList.length=r:=by rw[eb,am]
 have F:∀g k,g+k<=r->iN Q q g k->cJ Q ((q.toList.drop g).take k):=λg k cl c=>by
  refine oE.mpr λa i S as co=>?_;have a1:=S;have a2:=as;rw[gK,f9,bI]at a1 a2;have:=c (g+a) (g+i) ⋯ ⋯ ⋯;rw[z,z]at this;rw[vO,qh,vO,qh];rw[cP,cP,eB ⋯,eB ⋯]at this;exact this
 refine Rz L (m:=q.toList) an (a:=a8.length) (aQ:=aQ) (v:=v) (D:=D) (bn:=b) (fr:=w) m.k (by rw[m.a];apply lF;simp) m.f (by rw[m.p,y];simp) (by rw[m.p,y];simp) R U ⋯ (F _ _ ⋯ T) (F _ _ ⋯ al) ?_;intro mid u WD bd be H bi bm;have bn:mid.length=v+D:=by rw[H.length_eq,gK,f9,bI];lia
 have bs:q.toList.take aQ++(q.toList.drop aQ).take (v+D)++q.toList.drop (aQ+(v+D))=q.toList:=by rw[qR,gi]
 have bv:dA r (q.toList.take aQ++mid++q.toList.drop (aQ+(v+D))).toArray:=by
  show (q.toList.take aQ++mid++q.toList.drop (aQ+(v+D))).Perm (range r);refine List.Perm.trans (gj _<|eL _ H) ?_;rw[bs];exact B
 have Xm:(q.toList.take aQ).length=aQ:=by rw[gK,bI];lia
 have ca:∀a,a<aQ->bq Q (q.toList.take aQ++mid++q.toList.drop (aQ+(v+D))).toArray a=bq Q q a:=λa S=>by
  rw[vY,z];congr 1;rw[cP,cP,bM,jN ⋯,oo,aJ S]
 have I:∀a,aQ+(v+D)<=a->bq Q (q.toList.take aQ++mid++q.toList.drop (aQ+(v+D))).toArray a=bq Q q a:=λa S=>by
  rw[vY,z];congr 1;rw[cP,cP,kM (by rw[b_];lia),ng,b_,Xm,bn];congr 2;lia
 have J:∀a,aQ<=a->a<aQ+(v+D)->bq Q (q.toList.take aQ++mid++q.toList.drop (aQ+(v+D))).toArray a=Q (mid.getD (a-aQ) 0):=λa A E=>by
  rw[vY];congr 1;rw[cP,cP,bM,kM ⋯,Xm,jN ⋯]
 have cd:((a8++(aQ,v,b)::(aQ+v,D,w)::bz).toArray.setIfInBounds a8.length (aQ,v+D,b)).eraseIdxIfInBounds (a8.length+1)=(a8++(aQ,v+D,b)::bz).toArray:=by
  rw[CH,List.set_append_right _ _<|bb _,w2,List.set_cons_zero];rw[Bo,List.eraseIdx_append_of_length_le ⋯,show a8.length+1-a8.length=1 by lia];rfl
 refine c ((a8++(aQ,v+D,b)::bz).toArray) _ u bv ⟨WD,by rw[bm];apply lF;simp,by rw[be,m.p,y,cd],bd⟩ (by rw[y];simp;lia) ?_ (λa S=>I a ⋯);have ce:e2 Q q (aQ+(v+D)) bz M:=by rw[<-q1];exact cf
 refine e2.app.mpr ⟨aQ,N.congr λa W d=>ca a d,rfl,⋯,λa i A E ch=>?_,ce.congr λa g d=>I a g⟩
 ·rw[J a A ⋯,J i ⋯ ch];exact o1 bi ⋯ ⋯
end
section
variable{Wf:bS}{l:bA}{P:bH}{Wa:ag->au->Prop}{Wz:hC}{it:Array bw}{Q:Nat->Int}{r:Nat}{j:au}{o:Array (Nat×Nat×Nat)}
variable{p:Array Nat}
def xn(b:dA r p){a i:Nat}(c:i<=r)(n:Nat):(nF p a i)[n]?=if a<=n/\n<i then p[a+i-1-n]? else p[n]?:=by
 unfold nF;rw[getElem?_mirror_all (by rw[b.size];lia)]
def LJ(b:dA r p){a i:Nat}(d:i<=r)(e:∀n,a<=n->n<i->bq Q p n=bq Q p a)(n:Nat):bq Q (nF p a i) n=bq Q p n:=by
 by_cases c:a<=n/\n<i
 ·rw[nR (show (nF p a i)[n]?=p[a+i-1-n]? by rw[xn b d,aJ c]),e _ ⋯ ⋯,e n c.1 c.2]
 ·exact nR (by rw[xn b d,aP c])
structure nH(Q:Nat->Int)(r M:Nat)(q p:Array Nat):Prop where
 nV:dA r p
 be:∀a,a<M->p[a]?=q[a]?
 ba:∀n,bq Q p n=bq Q q n
def nH.rev{M:Nat}{q:Array Nat}(Wj:nH Q r M q p){a i:Nat}(S:M<=a)(b:i<=r)(e:∀n,a<=n->n<i->bq Q q n=bq Q q a):nH Q r M q (nF p a i):=
 ⟨Wj.nV.rev a i,λn c=>by rw[xn Wj.nV b,aP ⋯];exact Wj.be n c,λn=>by
  rw[LJ Wj.nV b (λn g d=>by rw[Wj.ba,Wj.ba];exact e n g d)];exact Wj.ba n⟩
theorem Ji{x:Nat->Int}{g d:Nat}(c:∀i,g+1<=i->i<d->x i=x (i-1)):∀s,g+s<d->x (g+s)=x g
 |0,_=>rfl
 |s+1,hd=>(c (g+(s+1)) ⋯ hd).trans (Ji c s ⋯)
def Ca(q:gG r Q (f6 Wf l P Wz it) j){M a:Nat}(x:M+a<=r){p:Array Nat}{d:bK}{g:Nat}(s:dA r p)(Wh:fk Wz it o d p)(y:1<=g)(z:g<=a)(t:∀i,M+1<=i->i<M+g->bq Q p (i-1)<=bq Q p i):
   kasC (aV Wf l) P Wa (forIn [g:a] ((Y:Option (Option Nat)),g) λf h=>pe (M+h.2) (M+h.2-1) >>= λu=>match u with
    |some v=>if v=aa then pure (ForInStep.done (Y,h.2)) else pure (ForInStep.yield (Y,h.2+1))
    |f=>pure<|ForInStep.done (Z Y,h.2))
    (λh b V9=>j=V9/\d=b/\∃k,h=(Y,k)/\g<=k/\k<=a/\(∀i,M+1<=i->i<M+k->bq Q p (i-1)<=bq Q p i)/\(k=a\/bq Q p (M+k)<bq Q p (M+k-1))) d j:=by
 refine gV (rN (λf h b V9=>j=V9/\d=b/\h=(Y,f)/\g<=f/\∀i,M+1<=i->i<M+f->bq Q p (i-1)<=bq Q p i) a ?_ _ _ _ _ _ ⋯ ?_ ⟨rfl,rfl,rfl,bb _,t⟩)
 ·rintro f h b V9 A ⟨rfl,rfl,rfl,n,c⟩;dsimp only;refine bB (tw q s ⋯ ⋯ Wh ?_);dsimp only;by_cases m:bq Q p (M+f)<bq Q p (M+f-1)
  ·rw[aJ ⇑m];exact bx ⟨rfl,rfl,f,rfl,n,⋯,c,.inr m⟩
  ·rw[aP ⇑m];refine bx ⟨rfl,rfl,rfl,⋯,λi w B=>?_⟩;by_cases e:i=M+f
   ·subst e;lia
   ·exact c i w ⋯
 ·rintro h b V9 ⟨rfl,rfl,rfl,n,c⟩;rw[show g+(a-g)=a by lia]at c ⊢;exact⟨rfl,rfl,a,rfl,⋯,bb _,c,.inl rfl⟩
def t9(M a k:Nat): StateT bK er (Option Nat):=(rL M (M+k) >>= λ_ => (forIn [k:a] ((Y:Option (Option Nat)),k) λf h => pe (M+h.2) (M+h.2-1) >>= λu => match u with
    |some b => if b=aa then pure (ForInStep.done (Y,h.2)) else pure (ForInStep.yield (Y,h.2+1))
    |f => pure<|ForInStep.done (Z Y,h.2)) >>= λh => match h.1 with
    |some u => pure u
    |none => pure (Z h.2))
def BV(M f:Nat)(h:Option (Option Nat)×Nat×Nat):StateT bK er (ForInStep<|Option (Option Nat)×Nat×Nat):=(pe (M+h.2.1) (M+h.2.1-1) >>= λu=>match u with
 |some a=>if a=aa then (if h.2.2>0 then rL (M+h.2.1-(h.2.2+1)) (M+h.2.1) >>= λ_=>pure (.yield (Y,h.2.1+1,0)) else pure (.yield (Y,h.2.1+1,0)))
  else pe (M+h.2.1-1) (M+h.2.1) >>= λu=>match u with
   |some b=>if b=aa then pure (.done (Y,h.2.1,h.2.2)) else pure (.yield (Y,h.2.1+1,h.2.2+1))
   |f=>pure (.done (Z Y,h.2.1,h.2.2))
 |f=>pure (.done (Z Y,h.2.1,h.2.2)))
def uW(M a k:Nat):StateT bK er (Option Nat):=(liftM (PySem.rule "list.sort.descending-run") >>= λ_=>forIn [k+1:a] ((Y:Option (Option Nat)),k+1,0) (BV M) >>= λh=>match h.1 with
 |some u=>pure u
 |none=>if h.2.2>0 then rL (M+h.2.1-(h.2.2+1)) (M+h.2.1) >>= λ_=>t9 M a h.2.1 else t9 M a h.2.1)
def E7(n:gG r Q (f6 Wf l P Wz it) j){M e k:Nat}(s:M+e<=r){q p:Array Nat}{O:bK}(Wj:nH Q r M q p)(m:fk Wz it o O p)(t:1<=k)(u:k<=e)(v:∀i,M+1<=i->i<M+k->bq Q q i<=bq Q q (i-1)){G:Option Nat->bK->au->Prop}(c:∀k b f,1<=k->k<=e->dA r b->fk Wz it o f b->(∀a,a<M->b[a]?=q[a]?)->(∀i,M+1<=i->i<M+k->bq Q b (i-1)<=bq Q b i)->G (Z k) f j):kasC (aV Wf l) P Wa (t9 M e k) G O j:=by
 unfold t9;refine bB (vQ m λz Ws=>?_);have L:=xn Wj.nV (a:=M) (i:=M+k) ⋯;have ba:∀a,M<=a->a<M+k->bq Q (nF p M<|M+k) a=bq Q q (M+(M+k)-1-a):=λa g d=>(nR (by rw[L,aJ ⟨g,d⟩])).trans (Wj.ba _);refine bB (iY (Ca n s (Wj.nV.rev M<|M+k) Ws t u λi A B=>?_) ?_)
 ·rw[ba _ ⋯ ⋯,ba _ ⋯ ⋯];have:=v (M+(M+k)-1-(i-1)) ⋯ ⋯;rw[show M+(M+k)-1-(i-1)-1=M+(M+k)-1-i by lia]at this;exact this
 ·rintro h f V9 ⟨rfl,rfl,w,rfl,C,x,y,D⟩;dsimp only;exact bx (c w _ _ ⋯ x (Wj.nV.rev M<|M+k) Ws (λa S=>by rw[L,aP ⋯];exact Wj.be a S) y)
def F0(B:gG r Q (f6 Wf l P Wz it) j){M u k:Nat}(F:M+u<=r){q p:Array Nat}{O:bK}(Wj:nH Q r M q p)(m:fk Wz it o O p)(U:1<=k)(al:k<u)(N:∀i,M+1<=i->i<M+(k+1)->bq Q q i<=bq Q q (i-1)){G:Option Nat->bK->au->Prop}(c:∀k A v,1<=k->k<=u->dA r A->fk Wz it o v A->(∀a,a<M->A[a]?=q[a]?)->(∀i,M+1<=i->i<M+k->bq Q A (i-1)<=bq Q A i)->G (Z k) v j):kasC (aV Wf l) P Wa (uW M u k) G O j:=by
 have aW:∀{f s:Nat},s+1<=f->(∀i,M+f-s<=i->i<M+f->bq Q q i=bq Q q (i-1))->∀n,M+f-(s+1)<=n->n<M+f->bq Q q n=bq Q q (M+f-(s+1)):=λ{f s} hd e n g d=>by
  have:=Ji (x:=bq Q q) (g:=M+f-(s+1)) (d:=M+f) (λi f C=>e i ⋯ C) (n-(M+f-(s+1))) ⋯
  rwa [show M+f-(s+1)+(n-(M+f-(s+1)))=n by lia]at this
 unfold uW;refine bB (pj<|ki ?_);refine bB (iY (a:=λh v V9=>j=V9/\∃t f s,h=(Y,f,s)/\fk Wz it o v t/\nH Q r M q t/\k+1<=f/\f<=u/\s+1<=f/\(∀i,M+1<=i->i<M+f->bq Q q i<=bq Q q (i-1))/\∀i,M+f-s<=i->i<M+f->bq Q q i=bq Q q (i-1))
  (gV (rN (λf h v V9=>j=V9/\∃t s,h=(Y,f,s)/\fk Wz it o v t/\nH Q r M q t/\k+1<=f/\s+1<=f/\(∀i,M+1<=i->i<M+f->bq Q q i<=bq Q q (i-1))/\∀i,M+f-s<=i->i<M+f->bq Q q i=bq Q q (i-1)) u ?WY _ _ _ _ _ ⋯ ?WZ ⟨rfl,p,0,rfl,m,Wj,bb _,⋯,N,λi g d=>⋯⟩)) ?R)
 case WY=>
  rintro f h v V9 an ⟨rfl,t,s,rfl,V6,b,D,z,w,y⟩;unfold BV;dsimp only;refine bB (tw B b.nV ⋯ ⋯ V6 ?_);dsimp only;rw[b.ba,b.ba];by_cases H:bq Q q (M+f)<bq Q q (M+f-1)
  ·rw[aJ ⇑H];have I:∀i,M+1<=i->i<M+(f+1)->bq Q q i<=bq Q q (i-1):=λi E S=>by
    by_cases e:i=M+f
    ·subst e;lia
    ·exact w i E ⋯
   by_cases hd:s>0
   ·rw[aJ hd];refine bB (vQ V6 λT Ws=>?_);exact bx ⟨rfl,_,0,rfl,Ws,b.rev ⋯ ⋯<|aW z y,⋯,⋯,I,λi g d=>⋯⟩
   ·rw[aP hd];exact bx ⟨rfl,t,0,rfl,V6,b,⋯,⋯,I,λi g d=>⋯⟩
  ·rw[aP ⇑H];refine bB (tw B b.nV ⋯ ⋯ V6 ?_);dsimp only;rw[b.ba,b.ba];by_cases J:bq Q q (M+f-1)<bq Q q (M+f)
   ·rw[aJ ⇑J];exact bx ⟨rfl,t,f,s,rfl,V6,b,D,⋯,z,w,y⟩
   ·rw[aP ⇑J];refine bx ⟨rfl,t,s+1,rfl,V6,b,⋯,⋯,λi E S=>?_,λi g d=>?_⟩
    ·by_cases e:i=M+f
     ·subst e;lia
     ·exact w i E ⋯
    ·by_cases e:i=M+f
     ·subst e;lia
     ·exact y i ⋯ ⋯
 case WZ=>
  rintro h v V9 ⟨rfl,t,s,rfl,V6,b,D,z,w,y⟩;rw[show k+1+(u-(k+1))=u by lia] at *;exact⟨rfl,t,u,s,rfl,V6,b,D,bb _,z,w,y⟩
 case R=>
  rintro h v V9 ⟨rfl,t,f,s,rfl,V6,b,D,L,z,w,y⟩;dsimp only;by_cases hd:s>0
  ·rw[aJ hd];refine bB (vQ V6 λT Ws=>?_);exact E7 B F (b.rev ⋯ ⋯<|aW z y) Ws ⋯ L w c
  ·rw[aP hd];exact E7 B F b V6 ⋯ L w c
def Gr(M a:Nat): StateT bK er (Option Nat):=((forIn [1:a] ((Y:Option (Option Nat)),1) λf h => pe (M+h.2) (M+h.2-1) >>= λu => match u with
    |some b => if b=aa then pure (ForInStep.done (Y,h.2)) else pure (ForInStep.yield (Y,h.2+1))
    |f => pure<|ForInStep.done (Z Y,h.2)) >>= λh => match h.1 with
    |some u => pure u
    |none => if (h.2==a)=aa then pure (Z h.2) else if h.2>1 then pe M (M+h.2-1) >>= λu => match u with
      |some c => if c=aa then pure (Z h.2) else rL M (M+h.2) >>= λ_ => uW M a h.2
      |f => pure Y
      else uW M a h.2)
def Ni(M a:Nat):countRun' M a=Gr M a:=by
 kernel_rfl
def UO(t:gG r Q (f6 Wf l P Wz it) j){q:Array Nat}(b:dA r q){M f:Nat}(A:1<=f)(v:M+f<=r){O:bK}(m:fk Wz it o O q){G:Option Nat->bK->au->Prop}(c:∀k p w,1<=k->k<=f->dA r p->fk Wz it o w p->(∀a,a<M->p[a]?=q[a]?)->(∀i,M+1<=i->i<M+k->bq Q p (i-1)<=bq Q p i)->G (Z k) w j):
  kasC (aV Wf l) P Wa (countRun' M f) G O j:=by
 rw[Ni];unfold Gr;have B:nH Q r M q q:=⟨b,λ_ W=>rfl,λ_=>rfl⟩;refine bB (iY (Ca t v b m (bb _) A λi g d=>⋯) ?_);rintro h w V9 ⟨rfl,rfl,k,rfl,x,C,u,F⟩;dsimp only;by_cases e:k=f
 ·rw[aJ ⇑e];exact bx (c k q _ x C b m (λ_ W=>rfl) u)
 rw[aP ⇑e];have H:bq Q q (M+k)<bq Q q (M+k-1):=F.resolve_left e;by_cases D:k>1
 ·rw[aJ D];refine bB (tw t b ⋯ ⋯ m ?_);dsimp only;by_cases E:bq Q q M<bq Q q (M+k-1)
  ·rw[aJ ⇑E];exact bx (c k q _ x C b m (λ_ W=>rfl) u)
  ·rw[aP ⇑E];have up:∀s,s<k->bq Q q M<=bq Q q (M+s)/\bq Q q (M+s)<=bq Q q (M+k-1):=by
    have I:∀s,s<k->bq Q q M<=bq Q q (M+s):=λs=>by
     induction s with
     |zero=>intro W;exact jR _
     |succ s y=>
      intro hd;have g:=u (M+(s+1)) ⋯ ⋯;rw[show M+(s+1)-1=M+s by lia]at g;have:=y ⋯;lia
    have J:∀s,s<k->bq Q q (M+k-1-s)<=bq Q q (M+k-1):=λs=>by
     induction s with
     |zero=>intro W;exact jR _
     |succ s y=>
      intro hd;have g:=u (M+k-1-s) ⋯ ⋯;rw[show M+k-1-s-1=M+k-1-(s+1) by lia]at g;have:=y ⋯;lia
    intro s hd;refine⟨I s hd,?_⟩;have:=J (k-1-s) ⋯
    rwa [show M+k-1-(k-1-s)=M+s by lia]at this
   have z:∀n,M<=n->n<M+k->bq Q q n=bq Q q M:=λn g d=>by
    have:=up (n-M) ⋯;rw[show M+(n-M)=n by lia]at this;lia
   refine bB (vQ m λR Ws=>?_);exact F0 (q:=q) t v (B.rev (bb _) ⋯ z) Ws x ⋯ (λi L N=>by
    by_cases e:i=M+k
    ·subst e;lia
    ·rw[z i ⋯ ⋯,z (i-1) ⋯ ⋯];exact jR _) c
 rw[aP D];obtain rfl:k=1:=⋯
 exact F0 (q:=q) t v B m (bb _) ⋯ (λi L N=>by
  obtain rfl:i=M+1:=⋯
  exact z_ H) c
end
section
variable{Wf:bS}{l:bA}{P:bH}{Wa:ag->au->Prop}{Wz:hC}{it:Array bw}{Q:Nat->Int}{r:Nat}{j:au}{o:Array (Nat×Nat×Nat)}
variable{q:Array Nat}
theorem e2.same:∀{B J:List (Nat×Nat×Nat)}{g d:Nat},e2 Q q g B d->(B.map λf=>(f.1,f.2.1))=(J.map λf=>(f.1,f.2.1))->e2 Q q g J d
 |[],[],g,d,c,_=>c
 |[],_::_,g,d,c,e=>by cases e
 |_::_,[],g,d,c,e=>by cases e
 | (f,t,j)::B,(k,l,m)::J,g,d,c,e=>by
  rw[cS,cS]at e;injection e with h i;injection h with a b;dsimp only at a b;subst a;subst b;exact⟨c.1,c.2.1,c.2.2.1,c.2.2.2.same i⟩
def Mv(w:Array (Nat×Nat×Nat))(a b:Nat):(w.toList.map λf=>(f.1,f.2.1))=((w.modify a λf=>(f.1,f.2.1,b)).toList.map λf=>(f.1,f.2.1)):=by
 apply qj;intro i;rw[fp,fp,fD,fD,Array.getElem?_modify];split
 ·rw[Option.map_map];rfl
 ·rfl
def iN.congr{p:Array Nat}{M k:Nat}(c:iN Q q M k)(L:∀a,M<=a->bq Q p a=bq Q q a):iN Q p M k:=λa i g d h=>by
 rw[L a g,L i ⋯];exact c a i g d h
def UH{aF:ig}{P:bH}{Wa:ag->au->Prop}{D Ww:Type}{h:Nat->Prop}{d:∀k,Decidable (h k)}{b Xg:Nat->StateT D er Ww}{G:Ww->D->au->Prop}{j:au}(T:Nat->D->Prop)(m:∀k O,T k O->kasC aF P Wa (Xg k) G O j)(a:(∀k O,T k O->kasC aF P Wa (Xg k) G O j)->∀k O,h k->T k O->kasC aF P Wa (b k) G O j):∀k O,T k O->kasC aF P Wa (if h k then b k else Xg k) G O j:=λk O q=>
 if c:h k then by rw[aJ c];exact a m k O c q else by rw[aP c];exact m k O q
variable{G:Unit->bK->au->Prop}
def Sm(A:gG r Q (f6 Wf l P Wz it) j)(E:2<=r)(a1:∀v b,dA r v->i0 Q v r->arrOf b=v.map (bt it)->i5 b=Y->G () b j):kasC (aV Wf l) P Wa sortRuns' G (wx Wz it (range r).toArray) j:=by
 rw[sortRuns'_eq];refine bB (kI ?_);dsimp only;have bd:(arrOf<|wx Wz it (range r).toArray).size=r:=by
  show ((range r).toArray.map<|bt it).size=r;simp
 simp only[bd];refine bB (iY (a:=λh b V9=>j=V9/\h=(Y,r)/\∃o q,dA r q/\fk Wz it o b q/\e2 Q q 0 o.toList r)
  (gV (hL (λf h b V9=>j=V9/\∃M o q,h=(Y,M)/\f<=M/\M<=r/\dA r q/\fk Wz it o b q/\e2 Q q 0 o.toList M) ?step _ 0 _ _ _ ?fin ⟨rfl,0,#[],(range r).toArray,rfl,bb _,⋯,List.Perm.refl _,⟨rfl,rfl,rfl,rfl⟩,rfl⟩)) ?after)
 case fin=>
  rintro h b V9 ⟨rfl,M,o,q,rfl,g,d,s,e,x⟩;have:M=r:=⋯
  subst this;exact⟨rfl,rfl,o,q,s,e,x⟩
 case after=>
  rintro h b V9 ⟨rfl,rfl,o,q,u,m,Wb⟩;dsimp only;refine bB (iY (a:=λh b V9=>j=V9/\h=(Y,())/\∃q,dA r q/\i0 Q q r/\arrOf b=q.map (bt it)/\i5 b=Y)
   (gV (hL (λf h b V9=>j=V9/\h=(Y,())/\∃o q,dA r q/\fk Wz it o b q/\e2 Q q 0 o.toList r/\o.size+f<=r) ?B _ 0 _ _ _ ?f2 ⟨rfl,rfl,o,q,u,m,Wb,by have:=Wb.le;rw[eb]at this;lia⟩)) ?a2)
  case a2=>
   rintro h b V9 ⟨rfl,rfl,q,g,d,h,s⟩;exact bx (a1 q _ g d h s)
  case f2=>
   rintro h b V9 ⟨rfl,rfl,o,q,u,m,Wb,be⟩;have e:o.toList=[]:=ry (by rw[eb];lia);rw[e]at Wb;have:0=r:=Wb;lia
  case B=>
   rintro f h b V9 ⟨rfl,rfl,o,q,u,m,Wb,be⟩;refine bB (kI ?_);by_cases e:(iK b).size<=1
   ·rw[aJ e];refine bx ⟨rfl,rfl,q,u,?_,m.a,m.f⟩;rw[m.p]at e;have bi:o.toList.length<=1:=by rw[eb];exact e
    match T:o.toList,bi with
    |[],_=>
     rw[T]at Wb;have:0=r:=Wb;lia
    |[(f,t,U)],_=>
     rw[T]at Wb;let@⟨rfl,_,bm,bn⟩:=Wb;have:0+t=r:=bn;exact λa i bs co=>bm a i (f7 _) bs ⋯
    |_::_::_,c=>exact absurd c ↥0
   ·rw[aP e];rw[m.p]at e;have bv:∀N,N+1<o.size->kasC (aV Wf l) P Wa (vT N) (λd w B=>d=aa/\j=B/\∃o q,dA r q/\fk Wz it o w q/\e2 Q q 0 o.toList r/\o.size+(f+1)<=r) b j:=λN ca=>
     Fb A u m ca Wb (bb _) λO v cd g d h s al=>⟨rfl,rfl,O,v,g,d,s,⋯⟩;refine bB (iY (bv _ ?_) ?_)
    ·rw[m.p];have:∀(h:Prop) [Decidable h],(if h then o.size-2-1 else o.size-2)+1<o.size:=λh W=>by split<;>lia
     exact this _
    ·rintro d w B ⟨rfl,rfl,ce⟩;rw[aP ∅];exact bx ⟨rfl,rfl,ce⟩
 case step=>
  rintro f h b V9 ⟨rfl,M,o,q,rfl,cr,cs,u,m,Wb⟩;dsimp only;by_cases am:M >= r
  ·rw[aJ am];have:M=r:=⋯
   subst this;exact bx ⟨rfl,rfl,o,q,u,m,Wb⟩
  rw[aP am];refine bB (UO A u ⋯ ⋯ m ?_);intro k an z y D H Wh ap I;have p:k<=r-M/\1<=k/\∃q,dA r q/\fk Wz it o z q/\e2 Q q 0 o.toList M/\iN Q q M k:=⟨D,y,an,H,Wh,Wb.congr λa W d=>nR<|ap a d,HA I⟩;dsimp only;clear I ap Wh H y D;revert k z;refine UH (λk z=>k<=r-M/\1<=k/\∃q,dA r q/\fk Wz it o z q/\e2 Q q 0 o.toList M/\iN Q q M k) ?_ ?_
  ·intro k w p;let@⟨D,y,⟨@W4,J,Ws,cf,L⟩⟩:=p;refine bB (kI ?_);rcases db:(iK w).back? with _|⟨ds,dL,eq⟩
   ·dsimp only;refine bB (lA ?_);refine bx ⟨rfl,M+k,o.push (M,k,0),W4,rfl,⋯,⋯,J,⟨Ws.k,Ws.a,by show (iK w).push _=_;rw[Ws.p],Ws.f⟩,?_⟩;rw[Dn];exact e2.app.mpr ⟨M,cf,rfl,⋯,L,rfl⟩
   ·dsimp only;refine bB (iY (a:=λh b V9=>j=V9/\h=(Y,())/\∃o q,dA r q/\fk Wz it o b q/\e2 Q q 0 o.toList M/\iN Q q M (k))
     (gV<|hL (λf h b V9=>j=V9/\h=(Y,())/\∃o q,dA r q/\fk Wz it o b q/\e2 Q q 0 o.toList M/\iN Q q M (k)) ?_ _ 0 _ _ _ (λ_ W W U=>U) ⟨rfl,rfl,o,W4,J,Ws,cf,L⟩) ?_)
    ·rintro C h b V9 ⟨rfl,rfl,o,q,u,m,Wb,P⟩;refine bB (kI ?_);by_cases e:(iK b).size>1
     ·rw[aJ e];rcases ev:(iK b)[(iK b).size-2]? with _|⟨g,d,ex⟩
      ·dsimp only;exact bx ⟨rfl,rfl,o,q,u,m,Wb,P⟩
      ·dsimp only;split
       ·exact bx ⟨rfl,rfl,o,q,u,m,Wb,P⟩
       ·refine bB (Fb A u m (by rw[m.p]at e ⊢;lia) Wb ⋯ ?_);intro O v cd g d h s al;rw[aP ∅];exact bx ⟨rfl,rfl,O,v,g,d,s,P.congr al⟩
     ·rw[aP e];dsimp only;exact bx ⟨rfl,rfl,o,q,u,m,Wb,P⟩
    ·rintro h b V9 ⟨rfl,rfl,o,q,u,m,Wb,P⟩;dsimp only;refine bB (lA ?_);refine bB (lA ?_);refine bx ⟨rfl,M+k,(o.modify (o.size-1) _).push (M,k,0),q,rfl,⋯,⋯,u,⟨m.k,m.a,by show ((iK b).modify ((iK b).size-1) _).push _=_;rw[m.p],m.f⟩,?_⟩;rw[Dn];exact e2.app.mpr ⟨M,Wb.same<|Mv _ _ _,rfl,⋯,P,rfl⟩
  ·intro F k z fd p;let@⟨D,y,⟨@an,H,Wh,ch,I⟩⟩:=p;refine bB (pj<|ki ?_);have R:k<=min (r-M) (minRun' r r 0):=⋯
   have as:min (r-M) (minRun' r r 0)<=r-M:=⋯
   generalize min (r-M) (minRun' r r 0)=ci at R as ⊢;refine bB (Q7 A H ⋯ y R I Wh ?_);intro W4 w J Ws cl L;rw[aP ∅];exact F ci w ⟨as,fu y R,W4,J,Ws,ch.congr λa W d=>nR<|cl a d,L⟩
def P2(c:gG r Q (f6 Wf l P Wz it) j)(E:2<=r)(up:r<1001\/∀i,1<=i->i<r->Q (i-1)<=Q i)(d:∀a b,dA r a->i0 Q a r->arrOf b=a.map (bt it)->i5 b=Y->G () b j):kasC (aV Wf l) P Wa sortRuns' G (wx Wz it (range r).toArray) j:=Sm c E d
end
end L2
namespace L2
open Spec PyProof.Rows
section
variable{b:aR}{R:List (aj×bk)}{D:a9}{m:aG}{j:au}{U:a_}
variable{Xh:List aj}{WJ:Nat}
def aK.Us{F:aj}{w:List ar}(H:aK b R D m j)(a:∀d∈Xh,kU b R m d)(n:∀d o,d∉Xh->j.heap.get? d=Z o->U.get? d=Z o)(i:j.heap.objs.size<=F)(new:fN b.prog b.w (upd m F<|.tup w) U F (.tup w)):aK b R D (upd m F<|.tup w) {j with heap:=U,toks:=WJ}:=by
 have f:m F=Y:=H.bg.fresh i;have t:∀d o,j.heap.get? d=Z o->d≠F:=λd o e=>dP (gm (cu e) i);have q:∀d J,m d=Z J->d∉Xh:=λd J e z=>by rw[(a d z).1]at e;cases e
 refine H.step (F:=j.gens) (S:=j.drawn) (Xh:=Xh) (λd c=>⟨(a d c).2.2.2.1,(a d c).2.1,(a d c).2.2.2.2.1,(a d c).2.2.2.2.2⟩) (λd o W W h e W=>n d o h e) (λd o W W h e W=>⟨o.slots,n d o h e⟩)
  (λd o W e r=>by rw[dI (t d o e)];exact r) (λd o h e=>⟨o,n d o h e⟩) (λd Wn e=>by rw[dI (ij e f)];exact e) (λd o J e=>by rw[dI (ij e f)];exact e)
  (λd Wk e=>⟨#[],by rw[dI (ij e f),e];simp⟩) (λk v=>?_) (λg o e=>?_) H.bare
 ·let⟨o,V_,@W2,x,u⟩:=v;exact⟨o,V_,W2,n _ o (λz=>(a _ z).2.1 rfl) x,u⟩
 ·by_cases s:g=F
  ·subst s;rw[fB]at e;cases e;exact new
  ·rw[dI s]at e;refine (H.bg g o e).kB (λd J c p=>n d J ?_ p) (λd p=>by rw[dI (ij p f)];exact p) λd Wn p=>by rw[dI (ij p f)];exact p
   rcases c with z|z
   ·rw[z];exact q g o e
   ·exact q d _ z
def aK.T8(H:aK b R D m j)(a:∀d∈Xh,kU b R m d)(n:∀d o,d∉Xh->j.heap.get? d=Z o->U.get? d=Z o):aK b R D m {j with heap:=U,toks:=WJ}:=by
 have h:∀d J,m d=Z J->d∉Xh:=λd J e z=>by rw[(a d z).1]at e;cases e
 refine H.step (F:=j.gens) (S:=j.drawn) (Xh:=Xh) (λd c=>⟨(a d c).2.2.2.1,(a d c).2.1,(a d c).2.2.2.2.1,(a d c).2.2.2.2.2⟩) (λd o W W f e W=>n d o f e) (λd o W W f e W=>⟨o.slots,n d o f e⟩)
  (λd o W W r=>r) (λd o f e=>⟨o,n d o f e⟩) (λd Wn e=>e) (λd o J e=>e) (λd Wk e=>⟨#[],by rw[e];simp⟩) (λk i=>?_) (λg o e=>?_) H.bare
 ·let⟨o,V_,@W2,l,u⟩:=i;exact⟨o,V_,W2,n _ o (λz=>(a _ z).2.1 rfl) l,u⟩
 ·refine (H.bg g o e).kB (λd J c p=>n d J ?_ p) (λd p=>p) λd Wn p=>p;rcases c with z|z
  ·rw[z];exact h g o e
  ·exact h d _ z
end
section
variable{Wf:bS}{l:bA}{P:bH}{Wa:ag->au->Prop}{j:au}
variable{a:Nat}{Wr:Array ag}{G:ag->au->Prop}
def AE{it B:aj}{f:ag}(d:j.heap.IsTupleIter it B a)(br:j.heap.IsTuple B Wr)(g:Wr[a]?=Z f)(p:∀U,U.IsTupleIter it B (a+1)->a_.SameBut it j.heap U->G f {j with heap:=U}):wpAny (aV Wf l) P (bl.SmallTypes.nextOf<|.ref it) G Wa j:=by
 let⟨@o,c,h,b⟩:=id d;let⟨@ol,g1,W,⟨@i,k⟩⟩:=br;unfold bl.SmallTypes.nextOf;refine aA (lG (name:=aI.ofString "__next__") d.typeIs vZ<|j4 vZ d.typeIs C8 ?e<|Jj _)
 case e=>
  show wpAny _ _ (nK (.ref it) 0 >>= _) _ _ j;refine aA (hB c b (x:=.ref B) rfl ?_);show wpAny _ _ (if (ag.ref B==ag.none)=aa then _ else _) _ _ j;rw[aP (show ¬ (ag.ref B==ag.none)=aa by intro e;cases e)];show wpAny _ _ (nK (.ref it) 1 >>= _) _ _ j;refine aA (hB c b (x:=.int a 0) rfl ?_);show wpAny _ _ (qq (.ref B) >>= _) _ _ j;refine aA (i2 g1 k ?_);simp only[p0,g];refine aA (w_ c b ↥0 (aU ⟨f,rfl,aU (p _ ⟨_,pJ _ c<|BW<|xm b _,(En ..).trans h,by rw[xm b];simp[lV]⟩<|pH ..)⟩))
def Jg{it B:aj}(m:P.handled=Y)(b:j.heap.IsTupleIter it B a)(br:j.heap.IsTuple B Wr)(n:Wr[a]?=Y)(p:∀U e,a_.ExtBut it j.heap U->(∃o,U.get? e=Z o/\o.cls=.type "StopIteration")->Wa (.ref e) {j with heap:=U}):wpAny (aV Wf l) P (bl.SmallTypes.nextOf<|.ref it) G Wa j:=by
 let⟨@o,c,r,d⟩:=id b;let⟨@ol,g1,W,⟨@i,q⟩⟩:=br;unfold bl.SmallTypes.nextOf;refine aA (lG (name:=aI.ofString "__next__") b.typeIs vZ<|j4 vZ b.typeIs C8 ?h<|Jj _)
 case h=>
  show wpAny _ _ (nK (.ref it) 0 >>= _) _ _ j;refine aA (hB c d (x:=.ref B) rfl ?_);show wpAny _ _ (if (ag.ref B==ag.none)=aa then _ else _) _ _ j;rw[aP (show ¬ (ag.ref B==ag.none)=aa by intro h;cases h)];show wpAny _ _ (nK (.ref it) 1 >>= _) _ _ j;refine aA (hB c d (x:=.int a 0) rfl ?_);show wpAny _ _ (qq (.ref B) >>= _) _ _ j;refine aA (i2 g1 q ?_);simp only[p0,n];refine aA (ki (aA (w_ c d ↥0 ?_)));show wpAny _ _ (wH (.type "StopIteration") [] >>= _) _ _ _;apply aA;simp only[wH,yy];refine aA (hD (aA (m:=wF _ _) (ta (a:=ag.none) (by first|rfl|(simp only[wF];rfl)) (hD ?_ (by size_fits)))) (by size_fits));simp only[raiseNew];apply aA;apply GR;rw[show P.in1.handled=Y from m];refine aA (m:=pure _) (aU<|wpAny_throw ?_);exact p _ _ (((pH ..).extBut.push _).push _) ⟨_,d4 _ rfl,rfl⟩
end
section
variable{Wf:bS}{l:bA}{P:bH}{Wa:ag->au->Prop}{j:au}
variable{c U:a_}{g:aj}
def jX{B:aj}{a:Nat}(f:c.IsTupleIter g B a)(n:∀o,c.get? g=Z o->U.get? g=Z o):U.IsTupleIter g B a:=let ⟨o,e,u⟩:=f;⟨o,n o e,u⟩
variable{w:Array ag}
def pq(f:c.IsTuple g w)(n:∀o,c.get? g=Z o->U.get? g=Z o):U.IsTuple g w:=let ⟨o,e,u⟩:=f;⟨o,n o e,u⟩
variable{g d:ag}{WD WR:Nat}{Wn:Array ag}
def LG{a dM dn c i a8 bz:aj}{f C:ag}{G:ag->au->Prop}(y:uv a dM dn c i a8 bz)(q:kA j.heap a dM dn .none)(T:jl j.heap dM (.ref c) (.ref i))(al:jl j.heap dn g d)(A:j.heap.IsTupleIter c a8 WD)(E:j.heap.IsTupleIter i bz WR)(am:j.heap.IsTuple a8 w)(an:j.heap.IsTuple bz Wn)(ap:w[WD]?=Z f)(as:Wn[WR]?=Z C)(a1:∀U,kA U a dM dn (lV j.heap.objs.size)->jl U dn f C->U.IsTupleIter c a8 (WD+1)->U.IsTupleIter i bz (WR+1)->jl U j.heap.objs.size f C->
   (∀h o,h≠a->h≠dn->h≠c->h≠i->j.heap.get? h=Z o->U.get? h=Z o)->G (.ref j.heap.objs.size) {j with heap:=U}):
  wpAny (aV Wf l) P (bl.«zip.__next__» ⟨[.ref a],[]⟩) (λfin V9=>∃v,fin=.done (.ret v)/\G v V9) Wa j:=by
 show wpAny _ _ (nK (.ref a) 2 >>= _) _ _ _;refine aA (hB q rfl (x:=.bool aw) rfl ?_);show wpAny _ _ (nK (.ref a) 3 >>= _) _ _ _;refine aA (hB q rfl (x:=.ref dM) rfl<|aA<|i2 T rfl ?_);show wpAny _ _ (bl.SmallTypes.ownedTupleIsFree (.ref a) >>= _) _ _ _;apply aA;unfold bl.SmallTypes.ownedTupleIsFree;refine aA (hB q rfl (x:=.none) rfl<|aU ?_);simp only[iu];refine aA (ki (aA (hB q rfl (x:=.ref dn) rfl (aA (pO q ↥0 λJ z k=>?_)))));replace z:kA J a dM dn .ellipsis:=z;apply aA;simp only[zT,Dc,vN,IK];refine aA (aA<|uS ?_);show wpAny _ _ (bl.SmallTypes.nextOf (.ref c) >>= _) _ _ _;refine aA (AE (j:={j with heap:=J}) (jX A λo e=>k.extBut _ o y.i1z e) (pq am λo e=>k.extBut _ o y.l1z e) ap λB a2 n=>aU ?_);have WW:jl B dn g d:=n.extBut _ _ y.TOi1 (k.extBut _ _ y.TOz al);refine aA (i2 (s:={j with heap:=B}) WW rfl<|aA<|AM (s:={j with heap:=B}) WW λL WQ p=>?_);replace WQ:jl L dn f d:=WQ;refine aA (n3<|aU<|aA<|aA<|uS ?_);show wpAny _ _ (bl.SmallTypes.nextOf (.ref i) >>= _) _ _ _;refine aA (AE (j:={j with heap:=L}) (jX E λo e=>p.extBut _ o y.TOi2.symm<|n.extBut _ o y.i12.symm<|k.extBut _ o y.i2z e) (pq an λo e=>p.extBut _ o y.l2TO<|n.extBut _ o y.l2i1<|k.extBut _ o y.l2z e) as λD bd r=>aU ?_);have WI:jl D dn f d:=r.extBut _ _ y.TOi2 WQ;refine aA (i2 (s:={j with heap:=D}) WI rfl<|aA<|AM (s:={j with heap:=D}) WI λb WU s=>?_);replace WU:jl b dn f C:=WU;refine aA (n3<|aU<|aU<|aA<|i2 (s:={j with heap:=b}) WU rfl<|aA<|Hi ?_);have M:b.objs.size=j.heap.objs.size:=by rw[s.1,r.1,p.1,n.1,k.1]
 have N:kA b a dM dn .ellipsis:=s.extBut _ _ y.TOz.symm (r.extBut _ _ y.i2z.symm<|p.extBut _ _ y.TOz.symm<|n.extBut _ _ y.i1z.symm z);have be:∀h o,h≠a->h≠dn->h≠c->h≠i->j.heap.get? h=Z o->b.get? h=Z o:=λh o m t F H e=>s.extBut _ _ t (r.extBut _ _ H<|p.extBut _ _ t<|n.extBut _ _ F<|k.extBut _ _ m e);have dY:b.IsTupleIter c a8 (WD+1):=jX a2 λo e=>s.extBut _ o y.TOi1.symm (r.extBut _ o y.i12<|p.extBut _ o y.TOi1.symm e);have dH:b.IsTupleIter i bz (WR+1):=jX bd λo e=>s.extBut _ o y.TOi2.symm e;have O:a<b.objs.size:=cu N;show wpAny _ _ (bl.SmallTypes.ownedTupleHandOut (.ref a) (.ref b.objs.size) >>= _) _ _ _;apply aA;unfold bl.SmallTypes.ownedTupleHandOut;have bi:kA (b.push {cls:=.type "tuple",data:=.seq #[f,C]}) a dM dn .ellipsis:=cv _ N;refine aA (pO bi ↥0 λbm I Q=>?_);replace I:kA bm a dM dn (lV b.objs.size):=I;refine pO I ↥0 λu x R=>?_;replace x:kA u a dM dn (lV b.objs.size):=x;have up:∀h o,h≠a->b.get? h=Z o->u.get? h=Z o:=λh o m e=>R.extBut _ _ m (Q.extBut _ _ m<|cv _ e);have S:jl u b.objs.size f C:=R.extBut _ _ (oL O) (Q.extBut _ _ (oL O)<|d4 _ rfl);rw[M]at x S;refine aU ⟨_,rfl,?_⟩;show G (.ref b.objs.size) _;rw[M];exact a1 u x (up _ _ y.TOz WU) (jX dY λo e=>up _ o y.i1z e) (jX dH λo e=>up _ o y.i2z e) S λh o m t F H e=>up h o m (be h o m t F H e)
def L7{a dM dn n q a8 bz:aj}{G:PySem.Fin->au->Prop}(I:P.handled=Y)(y:uv a dM dn n q a8 bz)(r:kA j.heap a dM dn .none)(R:jl j.heap dM (.ref n) (.ref q))(S:jl j.heap dn g d)(A:j.heap.IsTupleIter n a8 WD)(E:j.heap.IsTupleIter q bz WR)(J:j.heap.IsTuple a8 w)(T:j.heap.IsTuple bz Wn)(al:w[WD]?=Y\/Wn[WR]?=Y)(L:∀U e,(∀h o,h≠a->h≠dn->h≠n->h≠q->j.heap.get? h=Z o->U.get? h=Z o)->(∃o,U.get? e=Z o/\o.cls=.type "StopIteration")->Wa (.ref e) {j with heap:=U}):
  wpAny (aV Wf l) P (bl.«zip.__next__» ⟨[.ref a],[]⟩) G Wa j:=by
 show wpAny _ _ (nK (.ref a) 2 >>= _) _ _ _;refine aA (hB r rfl (x:=.bool aw) rfl ?_);show wpAny _ _ (nK (.ref a) 3 >>= _) _ _ _;refine aA (hB r rfl (x:=.ref dM) rfl<|aA<|i2 R rfl ?_);show wpAny _ _ (bl.SmallTypes.ownedTupleIsFree (.ref a) >>= _) _ _ _;apply aA;unfold bl.SmallTypes.ownedTupleIsFree;refine aA (hB r rfl (x:=.none) rfl<|aU ?_);simp only[iu];refine aA (ki (aA (hB r rfl (x:=.ref dn) rfl (aA (pO r ↥0 λx v b=>?_)))));replace v:kA x a dM dn .ellipsis:=v;apply aA;simp only[zT,Dc,vN,IK];refine aA (aA<|uS ?_);show wpAny _ _ (bl.SmallTypes.nextOf (.ref n) >>= _) _ _ _;cases z:w[WD]? with
 |none=>
  refine aA (Jg (j:={j with heap:=x}) I (jX A λo e=>b.extBut _ o y.i1z e) (pq J λo e=>b.extBut _ o y.l1z e) z λs e i B=>?_);let⟨@C,k,t⟩:=B;have M:kA s a dM dn .ellipsis:=i _ _ y.i1z.symm v;have D:e≠a:=λp=>by subst p;rw[M]at k;cases k;simp at t
  refine pO M ↥0 λF W m=>L F e (λh o u W H W p=>m.extBut _ _ u<|i _ _ H<|b.extBut _ _ u p) ⟨C,m.extBut _ _ D k,t⟩
 |some f=>
  have am:Wn[WR]?=Y:=by
   rcases al with c|c
   ·rw[z]at c;cases c
   ·exact c
  refine aA (AE (j:={j with heap:=x}) (jX A λo e=>b.extBut _ o y.i1z e) (pq J λo e=>b.extBut _ o y.l1z e) z λs a2 i=>aU ?_);have WW:jl s dn g d:=i.extBut _ _ y.TOi1 (b.extBut _ _ y.TOz S);refine aA (i2 (s:={j with heap:=s}) WW rfl<|aA<|AM (s:={j with heap:=s}) WW λF WQ m=>?_);refine aA (n3<|aU<|aA<|aA<|uS ?_);show wpAny _ _ (bl.SmallTypes.nextOf (.ref q) >>= _) _ _ _;refine aA (Jg (j:={j with heap:=F}) I (jX E λo e=>m.extBut _ o y.TOi2.symm<|i.extBut _ o y.i12.symm<|b.extBut _ o y.i2z e) (pq T λo e=>m.extBut _ o y.l2TO<|i.extBut _ o y.l2i1<|b.extBut _ o y.l2z e) am λan e N B=>?_);let⟨@C,k,t⟩:=B;have O:kA an a dM dn .ellipsis:=N _ _ y.i2z.symm (m.extBut _ _ y.TOz.symm<|i.extBut _ _ y.i1z.symm v);have D:e≠a:=λp=>by subst p;rw[O]at k;cases k;simp at t
  refine pO O ↥0 λap W Q=>L ap e (λh o u as H a1 p=>Q.extBut _ _ u<|N _ _ a1<|m.extBut _ _ as<|i.extBut _ _ H<|b.extBut _ _ u p) ⟨C,Q.extBut _ _ D k,t⟩
end
variable{j:au}{W3:cf}{WH W8 WK:List Nat}{own Wk:List aI}{Xb WL h e d g:bF}{Xl:List cp}{Wa:oV}{O:cp}{Xn D:a9}{fd:hA}{f:aI}{r Xr:Nat}{V7 w:List ar}{I:List ae}{aT WA P Wb WE Wx WS z N:List aj}{G:c5}{u V_:List bF}{WJ:e1}{b:aR}{Ws Wh V6 m:aG}{v:ar}{q Wq:Pos}{V8:Φ}
def k5(c:a_)(a8 bz:aj):a_:=(((((c.push {cls:=.type "tuple_iterator",data:=.fields #[.ref a8,.int 0 0]}).push {cls:=.type "tuple_iterator",data:=.fields #[.ref bz,.int 0 0]}).push
 {cls:=.type "tuple",data:=.seq #[.ref c.objs.size,.ref (c.push {cls:=.type "tuple_iterator",data:=.fields #[.ref a8,.int 0 0]}).objs.size]}).push {cls:=.type "tuple",data:=.seq #[.none,.none]}))
def RJ(a8 bz:aj)(w Wn:Array ag):
    Meets (bl.«zip.__new__» ⟨[.type "zip", .ref a8,.ref bz],[]⟩) (λ_ Wb j => j.heap.IsTuple a8 w /\ j.heap.IsTuple bz Wn /\
      Wb (.ok<|.ret<|.ref (k5 j.heap a8 bz).objs.size) {j with heap:=(k5 j.heap a8 bz).push {cls:=.type "zip", data:=.fields #[.none,.bool aw,.bool aw,.ref ((j.heap.push {cls:=.type "tuple_iterator", data:=.fields #[.ref a8,.int 0 0]}).push {cls:=.type "tuple_iterator", data:=.fields #[.ref bz,.int 0 0]}).objs.size,
        .ref (((j.heap.push {cls:=.type "tuple_iterator", data:=.fields #[.ref a8,.int 0 0]}).push {cls:=.type "tuple_iterator", data:=.fields #[.ref bz,.int 0 0]}).push
  {cls:=.type "tuple", data:=.seq #[.ref j.heap.objs.size,.ref (j.heap.push {cls:=.type "tuple_iterator", data:=.fields #[.ref a8,.int 0 0]}).objs.size]}).objs.size]} }) :=
  .of_wp λWf l P Wb j c => by
    let⟨a,L,s,WN,Q⟩:=j;let@⟨b,d,c⟩:=c;have h:=sub_zip;have f:a_.IsTuple (au.heap ⟨a,L,s,WN,Q⟩) a8 w:=b;have g:a_.IsTuple (au.heap ⟨a.push {cls:=.type "tuple_iterator", data:=.fields #[.ref a8,.int 0 0]}, L,s,WN,Q⟩) bz Wn:=pq d λo e => cv _ e
    wp_walk using wpAny_pyIter_tuple f,wpAny_pyIter_tuple g
    exact ⟨_,rfl,c⟩
def uG(V8:Φ)(g d:aj):gc:=(
 ⟨λa m=>∃w Wn f C,cD V8 m g w/\cD V8 m d Wn/\w[a]?=Z f/\Wn[a]?=Z C,
  λa m v V6=>∃F f C,m F=Y/\v=.ref F/\V6=upd m F (.tup [f,C])/\(∀w,cD V8 m g w->w[a]?=Z f)/\(∀Wn,cD V8 m d Wn->Wn[a]?=Z C),
  λa m=>∃w Wn,cD V8 m g w/\cD V8 m d Wn/\(w.length<=a\/Wn.length<=a)⟩)
def Dp(g d f dM dn b e:aj)(a:Nat)(c:a_):Prop:=(kA c f dM dn .none/\jl c dM (.ref b) (.ref e)/\(∃q p,jl c dn q p)/\c.IsTupleIter b g a/\c.IsTupleIter e d a)
theorem MW{T:bS}{l:bA}(g d k dM dn s t:aj)(y:uv k dM dn s t g d):
  tM T l V8 (.Tuple V_ Xr Wq) (uG V8 g d) [k,dM,dn,s,t] k (Dp g d k dM dn s t) where
 mem:=by simp
 obj:=λa c O h i=>by
  let@⟨A,E,⟨q,@p,r⟩,⟨@WI,al,_,bv⟩,⟨@WU,am,_,ca⟩⟩:=O;simp only[cg,pa,h6]at i;rcases i with rfl|rfl|rfl|rfl|rfl
  ·exact⟨_,A,λv e=>by cases e⟩
  ·exact⟨_,E,λv e=>by cases e⟩
  ·exact⟨_,r,λv e=>by cases e⟩
  ·exact⟨_,al,λv e=>by rw[bv]at e;cases e⟩
  ·exact⟨_,am,λv e=>by rw[ca]at e;cases e⟩
 keep:=λa c U O n=>by
  let@⟨A,E,⟨q,@p,r⟩,x,z⟩:=O;exact⟨n k ↥0 _ A,n dM ↥0 _ E,⟨q,p,n dn ↥0 _ r⟩,jX x λo e=>n s ↥0 o e,jX z λo e=>n t ↥0 o e⟩
 item:=by
  intro b an ap as i a R j D m Wa H L O a1;subst an ap as;let⟨w,Wn,f,@C,M,N,bi,bm⟩:=a1;let⟨@Wl,a2,q,B⟩:=H.tuple M;let⟨@bd,be,W4,cd⟩:=H.tuple N;let⟨@J,ce,ch⟩:=a2.get bi;let⟨@bn,ci,cl⟩:=be.get bm;have co:=O;let@⟨A,E,⟨b7,@kO,r⟩,x,z⟩:=O;have I:j.TypeIs (.ref k) "zip" := ⟨_,A,rfl⟩;unfold h1;refine aA (sf (lG (name:=aI.ofString "__next__") I wg (j4 wg I JE
   (LG (G:=λv V9=>wpAny (aV b.prog b.w) b.A (pure<|Z v) (λu cr=>∃J,u=Z J/\wpAny (aV b.prog b.w) b.A (sW (.Tuple V_ Xr Wq) (.ref k) J) (λ_ bs=>∃f V6,aK b R D V6 bs/\cG f J/\(uG b.K g d).tJ a m f V6/\Dp g d k dM dn s t (a+1) bs.heap/\∀d∈[k,dM,dn,s,t],V6 d=Y) Wa cr) Wa V9)
    y A E r x z (show j.heap.IsTuple g Wl.toArray from q) (show j.heap.IsTuple d bd.toArray from W4) (f:=J) (C:=bn) ⇑ce ⇑ci λU cs db ds dL eq S=>aU ⟨_,rfl,?_⟩) (CL _))));refine wpAny_letOwnedTupleGo_zip cs λev ex c0=>?_;have lt:∀h∈[k,dM,dn,s,t],h<j.heap.objs.size:=λh i=>by
   let@⟨A,E,⟨q,@p,r⟩,⟨@WI,al,_⟩,⟨@WU,am,_⟩⟩:=co;simp only[cg,pa,h6]at i;rcases i with rfl|rfl|rfl|rfl|rfl
   ·exact cu A
   ·exact cu E
   ·exact cu r
   ·exact cu al
   ·exact cu am
  have dj:∀h o,h∉[k,dM,dn,s,t]->j.heap.get? h=Z o->ev.get? h=Z o:=λh o i e=>by
   simp only[cg,pa,h6,not_or]at i;exact c0.extBut _ _ i.1 (S h o i.1 i.2.2.1 i.2.2.2.1 i.2.2.2.2 e)
  have fd:j.heap.objs.size≠k:=oL (lt k ↥0);have fn:m j.heap.objs.size=Y:=H.bg.fresh (bb _);refine⟨.ref j.heap.objs.size,upd m j.heap.objs.size<|.tup [f,C],H.Us (WJ:=j.toks) L dj (bb _) ⟨by show 2<=sizeLine;decide,[J,bn],.cons ch<|.cons cl .nil,?_⟩,rfl,⟨_,f,C,fn,rfl,rfl,λQ B=>?_,λQ B=>?_⟩,?_,λh i=>?_⟩
  ·exact⟨_,c0.extBut _ _ fd eq,rfl,0,rfl⟩
  ·rw[H.xQ B M];exact bi
  ·rw[H.xQ B N];exact bm
  ·exact⟨ex,c0.extBut _ _ y.TIz<|S _ _ y.TIz y.TITO y.TIi1 y.TIi2 E,⟨_,_,c0.extBut _ _ y.TOz db⟩,jX ds λo e=>c0.extBut _ o y.i1z e,jX dL λo e=>c0.extBut _ o y.i2z e⟩
  ·rw[dI (dP<|lt h i)];exact (L h i).1
 done:=by
  intro b an ap as i a R j D m Wa H L O a1;subst an ap as;let⟨w,@Wn,M,N,fr⟩:=a1;let⟨@Wl,a2,q,B⟩:=H.tuple M;let⟨@bd,be,W4,cd⟩:=H.tuple N;let@⟨A,E,⟨b7,@kO,r⟩,x,z⟩:=O;have I:j.TypeIs (.ref k) "zip" := ⟨_,A,rfl⟩;have a8:=a2.length;have bz:=be.length;unfold h1;refine aA (sf (lG (name:=aI.ofString "__next__") I wg (j4 wg I JE
   (L7 (H.ok.hd i) y A E r x z (show j.heap.IsTuple g Wl.toArray from q) (show j.heap.IsTuple d bd.toArray from W4) (by
    rcases fr with c|c
    ·exact .inl (by simp;lia)
    ·exact .inr (by simp;lia)) λU e S ⟨o,f0,f1⟩=>?_) (CL _))))
  refine aA (vh (T := "StopIteration") (b:=aa) ⟨o,f0,f1⟩ Jm<|aU ⟨rfl,H.T8 (WJ:=j.toks) L λh o i e=>?_⟩);simp only[cg,pa,h6,not_or]at i;exact S h o i.1 i.2.2.1 i.2.2.2.1 i.2.2.2.2 e
 self:=λ_ W W W W O c=>Cq O.1 c
section
variable{b:aR}
def OU(V8:Φ)(W0:fQ):dM:=(λD m Wb=>W0 D m λV7 Wh=>∃g d,V7=[.ref g,.ref d]/\(∃w,cD V8 Wh g w)/\(∃Wn,cD V8 Wh d Wn)/\Wb (uG V8 g d) Wh)
def KQ{W0:fQ}{Wk:Pos}(C:e6 b "zip")(E:b.aE "zip" = Y)(G:iy b [g,d] W0)(Wd:b5 [g,d] b.env=[(aw,cE g b.env),(aw,cE d b.env)]:=by rfl)(r:b5 [d] b.env=[(aw,cE d b.env)]:=by rfl):
  lX b (.Tuple V_ Xr Wk) (.Call (.Name "zip" q) [g,d] [] Wq) (OU b.K W0):=by
 intro R j D m Wb H c;refine Call_ (mx H C E boot_zip (p2 (b6 (G Wq R j D m _ H c) λWy a ⟨V7,Wh,f,I,J⟩=>?_) (by rw[Wd,r]) (by rw[r];rfl)));let⟨a8,@bz,e,⟨@w,L⟩,⟨@Wn,M⟩,p⟩:=J;subst e;cases I with
 |cons u l=>
  cases l with
  |cons W3 l=>
   cases l;cases u;cases W3;let⟨@Wl,T,q,U⟩:=f.tuple L;let⟨@O,al,W4,am⟩:=f.tuple M;have P:a8<a.heap.objs.size:=by let⟨@o,e,V⟩:=q;exact cu e
   have Q:bz<a.heap.objs.size:=by let⟨@o,e,V⟩:=W4;exact cu e
   refine callType_new F.called_zip ∅ (F.typeCall_zip_2 _ _) (F.newCall_zip_2 _ _) (λS=>F.args_object_init_3 S _ _) F.entry_zip_new (RJ a8 bz Wl.toArray O.toArray) ⟨q,W4,?_⟩;have n:(a.heap.push {cls:=.type "tuple_iterator",data:=.fields #[.ref a8,.int 0 0]}).objs.size=a.heap.objs.size+1:=oy ..;have i:((a.heap.push {cls:=.type "tuple_iterator",data:=.fields #[.ref a8,.int 0 0]}).push {cls:=.type "tuple_iterator",data:=.fields #[.ref bz,.int 0 0]}).objs.size=a.heap.objs.size+2:=by rw[oy,n]
   have k:(((a.heap.push {cls:=.type "tuple_iterator",data:=.fields #[.ref a8,.int 0 0]}).push {cls:=.type "tuple_iterator",data:=.fields #[.ref bz,.int 0 0]}).push
    {cls:=.type "tuple",data:=.seq #[.ref a.heap.objs.size,.ref (a.heap.push {cls:=.type "tuple_iterator",data:=.fields #[.ref a8,.int 0 0]}).objs.size]}).objs.size=a.heap.objs.size+3:=by rw[oy,i]
   have s:(k5 a.heap a8 bz).objs.size=a.heap.objs.size+4:=by unfold k5;rw[oy,k]
   show _/\_;refine⟨⟨_,d4 _ rfl,rfl⟩,Cq (TI:=a.heap.objs.size+2) (TO:=a.heap.objs.size+3) (f0:=.none) ?_ ?_⟩
   ·rw[i,k];exact d4 _ rfl
   ·rw[i,k,s];have t:((k5 a.heap a8 bz).push {cls:=.type "zip",data:=.fields #[.none,.bool aw,.bool aw,.ref<|a.heap.objs.size+2,.ref<|a.heap.objs.size+3]}).get? (a.heap.objs.size+4)=Z {cls:=.type "zip",data:=.fields #[.none,.bool aw,.bool aw,.ref<|a.heap.objs.size+2,.ref<|a.heap.objs.size+3]}:=by rw[<-s];exact d4 _ rfl
    have v:((k5 a.heap a8 bz).push {cls:=.type "zip",data:=.fields #[.none,.bool aw,.bool aw,.ref<|a.heap.objs.size+2,.ref<|a.heap.objs.size+3]}).get? (a.heap.objs.size+3)=Z {cls:=.type "tuple",data:=.seq #[.none,.none]}:=by
     rw[<-k];exact cv _ (d4 _ rfl)
    have x:((k5 a.heap a8 bz).push {cls:=.type "zip",data:=.fields #[.none,.bool aw,.bool aw,.ref<|a.heap.objs.size+2,.ref<|a.heap.objs.size+3]}).get? (a.heap.objs.size+2)=Z {cls:=.type "tuple",data:=.seq #[.ref a.heap.objs.size,.ref<|a.heap.objs.size+1]}:=by
     rw[<-i,<-n];exact cv _ (cv _<|d4 _ rfl)
    have z:((k5 a.heap a8 bz).push {cls:=.type "zip",data:=.fields #[.none,.bool aw,.bool aw,.ref<|a.heap.objs.size+2,.ref<|a.heap.objs.size+3]}).get? (a.heap.objs.size+1)=Z {cls:=.type "tuple_iterator",data:=.fields #[.ref bz,.int 0 0]}:=by
     rw[<-n];exact cv _ (cv _<|cv _<|d4 _ rfl)
    have A:((k5 a.heap a8 bz).push {cls:=.type "zip",data:=.fields #[.none,.bool aw,.bool aw,.ref<|a.heap.objs.size+2,.ref<|a.heap.objs.size+3]}).get? a.heap.objs.size=Z {cls:=.type "tuple_iterator",data:=.fields #[.ref a8,.int 0 0]}:=
     cv _ (cv _<|cv _<|cv _<|d4 _ rfl);have dj:∀h o,a.heap.get? h=Z o->((k5 a.heap a8 bz).push {cls:=.type "zip",data:=.fields #[.none,.bool aw,.bool aw,.ref<|a.heap.objs.size+2,.ref<|a.heap.objs.size+3]}).get? h=Z o:=λh o e=>
     cv _ (cv _<|cv _<|cv _<|cv _ e);generalize ((k5 a.heap a8 bz).push {cls:=.type "zip",data:=.fields #[.none,.bool aw,.bool aw,.ref<|a.heap.objs.size+2,.ref<|a.heap.objs.size+3]})=ap at A z x v t dj ⊢;have y:uv (a.heap.objs.size+4) (a.heap.objs.size+2) (a.heap.objs.size+3) a.heap.objs.size (a.heap.objs.size+1) a8 bz:=PySem.W.ktu_apart _ _ _ P Q;refine⟨_,_,_,_,Wh,rfl,f.kept (WJ:=a.toks) dj,MW a8 bz _ _ _ _ _ y,⟨t,x,⟨_,_,v⟩,⟨_,A,rfl,rfl⟩,⟨_,z,rfl,rfl⟩⟩,λh B=>?_,p⟩;have:a.heap.objs.size<=h:=by
     simp only[cg,pa,h6]at B;rcases B with rfl|rfl|rfl|rfl|rfl
     ·exact nM _ _
     ·exact nM _ _
     ·exact nM _ _
     ·exact bb _
     ·exact nM _ _
    exact f.we this (f.bg.fresh this)
end
def FV(V8:Φ)(m:aG)(f:ar)(F:String)(d:Bool):Prop:=(
 (∃a,f=.int a/\((F = "int" /\ d=aa)\/(F = "tuple" /\ d=aw)\/(F = "str" /\ d=aw)\/(F = "bool" /\ d=aw)\/(F = "list" /\ d=aw)))\/
 (∃a,f=.ay a/\((F = "bool" /\ d=aa)\/(F = "int" /\ d=aa)\/(F = "tuple" /\ d=aw)\/(F = "str" /\ d=aw)\/(F = "list" /\ d=aw)))\/
 (∃a,f=.str a/\((F = "str" /\ d=aa)\/(F = "int" /\ d=aw)\/(F = "tuple" /\ d=aw)\/(F = "bool" /\ d=aw)\/(F = "list" /\ d=aw)))\/
 (∃g w,f=.ref g/\cD V8 m g w/\((F = "tuple" /\ d=aa)\/(F = "int" /\ d=aw)\/(F = "str" /\ d=aw)\/(F = "bool" /\ d=aw)\/(F = "list" /\ d=aw)))\/
 (∃g w,f=.ref g/\dC V8 m g w/\((F = "list" /\ d=aa)\/(F = "int" /\ d=aw)\/(F = "str" /\ d=aw)\/(F = "bool" /\ d=aw)\/(F = "tuple" /\ d=aw))))
section
variable{b:aR}
def Vt:fl b (.builtin "isinstance") (λw m G=>∃f F d,w=[f,.ty F]/\FV b.K m f F d/\G (.ay d) m):=by
 intro R j D m w Wy G H u c;let⟨f,F,@d,rfl,S,p⟩:=c;cases u with
 |cons u l=>
  cases l with
  |cons W3 l=>
   cases l;cases W3;have k:∀{d:Bool},G (.ay d) m->e4 b R D G (.bool d) j:=λ{d} p=>⟨.ay d,m,H,rfl,p⟩;have e:∀{d:Bool},G (.ay d) m->e4 b R D G (.bool d) {j with toks:=j.toks+1}:=λ{d} p=>⟨.ay d,m,H.tok _,rfl,p⟩;rcases S with ⟨a,rfl,S⟩|⟨a,rfl,S⟩|⟨a,rfl,S⟩|⟨g,w,rfl,Wd,S⟩|⟨g,w,rfl,Wd,S⟩
   ·let⟨@B,rfl⟩:=u;rcases S with ⟨rfl,rfl⟩|⟨rfl,rfl⟩|⟨rfl,rfl⟩|⟨rfl,rfl⟩|⟨rfl,rfl⟩
    ·exact IsiPair.int_int (k p)
    ·exact IsiPair.int_tuple (e p)
    ·exact IsiPair.int_str (e p)
    ·exact IsiPair.int_bool (e p)
    ·exact IsiPair.int_list (e p)
   ·cases u;rcases S with ⟨rfl,rfl⟩|⟨rfl,rfl⟩|⟨rfl,rfl⟩|⟨rfl,rfl⟩|⟨rfl,rfl⟩
    ·exact IsiPair.bool_bool (k p)
    ·exact IsiPair.bool_int (k p)
    ·exact IsiPair.bool_tuple (e p)
    ·exact IsiPair.bool_str (e p)
    ·exact IsiPair.bool_list (e p)
   ·let⟨@B,rfl⟩:=u;rcases S with ⟨rfl,rfl⟩|⟨rfl,rfl⟩|⟨rfl,rfl⟩|⟨rfl,rfl⟩|⟨rfl,rfl⟩
    ·exact IsiPair.str_str (k p)
    ·exact IsiPair.str_int (e p)
    ·exact IsiPair.str_tuple (e p)
    ·exact IsiPair.str_bool (e p)
    ·exact IsiPair.str_list (e p)
   ·cases u;let⟨@Wl,n,⟨@o,h,i,W⟩,r⟩:=H.tuple Wd;rcases S with ⟨rfl,rfl⟩|⟨rfl,rfl⟩|⟨rfl,rfl⟩|⟨rfl,rfl⟩|⟨rfl,rfl⟩
    ·exact IsiPair.tuple_tuple h i (k p)
    ·exact IsiPair.tuple_int h i (e p)
    ·exact IsiPair.tuple_str h i (e p)
    ·exact IsiPair.tuple_bool h i (e p)
    ·exact IsiPair.tuple_list h i (e p)
   ·cases u;let⟨@Wl,n,q,r⟩:=H.list Wd;let⟨@o,h,i,W⟩:=q.isList;rcases S with ⟨rfl,rfl⟩|⟨rfl,rfl⟩|⟨rfl,rfl⟩|⟨rfl,rfl⟩|⟨rfl,rfl⟩
    ·exact IsiPair.list_list h i (k p)
    ·exact IsiPair.list_int h i (e p)
    ·exact IsiPair.list_str h i (e p)
    ·exact IsiPair.list_bool h i (e p)
    ·exact IsiPair.list_tuple h i (e p)
def QH:∀{bs:List Bool}{Wy:List ag},b1 (bs.map ar.ay) Wy->∀(a:Nat) (v:ag),Wy[a]?=Z v->∃d,bs[a]?=Z d/\v=ag.bool d:=by
 intro bs Wy u a v c;have b:=u.length;rw[aZ]at b;have S:a<bs.length:=by rw[b];exact (gk.mp c).1
 let⟨@J,e,g⟩:=u.get (a:=a) (f:=ar.ay bs[a]) (by simp[S]);rw[c]at e;cases e;exact⟨bs[a],by simp[S],g⟩
def M3(i:b.calm=aa):fl b (.builtin "all") (λw m G=>∃t bs,w=[.ref t]/\m t=Z (.lst<|List.map ar.ay bs)/\G (.ay<|bs.all id) m):=by
 intro R j D m w Wy G H u c;let⟨t,@bs,rfl,k,p⟩:=c;let⟨@J,rfl,l⟩:=iS u;cases l;let@⟨z,⟨Wl,@r,f,e⟩⟩:=H.bg t _ k;have g:j.heap.IsList t Wl.toArray:=⟨_,e,rfl,r,rfl⟩;refine call_all_walk (tr g ⟨j.heap.objs.size,[j.heap.objs.size,t],[j.heap.objs.size],Wl.toArray.size,_,_,λa=>(bs[a]?).getD aa,rfl,mf.list (A:=b.A.in1) (H.ok.hd i) _ t (dP<|cu e) Wl.toArray,
  ⟨⟨_,d4 _ rfl,rfl,rfl⟩,g.push _⟩,λa v V9 x y n h=>?_,λU WN o=>?_⟩)
 ·let⟨@d,q,rfl⟩:=QH f a v ⇑n;simp only[q,zr]at h;exact m6 h
 ·have s:Wl.toArray.size=bs.length:=by
   have:=f.length;rw[aZ]at this;rw[cV,this]
  rw[s,LSm.range_all];exact⟨.ay _,m,H.kept<|LSm.kept_iter o,rfl,p⟩
def MP:eo b (g7 .Mult) (qr IntMulOk λa i=>.int<|a*i):=uf λ_ W W W W W W c p=>mul_int p c
end
inductive ai where
 | im (s:ae)
 | dS
 | c_ (I:List ae)
 | lst (I:List ae)
 | ee (Wm:List (e8×ae))
 | aH (Wm:List (List ae×ae))
 | jc (w:List ai)
 | qb (w:List ai)
variable{WV:List ai->Option ai}{x:ai->ai->Option ai}{o:Option ai}{s:ai}
abbrev bc:=List (Option ai)
variable{Wv y:bc}{c:List ai->bc->Option bc}
abbrev fx{Wz:Type}(m:aG):List (Wz×ae)->List (Wz×ar)->Prop:=eP λq p=>q.1=p.1/\cR m q.2 p.2
def fx.mono{Wz:Type}{t:List (Wz×ae)}{k:List (Wz×ar)}(B:rA m V6)(c:fx m t k):fx V6 t k:=eP.wA c λ_ W a=>⟨a.1,a.2.mono B⟩
structure ha(m V6:aG):Prop where
 tup:rA m V6
 eF:∀g o J,m g=Z (.eF o J)->V6 g=Z (.eF o J)
mutual
def c4(m:aG):ai->ar->List aj->Prop
 |.im s,v,N=>cR m s v/\N=[]
 |.dS,_,N=>N=[]
 |.c_ I,v,N=>∃g w o,v=.ref g/\m g=Z (.eF o<|.lst w)/\bT m I w/\N=[]
 |.lst I,v,N=>∃g w,v=.ref g/\m g=Z (.lst w)/\bT m I w/\N=[g]
 |.ee Wm,v,N=>∃g i,v=.ref g/\m g=Z (.ee i)/\fx m Wm i/\N=[g]
 |.aH Wm,v,N=>∃g i,v=.ref g/\m g=Z (.aH i)/\fx m Wm i/\N=[g]
 |.jc I,v,N=>∃g w z,v=.ref g/\m g=Z (.lst w)/\eR m I w z/\N=g::z
 |.qb I,v,N=>∃g w,v=.ref g/\m g=Z (.tup w)/\eR m I w N
def eR(m:aG):List ai->List ar->List aj->Prop
 |[],V7,N=>V7=[]/\N=[]
 |s::I,V7,N=>∃v u Wx WE,V7=v::u/\c4 m s v Wx/\eR m I u WE/\N=Wx++WE
end
mutual
theorem c4.mono{m V6:aG}(B:ha m V6):∀{s:ai}{v:ar}{N:List aj},c4 m s v N->(∀g∈N,∀o,m g=Z o->V6 g=Z o)->c4 V6 s v N
 |.im s,v,N,c,_=>⟨c.1.mono B.tup,c.2⟩
 |.dS,v,N,c,_=>c
 |.c_ I,v,N,c,_=>by
  let⟨g,w,@o,rfl,A,E,rfl⟩:=c;exact⟨g,w,o,rfl,B.eF _ _ _ A,E.mono B.tup,rfl⟩
 |.lst I,v,N,c,n=>by
  let⟨g,@w,rfl,A,E,rfl⟩:=c;exact⟨g,w,rfl,n g (.head _) _ A,E.mono B.tup,rfl⟩
 |.ee Wm,v,N,c,n=>by
  let⟨g,@w,rfl,A,E,rfl⟩:=c;exact⟨g,w,rfl,n g (.head _) _ A,E.mono B.tup,rfl⟩
 |.aH Wm,v,N,c,n=>by
  let⟨g,@w,rfl,A,E,rfl⟩:=c;exact⟨g,w,rfl,n g (.head _) _ A,E.mono B.tup,rfl⟩
 |.jc I,v,N,c,n=>by
  let⟨g,w,@z,rfl,A,E,rfl⟩:=c;exact⟨g,w,z,rfl,n g (.head _) _ A,eR.mono B E λd a=>n d<|.tail _ a,rfl⟩
 |.qb I,v,N,c,n=>by
  let⟨g,@w,rfl,A,E⟩:=c;exact⟨g,w,rfl,B.tup g w A,eR.mono B E n⟩
theorem eR.mono{m V6:aG}(B:ha m V6):∀{I:List ai}{V7:List ar}{N:List aj},eR m I V7 N->(∀g∈N,∀o,m g=Z o->V6 g=Z o)->eR V6 I V7 N
 |[],V7,N,c,_=>c
 |s::I,V7,N,c,n=>by
  let⟨v,u,Wx,@WE,rfl,A,E,rfl⟩:=c;exact⟨v,u,Wx,WE,rfl,c4.mono B A λg a=>n g<|ed _ a,eR.mono B E λg a=>n g<|ej _ a,rfl⟩
end
def ht(m:aG)(g:aj):Prop:=(∃o,m g=Z o/\(∀w,o≠.tup w)/\∀q J,o≠.eF q J)
mutual
theorem c4.chg{m:aG}:∀{s:ai}{v:ar}{N:List aj},c4 m s v N->∀g∈N,ht m g
 |.im s,v,N,c,g,b=>by rw[c.2]at b;cases b
 |.dS,v,N,c,g,b=>by rw[show N=[] from c]at b;cases b
 |.c_ I,v,N,c,d,a=>by
  let⟨g,w,@o,rfl,A,E,rfl⟩:=c;cases a
 |.lst I,v,N,c,d,a=>by
  let⟨g,@w,rfl,A,E,rfl⟩:=c;rw[cM.mp a];exact⟨_,A,(λ_ e=>by cases e),(λ_ W e=>by cases e)⟩
 |.ee Wm,v,N,c,d,a=>by
  let⟨g,@w,rfl,A,E,rfl⟩:=c;rw[cM.mp a];exact⟨_,A,(λ_ e=>by cases e),(λ_ W e=>by cases e)⟩
 |.aH Wm,v,N,c,d,a=>by
  let⟨g,@w,rfl,A,E,rfl⟩:=c;rw[cM.mp a];exact⟨_,A,(λ_ e=>by cases e),(λ_ W e=>by cases e)⟩
 |.jc I,v,N,c,d,a=>by
  let⟨g,w,@z,rfl,A,E,rfl⟩:=c;rcases cg.mp a with rfl|a
  ·exact⟨_,A,(λ_ e=>by cases e),(λ_ W e=>by cases e)⟩
  ·exact eR.chg E d a
 |.qb I,v,N,c,d,a=>by
  let⟨g,@w,rfl,A,E⟩:=c;exact eR.chg E d a
theorem eR.chg{m:aG}:∀{I:List ai}{V7:List ar}{N:List aj},eR m I V7 N->∀g∈N,ht m g
 |[],V7,N,c,g,a=>by rw[c.2]at a;cases a
 |s::I,V7,N,c,g,a=>by
  let⟨v,u,Wx,@WE,rfl,A,E,rfl⟩:=c;rcases dw.mp a with a|a
  ·exact c4.chg A g a
  ·exact eR.chg E g a
end
theorem eR.length:∀{I:List ai}{V7:List ar}{N:List aj},eR m I V7 N->I.length=V7.length
 |[],V7,N,c=>by rw[c.1];rfl
 |s::I,V7,N,c=>by
  let⟨v,u,Wx,@WE,rfl,A,E,rfl⟩:=c;rw[dm,dm,E.length]
theorem bT.length:∀{I:List ae}{V7:List ar},bT m I V7->I.length=V7.length
 |[],V7,c=>by rw[show V7=[] from c];rfl
 |s::I,V7,c=>by
  let⟨v,@u,rfl,A,E⟩:=c;rw[dm,dm,E.length]
def nB(m:aG):Option ai->Option ar->List aj->Prop
 |none,_,N=>N=[]
 |some s,f,N=>∃v,f=Z v/\c4 m s v N
def bP(m:aG):bc->a9->List aj->Prop
 |[],D,N=>D=[]/\N=[]
 |o::y,D,N=>∃f u Wx WE,D=f::u/\nB m o f Wx/\bP m y u WE/\N=Wx++WE
structure bG(m:aG)(N:List aj)(V6:aG)(WS:List aj):Prop where
 keep:∀g o,m g=Z o->g∉N->V6 g=Z o
 sub:∀g∈WS,g∈N\/m g=Y
 ao:WS.Nodup
 tup:ha m V6
 grow:∀g o,m g=Z o->∃M,V6 g=Z M
theorem nB.mono(B:ha m V6):∀{o:Option ai}{f:Option ar}{N:List aj},nB m o f N->(∀g∈N,∀o,m g=Z o->V6 g=Z o)->nB V6 o f N
 |none,_,_,c,_=>c
 |some s,f,N,c,n=>by
  let⟨@v,rfl,c⟩:=c;exact⟨v,rfl,c.mono B n⟩
theorem bP.mono{m V6:aG}(B:ha m V6):∀{y:bc}{D:a9}{N:List aj},bP m y D N->(∀g∈N,∀o,m g=Z o->V6 g=Z o)->bP V6 y D N
 |[],D,N,c,_=>c
 |o::y,D,N,c,n=>by
  let⟨f,u,Wx,@WE,rfl,A,E,rfl⟩:=c;exact⟨f,u,Wx,WE,rfl,A.mono B λg a=>n g<|ed _ a,bP.mono B E λg a=>n g<|ej _ a,rfl⟩
theorem nB.chg:∀{o:Option ai}{f:Option ar}{N:List aj},nB m o f N->∀g∈N,ht m g
 |none,_,N,c,g,a=>by rw[show N=[] from c]at a;cases a
 |some s,f,N,c,g,a=>by
  let⟨@v,rfl,c⟩:=c;exact c.chg g a
theorem bP.chg{m:aG}:∀{y:bc}{D:a9}{N:List aj},bP m y D N->∀g∈N,ht m g
 |[],D,N,c,g,a=>by rw[c.2]at a;cases a
 |o::y,D,N,c,g,a=>by
  let⟨f,u,Wx,@WE,rfl,A,E,rfl⟩:=c;rcases dw.mp a with a|a
  ·exact A.chg g a
  ·exact bP.chg E g a
theorem bP.len{m:aG}:∀{y:bc}{D:a9}{N:List aj},bP m y D N->y.length=D.length
 |[],D,N,c=>by rw[c.1];rfl
 |o::y,D,N,c=>by
  let⟨f,u,Wx,@WE,rfl,A,E,rfl⟩:=c;rw[dm,dm,bP.len E]
def ai.fm:ai->Bool
 |.im _=>aa
 |.c_ _=>aa
 |_=>aw
def c4.fm(c:c4 m s v N)(h:s.fm=aa):N=[]:=by
 cases s with
 |im s=>exact c.2
 |c_ I=>let⟨g,w,@o,rfl,A,E,rfl⟩:=c;rfl
 |_=>cases h
theorem bP.out{m:aG}:∀{y:bc}{D:a9}{N:List aj}{a:Nat}{s:ai},bP m y D N->y[a]?=Z (Z s)->∃v Wx WE,D[a]?=Z (Z v)/\c4 m s v Wx/\bP m (y.set a<|Z .dS) D WE/\(WE++Wx).Perm N
 |[],D,N,a,s,c,e=>by simp at e
 |o::y,D,N,0,s,c,e=>by
  let⟨f,u,Wx,@WE,rfl,A,E,rfl⟩:=c;simp at e;subst e;let⟨@v,rfl,A⟩:=A;exact⟨v,Wx,WE,rfl,A,⟨Z v,u,[],WE,rfl,⟨v,rfl,rfl⟩,E,rfl⟩,dW⟩
 |o::y,D,N,a+1,s,c,e=>by
  let⟨f,u,Wx,@WE,rfl,A,E,rfl⟩:=c;let⟨v,d,@b,g,h,i,j⟩:=bP.out (a:=a) E ⇑e;refine⟨v,d,Wx++b,by simpa using g,h,⟨f,u,Wx,b,rfl,A,i,rfl⟩,?_⟩;rw[bM];exact eL _ j
theorem bP.put{m:aG}:∀{y:bc}{D:a9}{N:List aj}{a:Nat}{s:ai}{v:ar}{z:List aj},bP m y D N->c4 m s v z->a<y.length->∃Wx WE,bP m (y.set a<|Z s) (D.set a<|Z v) Wx/\(Wx++WE).Perm (N++z)
 |[],D,N,a,s,v,z,c,l,t=>by simp at t
 |o::y,D,N,0,s,v,z,c,l,t=>by
  let⟨f,u,Wx,@WE,rfl,A,E,rfl⟩:=c;refine⟨z++WE,Wx,⟨Z v,u,z,WE,rfl,⟨v,rfl,l⟩,E,rfl⟩,?_⟩;refine dW.trans ?_;rw[bM];exact eL _ dW
 |o::y,D,N,a+1,s,v,z,c,l,t=>by
  let⟨f,u,Wx,@WE,rfl,A,E,rfl⟩:=c;let⟨b,@d,e,g⟩:=bP.put (a:=a) E l ⇑t;refine⟨Wx++b,d,⟨f,_,Wx,b,rfl,A,e,rfl⟩,?_⟩;rw[bM,bM];exact eL _ g
def bP.fm{a:Nat}(c:bP m y D N)(e:y[a]?=Z (Z s))(h:s.fm=aa):∃v,D[a]?=Z (Z v)/\c4 m s v []:=by
 let⟨v,Wx,@WE,d,b,W⟩:=c.out e;obtain rfl:=b.fm h;exact⟨v,d,b⟩
def SE{a:Nat}(c:D[a]?=Z (Z v)):D.set a (Z v)=D:=by
 refine qj λi=>?_;by_cases e:a=i
 ·subst e;rw[c,xb (gk.mp c).1]
 ·rw[oA e]
def bP.back{a:Nat}(c:bP m y D N)(l:c4 m s v z)(b:D[a]?=Z (Z v)):∃Wx WE,bP m (y.set a<|Z s) D Wx/\(Wx++WE).Perm (N++z):=by
 have t:a<y.length:=by rw[c.len];exact (gk.mp b).1
 let⟨Wx,@WE,A,E⟩:=c.put (a:=a) l t;rw[SE b]at A;exact⟨Wx,WE,A,E⟩
def ha.of(x:sI m V6)(L:∀g o J,m g=Z (.eF o J)->V6 g=Z (.eF o J)):ha m V6:=⟨⟨x,L⟩,L⟩
def SX(m:aG):ha m m:=⟨⟨λ_ W e=>e,λ_ W W e=>e⟩,λ_ W W e=>e⟩
def ha.trans(g:ha m Wh)(d:ha Wh Ws):ha m Ws:=⟨⟨λf w e=>d.tup.t f w<|g.tup.t f w e,λf o J e=>d.eF f o J<|g.eF f o J e⟩,λf o J e=>d.eF f o J<|g.eF f o J e⟩
def bG.refl(c:WS.Nodup)(j:∀g∈WS,g∈N):bG m N m WS:=⟨λ_ W e W=>e,λg a=>.inl<|j g a,c,SX m,λ_ o e=>⟨o,e⟩⟩
def bG.perm(c:N.Nodup)(q:WS.Perm N):bG m N m WS:=bG.refl ((q.nodup_iff).mpr c) λg a=>q.mem_iff.mp a
def bG.trans(g:bG m N Wh (Wx++Wb))(d:bG Wh Wx Ws WE)(i:∀f∈Wb,ht Wh f):bG m N Ws (WE++Wb):=by
 have ao:=dD.mp g.ao;have j:∀f∈WE,f∉Wb:=λf a h=>by
  rcases d.sub f a with c|c
  ·exact ao.2.2 f c f h rfl
  ·let⟨@o,e,W⟩:=i f h;rw[e]at c;cases c
 refine⟨λf o e a=>?_,λf a=>?_,dD.mpr ⟨d.ao,ao.2.1,λf a C k e=>j f a<|e ▸ k⟩,g.tup.trans d.tup,λf o e=>let ⟨M,b⟩:=g.grow f o e;d.grow f M b⟩
 ·refine d.keep f o (g.keep f o e a) λA=>?_;rcases g.sub f (ed _ A) with c|c
  ·exact a c
  ·rw[e]at c;cases c
 ·rcases dw.mp a with a|a
  ·rcases d.sub f a with c|c
   ·exact g.sub f (ed _ c)
   ·refine .inr ?_;cases e:m f with
    |none=>rfl
    |some o=>
     let⟨@M,b⟩:=g.grow f o e;rw[b]at c;cases c
  ·exact g.sub f (ej _ a)
def df.tupS(j:df m V6):ha m V6:=⟨⟨λg w e=>j g _ e,λg o J e=>j g _ e⟩,λg o J e=>j g _ e⟩
def GV{g d:aj}{o J:hq}(e:m d=Z o)(c:m g=Y):L2.upd m g J d=Z o:=by rw[dI (ij e c)];exact e
def df.upd(j:df m V6){g:aj}{o:hq}(c:V6 g=Y):df m (L2.upd V6 g o):=λd J e=>GV (j d J e) c
abbrev aF(Ww:Type):=bc->Option (Ww×bc)
variable{Xp:aF ai}{dq n:aF Bool}
inductive bX where
 | aO (a:Nat)
 | cC (s:ai)
variable{W9 Xc:aF bX}{L:aF (List bX)}
def dQ(y:bc):bX->Option ai
 |.aO a=>(y[a]?).getD Y
 |.cC s=>Z s
def i6(m:aG)(D:a9):bX->ar->List aj->Prop
 |.aO a,v,Wb=>D[a]?=Z (Z v)/\Wb=[]
 |.cC s,v,Wb=>c4 m s v Wb
def dy(L:aF ai):cj:=(λD m G=>∃y N u Wv,bP m y D N/\N.Nodup/\L y=Z (u,Wv)/\∀v V6 WS Wb,bP V6 Wv D WS->c4 V6 u v Wb->bG m N V6 (WS++Wb)->G v V6)
def nE(L:aF bX):cj:=(λD m G=>∃y N u Wv,bP m y D N/\N.Nodup/\L y=Z (u,Wv)/\∀v V6 WS Wb,bP V6 Wv D WS->i6 V6 D u v Wb->bG m N V6 (WS++Wb)->G v V6)
def kC(L:aF Bool):e1:=(λD m G=>∃y N d Wv,bP m y D N/\N.Nodup/\L y=Z (d,Wv)/\∀V6 WS,bP V6 Wv D WS->bG m N V6 WS->G d V6)
def cx(b:aR)(e:bF)(L:aF ai):Prop:=(∀ ⦃q⦄,yB b e (dy L) q)
def dX(b:aR)(e:bF)(L:aF bX):Prop:=(∀ ⦃q⦄,yB b e (nE L) q)
def jv(b:aR)(e:bF)(L:aF Bool):Prop:=(∀ ⦃q⦄,DQ b e (kC L) q)
def eQ{B WJ:cj}(c:bU b e B)(a:∀D m G,WJ D m G->B D m G):bU b e WJ:=λR j D m G H d=>c R j D m G H (a D m G d)
def v7{B:e1}(c:iC b e B)(a:∀D m G,WJ D m G->B D m G):iC b e WJ:=λR j D m G H d=>c R j D m G H (a D m G d)
def i6.mono{u:bX}(c:i6 m D u v Wb)(B:ha m V6)(n:∀g∈Wb,∀o,m g=Z o->V6 g=Z o):i6 V6 D u v Wb:=by
 cases u with
 |aO a=>exact c
 |cC s=>exact c4.mono B c n
def i6.chg{u:bX}(c:i6 m D u v Wb):∀g∈Wb,ht m g:=by
 cases u with
 |aO a=>intro g b;rw[c.2]at b;cases b
 |cC s=>exact c4.chg c
def fX(m:aG)(s:ai)(v:ar):Prop:=(∃Wb,c4 m s v Wb)
def i6.read{u:bX}(c:i6 m D u v Wb)(O:bP m y D N)(e:dQ y u=Z s):fX m s v:=by
 cases u with
 |cC g=>cases e;exact⟨Wb,c⟩
 |aO a=>
  have d:y[a]?=Z (Z s):=by
   have:(y[a]?).getD Y=Z s:=e;cases p:y[a]? with
   |none=>rw[p]at this;cases this
   |some o=>rw[p]at this;rw[show o=Z s from this]
  let⟨h,Wx,@WE,b,f,W⟩:=O.out d;rw[c.1]at b;cases b;exact⟨Wx,f⟩
@[simp] def d2(a:Nat):aF ai:=λy=>match y[a]? with
 |some (Z s)=>if s.fm=aa then Z (s,y) else Z (s,y.set a<|Z .dS)
 |_=>Y
def aD(s:ae):aF ai:=(λy=>Z (.im s,y))
@[simp] def ab(a:Nat):aF bX:=λy=>match y[a]? with
 |some (Z _)=>Z (.aO a,y)
 |_=>Y
@[simp] def af(L:aF ai):aF bX:=λy=>(L y).map λq=>(.cC q.1,q.2)
section
variable{b:aR}
variable{a:Nat}
def fw(c:bU b e (ml a)):cx b e (d2 a):=by
 refine eQ c λD m G f=>?_;let⟨y,N,u,@Wv,O,ao,d,p⟩:=f;unfold d2 at d;split at d
 ·rename_i s hd;split at d
  ·rename_i g;cases d;let⟨@v,A,E⟩:=O.fm hd g;exact⟨v,A,p v m N [] O E (by rw[cO];exact bG.perm ao (List.Perm.refl _))⟩
  ·cases d;let⟨v,Wx,@WE,A,E,h,i⟩:=O.out hd;exact⟨v,A,p v m WE Wx h E<|bG.perm ao i⟩
 ·cases d
def Kw(c:bU b e (ml a)):dX b e (ab a):=by
 refine eQ c λD m G f=>?_;let⟨y,N,u,@Wv,O,ao,d,p⟩:=f;unfold ab at d;split at d
 ·rename_i s hd;cases d;let⟨v,Wx,@WE,A,E,g,h⟩:=O.out hd;exact⟨v,A,p v m N [] O ⟨A,rfl⟩ (by rw[cO];exact bG.perm ao (List.Perm.refl _))⟩
 ·cases d
def aM{L:aF ai}(c:cx b e L):dX b e (af L):=by
 refine eQ c λD m G d=>?_;let⟨y,N,u,@Wv,O,ao,a,p⟩:=d;unfold af at a;let⟨@⟨W3,We⟩,A,E⟩:=cU.mp a;cases E;exact⟨y,N,W3,_,O,ao,A,p⟩
def qf{s:ae}(c:bU b e (pv v))(hd:∀m,cR m s v):cx b e (aD s):=by
 refine eQ c λD m G a=>?_;let⟨y,N,u,@Wv,O,ao,d,p⟩:=a;cases d;exact p v m N [] O ⟨hd m,rfl⟩ (by rw[cO];exact bG.perm ao (List.Perm.refl _))
def eW{a:Int}{i Wq}:cx b (.Constant (.int a) i Wq) (aD<|.int a):=qf PY λ_=>rfl
def e5{d:Bool}{i Wq}:cx b (.Constant (.bool d) i Wq) (aD<|.ay d):=qf Pk λ_=>rfl
def wY{i Wq}:cx b (.Constant .none i Wq) (aD .a6):=qf MK λ_=>rfl
def z1{We WO:bc}{f C:bX}{V8:ar->ar->aG->Prop}(O:bP m y D N)(ao:N.Nodup)(b:Xc y=Z (f,We))(i:W9 We=Z (C,WO))(n:∀v J V6 WS a cf,bP V6 WO D WS->i6 V6 D f v a->i6 V6 D C J cf->bG m N V6 ((WS++cf)++a)->V8 v J V6):nE Xc D m λv Wh=>nE W9 D Wh λJ Ws=>V8 v J Ws:=by
 refine⟨y,N,f,We,O,ao,b,λv Wh Wx a j WC d=>⟨We,Wx,C,WO,j,(dD.mp d.ao).1,i,λJ Ws WE cf k WW h=>?_⟩⟩;refine n v J Ws WE a cf k (WC.mono h.tup λg b o e=>h.keep g o e λc=>?_) WW (d.trans h WC.chg);exact (dD.mp d.ao).2.2 g c g b rfl
def bG.new{c:List aj}(g:bG m N Wh (Wx++Wb))(j:df Wh Ws)(ao:c.Nodup)(d:∀f∈c,Wh f=Y)(h:∀f∈Wx,ht Wh f):bG m N Ws (Wx++c):=by
 refine⟨λf o e a=>j _ _<|g.keep f o e a,λf a=>?_,dD.mpr ⟨(dD.mp g.ao).1,ao,λf a C i e=>?_⟩,g.tup.trans j.tupS,λf o e=>let ⟨M,b⟩:=g.grow f o e;⟨M,j _ _ b⟩⟩
 ·rcases dw.mp a with a|a
  ·exact g.sub f (ed _ a)
  ·refine .inr ?_;cases e:m f with
   |none=>rfl
   |some o=>
    let⟨@M,b⟩:=g.grow f o e;rw[d f a]at b;cases b
 ·subst e;let⟨@o,e,W⟩:=h f a;rw[d f i]at e;cases e
def fG(b:aR)(x:ag->ag->er ag)(WV:ai->ai->Option ai):Prop:=(
 eo b x λf C m G=>∃WY WZ s,fX m WY f/\fX m WZ C/\WV WY WZ=Z s/\∀v V6 Wb,df m V6->c4 V6 s v Wb->Wb.Nodup->(∀g∈Wb,m g=Y)->G v V6)
@[simp] def aB(WV:ai->ai->Option ai)(Xc W9:aF bX):aF ai:=λy=>(Xc y).bind λq=>(W9 q.2).bind λp=>(dQ p.2 q.1).bind λWY=>(dQ p.2 p.1).bind λWZ=>(WV WY WZ).map λs=>(s,p.2)
def vK{WV:ai->ai->Option ai}(c:dy (aB WV Xc W9) D m G):
  nE Xc D m λf Wh=>nE W9 D Wh λC Ws=>∃WY WZ s,fX Ws WY f/\fX Ws WZ C/\WV WY WZ=Z s/\∀v V6 Wb,df Ws V6->c4 V6 s v Wb->Wb.Nodup->(∀g∈Wb,Ws g=Y)->G v V6:=by
 let⟨y,N,u,@Wv,O,ao,a,p⟩:=c;unfold aB at a;let⟨@⟨f,We⟩,i,a⟩:=bZ.mp a;let⟨@⟨C,WO⟩,j,a⟩:=bZ.mp a;let⟨@WY,A,a⟩:=bZ.mp a;let⟨@WZ,E,a⟩:=bZ.mp a;let⟨@s,k,a⟩:=cU.mp a;cases a;refine z1 O ao i j λv J Ws WE t cf b WC WW h=>⟨WY,WZ,_,WC.read b A,WW.read b E,k,λl n Wb d WG q r=>?_⟩;rw[bM]at h;exact p l n WE Wb (b.mono d.tupS λg W o e=>d g o e) WG (h.new d q r b.chg)
def fA{WV:Bb}(a:fG b (g7 WV) x)(e:dX b g Xc)(f:dX b d W9):cx b (.BinOp g WV d Wq) (aB x Xc W9):=
 eQ (Pd a e f) λ_ W W c=>vK c
variable{WV:m7}
def gO(a:fG b (ey WV) x)(e:dX b g Xc)(f:dX b d W9)(h:qu WV d=aw):cx b (.Compare g [WV] [d] Wq) (aB x Xc W9):=
 eQ (Nw a e f h) λ_ W W c=>vK c
def T1(a:jG b (λf C m G=>∃WY WZ s,fX m WY f/\fX m WZ C/\x WY WZ=Z s/\∀v V6 Wb,df m V6->c4 V6 s v Wb->Wb.Nodup->(∀g∈Wb,m g=Y)->G v V6))(e:dX b g Xc)(h:dX b d W9)(Wd:vA d):cx b (.Subscript g d Wq) (aB x Xc W9):=
 eQ (Py a e h Wd) λ_ W W c=>vK c
@[simp] def pd:ai->Option Bool
 |.im (.ay d)=>Z d
 |_=>Y
@[simp] def aY(L:aF ai):aF Bool:=λy=>(L y).bind λq=>(pd q.1).map λd=>(d,q.2)
def tE{d:Bool}(c:pd s=Z d):s=.im (.ay d):=by
 unfold pd at c;split at c
 ·cases c;rfl
 ·cases c
def dr(a:fG b (ey WV) x)(c:dX b g Xc)(e:dX b d W9)(f:qu WV d=aw):jv b (.Compare g [WV] [d] Wq) (aY<|aB x Xc W9):=by
 refine v7 (Qg a c e f) λD m G i=>?_;let⟨y,N,h,@Wv,O,ao,k,p⟩:=i;refine vK ⟨y,N,.im<|.ay h,Wv,O,ao,?_,λv V6 WS Wb l WG j=>⟨h,WG.1,p V6 WS l (by rw[WG.2,cO]at j;exact j)⟩⟩;let⟨@q,A,E⟩:=bZ.mp k;let⟨@r,n,o⟩:=cU.mp E;cases o;rw[A,<-tE n]
@[simp] def dT(L:aF Bool):aF Bool:=λy=>(L y).map λq=>(!q.1,q.2)
variable{L:aF Bool}
def gb(c:jv b g L):jv b (.UnaryOp .Not g Wq) (dT L):=by
 refine v7 (Mq c) λD m G a=>?_;let⟨y,N,h,@Wv,O,ao,d,p⟩:=a;let⟨@q,A,E⟩:=cU.mp d;cases E;exact⟨y,N,q.1,_,O,ao,A,p⟩
@[simp] def ec(L c:aF Bool):aF Bool:=λy=>(L y).bind λq=>if q.1=aa then c q.2 else Z (aw,q.2)
@[simp] def eT(L c:aF Bool):aF Bool:=λy=>(L y).bind λq=>if q.1=aa then Z (aa,q.2) else c q.2
variable{G:Bool->aG->Prop}{c:aF Bool}
def Jf(l:kC (ec L c) D m G):Cd (kC L) (kC c) D m G:=by
 let⟨y,N,h,@Wv,O,ao,e,p⟩:=l;let⟨@⟨d,We⟩,A,E⟩:=bZ.mp e;refine⟨y,N,d,We,O,ao,A,λWh Wx b a=>?_⟩;cases d with
 |true=>
  rw[aJ rfl];rw[aJ rfl]at E;exact⟨We,Wx,h,Wv,b,a.ao,E,λWs WE g i=>p Ws WE g (by
   have:=bG.trans (Wb:=[]) (by rw[cO];exact a) i (λf j=>nomatch j)
   rwa [cO]at this)⟩
 |false=>
  rw[aP dz]at E ⊢;cases E;exact p Wh Wx b a
def Vb(l:kC (eT L c) D m G):Cp (kC L) (kC c) D m G:=by
 let⟨y,N,h,@Wv,O,ao,e,p⟩:=l;let⟨@⟨d,We⟩,A,E⟩:=bZ.mp e;refine⟨y,N,d,We,O,ao,A,λWh Wx b a=>?_⟩;cases d with
 |false=>
  rw[aP dz]at E ⊢;exact⟨We,Wx,h,Wv,b,a.ao,E,λWs WE g i=>p Ws WE g (by
   have:=bG.trans (Wb:=[]) (by rw[cO];exact a) i (λf j=>nomatch j)
   rwa [cO]at this)⟩
 |true=>
  rw[aJ rfl]at E ⊢;cases E;exact p Wh Wx b a
def eZ(b:aR)(e:bF)(L:aF Bool):Prop:=(∀ ⦃q⦄,FU b e (kC L) q)
def CA{B:e1}(c:lb b e B)(a:∀D m G,WJ D m G->B D m G):lb b e WJ:=λd R j D m G H f=>c d R j D m G H (a D m G f)
def rZ(c:jv b g L):eZ b (.BoolOp .And [g] Wq) L:=Sj c
def hX(c:jv b g L):eZ b (.BoolOp .Or [g] Wq) L:=Vd c
def pU(c:jv b g L)(a:eZ b (.BoolOp .And (d::u) Wq) n):eZ b (.BoolOp .And (g::d::u) Wq) (ec L n):=CA (VE c a) λ_ W W l=>Jf l
def fU(c:jv b g L)(a:eZ b (.BoolOp .Or (d::u) Wq) n):eZ b (.BoolOp .Or (g::d::u) Wq) (eT L n):=CA (K4 c a) λ_ W W l=>Vb l
def eZ.gx(c:eZ b e L):jv b e L:=lb.pt c
@[simp] def fZ(L:aF Bool):aF ai:=λy=>(L y).map λq=>(.im<|.ay q.1,q.2)
def Bn(c:cx b e (fZ L)):bU b e λD m G=>kC L D m λd V6=>G (.ay d) V6:=by
 refine eQ c λD m G a=>?_;let⟨y,N,h,@Wv,O,ao,f,p⟩:=a;refine⟨y,N,.im<|.ay h,Wv,O,ao,by unfold fZ;rw[f];rfl,λv V6 WS Wb g WG j=>?_⟩;rw[show v=.ay h from WG.1];exact p V6 WS g (by rw[WG.2,cO]at j;exact j)
def Eb(c:bU b e λD m G=>kC L D m λd V6=>G (.ay d) V6):cx b e (fZ L):=by
 refine eQ c λD m G a=>?_;let⟨y,N,u,@Wv,O,ao,f,p⟩:=a;let⟨@q,A,E⟩:=cU.mp f;cases E;exact⟨y,N,q.1,_,O,ao,A,λV6 WS g j=>p _ V6 WS [] g ⟨rfl,rfl⟩ (by rw[cO];exact j)⟩
def eK{L:aF ai}(c:cx b e L):cx b e (fZ<|aY L):=by
 refine eQ c λD m G a=>?_;let⟨y,N,u,@Wv,O,ao,d,p⟩:=a;let⟨@q,A,E⟩:=cU.mp d;let⟨@f,g,i⟩:=bZ.mp A;let⟨@h,j,k⟩:=cU.mp i;cases k;cases E;exact⟨y,N,f.1,_,O,ao,g,by rw[tE j];exact p⟩
def DZ(c:cx b g (fZ L)):cx b (.UnaryOp .Not g Wq) (fZ<|dT L):=by
 refine Eb (eQ (QR<|Bn c) λD m G a=>?_);let⟨y,N,h,@Wv,O,ao,d,p⟩:=a;let⟨@q,A,E⟩:=cU.mp d;cases E;exact⟨y,N,q.1,_,O,ao,A,λV6 WS e j=>⟨_,rfl,p V6 WS e j⟩⟩
def k4{WV}{L:aF ai}(c:cx b g L):cx b (.BoolOp WV [g] Wq) L:=Oq c
def hs(c:cx b g (fZ L))(a:cx b (.BoolOp .And (d::u) Wq) (fZ n)):cx b (.BoolOp .And (g::d::u) Wq) (fZ<|ec L n):=by
 refine Eb (eQ (TH (Bn c)<|Bn a) λD m G l=>?_);have:=Jf l;let⟨y,N,h,@Wv,O,ao,e,p⟩:=this;exact⟨y,N,h,Wv,O,ao,e,λV6 WS f j=>⟨h,rfl,p V6 WS f j⟩⟩
@[simp] def yK(h:aF Bool)(g d:aF ai):aF ai:=λy=>(h y).bind λq=>if q.1=aa then g q.2 else d q.2
def bG.seq(g:bG m N Wh Wx)(d:bG Wh Wx Ws WE):bG m N Ws WE:=by
 have:=bG.trans (Wb:=[]) (by rw[cO];exact g) d (λf a=>nomatch a)
 rwa [cO]at this
def Rt{Xc W9:aF ai}(i:jv b h dq)(j:cx b g Xc)(k:cx b d W9):cx b (.IfExp h g d Wq) (yK dq Xc W9):=by
 refine eQ (Ro i j k) λD m G l=>?_;let⟨y,N,u,@Wv,O,ao,n,p⟩:=l;let⟨@⟨B,We⟩,A,E⟩:=bZ.mp n;refine⟨y,N,B,We,O,ao,A,λWh Wx f a=>?_⟩;cases B with
 |true=>
  rw[aJ rfl]at E ⊢;exact⟨We,Wx,u,Wv,f,a.ao,E,λv Ws WE Wb c WG e=>p v Ws WE Wb c WG<|a.seq e⟩
 |false=>
  rw[aP dz]at E ⊢;exact⟨We,Wx,u,Wv,f,a.ao,E,λv Ws WE Wb c WG e=>p v Ws WE Wb c WG<|a.seq e⟩
end
def lL(m:aG)(D:a9):List bX->List ar->List aj->Prop
 |[],V7,Wb=>V7=[]/\Wb=[]
 |o::Q,V7,Wb=>∃v u a cf,V7=v::u/\i6 m D o v a/\lL m D Q u cf/\Wb=a++cf
def h_(L:aF (List bX)):fQ:=(λD m G=>∃y N u Wv,bP m y D N/\N.Nodup/\L y=Z (u,Wv)/\∀V7 V6 WS Wb,bP V6 Wv D WS->lL V6 D u V7 Wb->bG m N V6 (WS++Wb)->G V7 V6)
def gC(b:aR)(V_:List bF)(L:aF (List bX)):Prop:=(∀ ⦃q⦄,Fx b V_ (h_ L) q)
def Fl{B WJ:fQ}(c:iy b V_ B)(a:∀D m G,WJ D m G->B D m G):iy b V_ WJ:=λWq R j D m G H d=>c Wq R j D m G H (a D m G d)
def ax:aF (List bX):=(λy=>Z ([],y))
@[simp] def ah(L:aF bX)(c:aF (List bX)):aF (List bX):=λy=>(L y).bind λq=>(c q.2).map λp=>(q.1::p.1,p.2)
def bG.mw(j:bG m N V6 P)(q:P.Perm WA):bG m N V6 WA:=⟨j.keep,λg a=>j.sub g<|q.mem_iff.mpr a,(q.nodup_iff).mp j.ao,j.tup,j.grow⟩
def bG.less(j:bG m N V6 P)(q:(WA++aT).Perm P):bG m N V6 WA:=
 ⟨j.keep,λg a=>j.sub g<|q.mem_iff.mp<|ed _ a,(dD.mp<|(q.nodup_iff).mpr j.ao).1,j.tup,j.grow⟩
section
variable{b:aR}
def nU:gC b [] ax:=by
 refine Fl I7 λD m G a=>?_;let⟨y,N,u,@Wv,O,ao,c,p⟩:=a;cases c;exact p [] m N [] O ⟨rfl,rfl⟩ (by rw[cO];exact bG.perm ao (List.Perm.refl _))
def fi{L:aF bX}{c:aF (List bX)}(i:dX b e L)(j:gC b V_ c)(Wd:b5 (e::V_) b.env=(aw,cE e b.env)::b5 V_ b.env:=by rfl):gC b (e::V_) (ah L c):=by
 refine Fl (xV i j Wd) λD m G k=>?_;let⟨y,N,u,@Wv,O,ao,l,p⟩:=k;let⟨@⟨f,We⟩,A,E⟩:=bZ.mp l;let⟨@⟨Wn,WO⟩,n,q⟩:=cU.mp E;cases q;refine⟨y,N,f,We,O,ao,A,λv Wh Wx h r WC a=>⟨We,Wx,Wn,_,r,(dD.mp a.ao).1,n,λV7 Ws WE cf s WW d=>?_⟩⟩;refine p (v::V7) Ws WE (h++cf) s ⟨v,V7,h,cf,rfl,WC.mono d.tup λg t o e=>d.keep g o e λc=>?_,WW,rfl⟩ ((a.trans d WC.chg).mw ?_)
 ·exact (dD.mp a.ao).2.2 g c g t rfl
 ·rw[bM];exact eL _ dW
end
def hr(y:bc):List bX->Option (List ai)
 |[]=>Z []
 |o::Q=>(dQ y o).bind λs=>(hr y Q).map λI=>s::I
def n4(m:aG):List ai->List ar->Prop
 |[],V7=>V7=[]
 |s::I,V7=>∃v u,V7=v::u/\fX m s v/\n4 m I u
theorem lL.read{m:aG}{y:bc}{D:a9}{N:List aj}(O:bP m y D N):∀{Q:List bX}{V7:List ar}{Wb:List aj}{I:List ai},lL m D Q V7 Wb->hr y Q=Z I->n4 m I V7
 |[],_,_,_,c,e=>by cases e;exact c.1
 |o::Q,_,_,_,c,e=>by
  let⟨v,u,g,@cf,rfl,A,E,rfl⟩:=c;let⟨@s,a,b⟩:=bZ.mp e;let⟨@I,d,f⟩:=cU.mp b;cases f;exact⟨v,u,rfl,A.read O a,lL.read O E d⟩
def gr:List bX->bc->Option (List ai×bc)
 |[],y=>Z ([],y)
 |.cC s::Q,y=>(gr Q y).map λq=>(s::q.1,q.2)
 |.aO a::Q,y=>(d2 a y).bind λq=>(gr Q q.2).map λp=>(q.1::p.1,p.2)
def Cr{a:Nat}(O:bP m y D N)(c:d2 a y=Z (s,Wv)):∃v Wx Wb,D[a]?=Z (Z v)/\c4 m s v Wb/\bP m Wv D Wx/\(Wx++Wb).Perm N:=by
 unfold d2 at c;split at c
 ·rename_i e hd;split at c
  ·rename_i b;cases c;let⟨@v,A,E⟩:=O.fm hd b;exact⟨v,N,[],A,E,O,by rw[cO]⟩
  ·cases c;let⟨v,Wx,@WE,A,E,d,f⟩:=O.out hd;exact⟨v,WE,Wx,A,E,d,f⟩
 ·cases c
def l2:(P++(WA++aT)).Perm (WA++(P++aT)):=by
 rw[<-bM,<-bM];exact gj _ dW
theorem qp{m:aG}{D:a9}:∀{Q:List bX}{V7:List ar}{Wb N:List aj}{y Wv:bc}{I:List ai},bP m y D N->lL m D Q V7 Wb->gr Q y=Z (I,Wv)->∃Wx b,bP m Wv D Wx/\eR m I V7 b/\(Wx++b).Perm (N++Wb)
 |[],_,_,N,_,_,_,O,c,e=>by
  cases e;exact⟨N,[],O,⟨c.1,rfl⟩,by rw[c.2]⟩
 |.cC s::Q,_,_,N,y,_,_,O,c,e=>by
  let⟨v,u,b,@cf,rfl,A,E,rfl⟩:=c;rw[gr]at e;let⟨@q,g,h⟩:=cU.mp e;cases h;let⟨Wx,@d,f,i,j⟩:=qp (Wv:=q.2) (I:=q.1) O E g;exact⟨Wx,b++d,f,⟨v,u,b,d,rfl,A,i,rfl⟩,l2.trans<|(eL _ j).trans l2⟩
 |.aO a::Q,_,_,N,y,_,_,O,c,e=>by
  let⟨v,u,b,@cf,rfl,@⟨A,rfl⟩,E,rfl⟩:=c;rw[gr]at e;let⟨@⟨s,We⟩,l,n⟩:=bZ.mp e;let⟨@q,g,h⟩:=cU.mp n;cases h;let⟨r,Wx,@d,f,i,j,o⟩:=Cr O l;rw[A]at f;cases f;let⟨WE,@k,WD,WR,p⟩:=qp (Wv:=q.2) (I:=q.1) j E g;refine⟨WE,d++k,WD,⟨v,u,d,k,rfl,i,WR,rfl⟩,l2.trans<|(eL _ p).trans ?_⟩;rw[<-bM];exact gj _ (dW.trans o)
@[simp] def jU:List bX->List ai->bc->bc
 |.aO a::Q,s::I,y=>jU Q I (match y[a]? with|some (Z .dS)=>y.set a (Z s)|_=>y)
 |.cC _::Q,_::I,y=>jU Q I y
 |_,_,y=>y
theorem uq{m j:aG}{D:a9}:∀{Q:List bX}{I:List ai}{V7:List ar}{Wb N Wo:List aj}{y:bc},bP m y D N->lL j D Q V7 Wo->eR m I V7 Wb->∃Wx b,bP m (jU Q I y) D Wx/\(Wx++b).Perm (N++Wb)
 |[],I,_,Wb,N,_,y,O,_,_=>⟨N,Wb,by unfold jU;exact O,List.Perm.refl _⟩
 |.cC _::Q,[],_,Wb,N,_,y,O,_,_=>⟨N,Wb,by unfold jU;exact O,List.Perm.refl _⟩
 |.aO _::Q,[],_,Wb,N,_,y,O,_,_=>⟨N,Wb,by unfold jU;exact O,List.Perm.refl _⟩
 |.cC _::Q,s::I,_,Wb,N,_,y,O,c,l=>by
  let⟨v,u,k,@n,rfl,A,E,rfl⟩:=c;let⟨o,W3,b,@cf,e,i,h,rfl⟩:=l;cases e;let⟨Wx,@d,f,g⟩:=uq (y:=y) O E h;refine⟨Wx,b++d,by rw[jU];exact f,l2.trans<|(eL _ g).trans l2⟩
 |.aO a::Q,s::I,_,Wb,N,_,y,O,c,l=>by
  let⟨v,u,k,@n,rfl,@⟨A,W⟩,E,rfl⟩:=c;let⟨o,W3,b,@cf,e,i,h,rfl⟩:=l;cases e;rw[jU];split
  ·let⟨Wx,@z,f,g⟩:=O.back i A;let⟨WE,@d,WD,WR⟩:=uq f E h;refine⟨WE,d++z,WD,?_⟩;rw[<-bM,<-bM];refine (gj _ WR).trans ?_;rw[bM];refine (eL _ dW).trans ?_;rw[<-bM];exact gj _ g
  ·let⟨Wx,@d,f,g⟩:=uq O E h;exact⟨Wx,b++d,f,l2.trans<|(eL _ g).trans l2⟩
def ja:List ai->Option (List ae)
 |[]=>Z []
 |.im s::I=>(ja I).map λu=>s::u
 |_::_=>Y
@[simp] def wN(I:List ai):ai:=match ja I with
 |some is=>.im (.tup is)
 |none=>.qb I
@[simp] def va(I:List ai):ai:=match ja I with
 |some is=>.lst is
 |none=>.jc I
theorem yJ{m:aG}:∀{I:List ai}{V7:List ar}{Wb:List aj}{is:List ae},eR m I V7 Wb->ja I=Z is->bT m is V7/\Wb=[]
 |[],_,_,_,c,e=>by cases e;exact c
 |.im s::I,_,_,_,c,e=>by
  let⟨v,u,g,@cf,rfl,@⟨A,rfl⟩,E,rfl⟩:=c;rw[ja]at e;let⟨@q,b,d⟩:=cU.mp e;cases d;let@⟨f,rfl⟩:=yJ E b;exact⟨⟨v,u,rfl,A,f⟩,rfl⟩
 |.dS::_,_,_,_,_,e=>by rw[ja]at e;cases e;all_goals (intro W a;cases a)
 |.c_ _::_,_,_,_,_,e=>by rw[ja]at e;cases e;all_goals (intro W a;cases a)
 |.lst _::_,_,_,_,_,e=>by rw[ja]at e;cases e;all_goals (intro W a;cases a)
 |.ee _::_,_,_,_,_,e=>by rw[ja]at e;cases e;all_goals (intro W a;cases a)
 |.aH _::_,_,_,_,_,e=>by rw[ja]at e;cases e;all_goals (intro W a;cases a)
 |.jc _::_,_,_,_,_,e=>by rw[ja]at e;cases e;all_goals (intro W a;cases a)
 |.qb _::_,_,_,_,_,e=>by rw[ja]at e;cases e;all_goals (intro W a;cases a)
@[simp] def cQ(L:aF (List bX)):aF ai:=λy=>(L y).bind λq=>(gr q.1 q.2).bind λp=>if p.1.length<=100000 then Z (wN p.1,p.2) else Y
@[simp] def eG(L:aF (List bX)):aF ai:=λy=>(L y).bind λq=>(gr q.1 q.2).bind λp=>if p.1.length<=100000 then Z (va p.1,p.2) else Y
def S1{I:List ai}{q:aj}(j:df m V6)(c:eR m I V7 Wb)(e:V6 q=Z (.tup V7)):∃a,c4 V6 (wN I) (.ref q) a/\a=Wb:=by
 unfold wN;split
 ·rename_i is S;let@⟨b,rfl⟩:=yJ c S;exact⟨[],⟨⟨q,V7,rfl,e,b.mono j.tupS.tup⟩,rfl⟩,rfl⟩
 ·exact⟨Wb,⟨q,V7,rfl,e,c.mono j.tupS λg W o p=>j g o p⟩,rfl⟩
def JY{I:List ai}{q:aj}(j:df m V6)(c:eR m I V7 Wb)(e:V6 q=Z (.lst V7)):c4 V6 (va I) (.ref q) (q::Wb):=by
 unfold va;split
 ·rename_i is S;let@⟨a,rfl⟩:=yJ c S;exact⟨q,V7,rfl,e,a.mono j.tupS.tup,rfl⟩
 ·exact⟨q,V7,Wb,rfl,e,c.mono j.tupS λg W o p=>j g o p,rfl⟩
def n1(c:r<=100000):r<=sizeLine:=fu c ∅
def bG.add{q:aj}{o:hq}(g:bG m N Wh P)(a:Wh q=Y)(h:∀f∈P,ht Wh f):bG m N (upd Wh q o) (P++[q]):=by
 have j:df Wh (upd Wh q o):=(df.refl Wh).upd a;have:=bG.new (Wb:=[]) (c:=[q]) (by rw[cO];exact g) j (e9 _ _) (λf b=>by rw[cM.mp b];exact a) h;exact this
def bG.same(g:bG m N Wh P)(j:df Wh Ws):bG m N Ws P:=
 ⟨λf o e a=>j _ _<|g.keep f o e a,g.sub,g.ao,g.tup.trans j.tupS,λf o e=>let ⟨M,b⟩:=g.grow f o e;⟨M,j _ _ b⟩⟩
section
variable{b:aR}
def iG{d}(c:gC b V_ L):cx b (.Tuple V_ d Wq) (cQ L):=by
 refine eQ (Ov c) λD m G f=>?_;let⟨y,N,u,@Wv,O,ao,h,p⟩:=f;let⟨@⟨Q,We⟩,A,E⟩:=bZ.mp h;let⟨@⟨I,WO⟩,i,a⟩:=bZ.mp E;refine⟨y,N,Q,We,O,ao,A,λV7 Wh Wx x k WC l=>?_⟩;let⟨WE,@cf,n,WG,WT⟩:=qp k WC i;split at a
 ·rename_i r;cases a;have s:V7.length<=100000:=by rw[<-WG.length];exact r
  refine⟨n1 s,λq t=>?_⟩;have j:df Wh (upd Wh q<|.tup V7):=(df.refl Wh).upd t;let⟨@v,w,rfl⟩:=S1 j WG fB;exact p _ _ WE v (n.mono j.tupS λg W o e=>j g o e) w ((l.mw WT.symm).same j)
 ·cases a
def gp(c:gC b V_ L):cx b (.List V_ Wq) (eG L):=by
 refine eQ (Nq c) λD m G k=>?_;let⟨y,N,u,@Wv,O,ao,l,p⟩:=k;let⟨@⟨Q,We⟩,A,E⟩:=bZ.mp l;let⟨@⟨I,WO⟩,n,d⟩:=bZ.mp E;refine⟨y,N,Q,We,O,ao,A,λV7 Wh Wx x r WC s=>?_⟩;let⟨WE,@cf,h,WG,WT⟩:=qp r WC n;split at d
 ·rename_i t;cases d;have v:V7.length<=100000:=by rw[<-WG.length];exact t
  refine⟨n1 v,λq i=>?_⟩;have j:df Wh (upd Wh q<|.lst V7):=(df.refl Wh).upd i;have w:=JY j WG (q:=q) fB;refine p _ _ WE (q::cf) (h.mono j.tupS λg W o e=>j g o e) w (((s.mw WT.symm).add i λf a=>?_).mw ?_)
  ·rcases dw.mp a with a|a
   ·exact h.chg f a
   ·exact WG.chg f a
  ·rw[bM];exact eL _ dW
 ·cases d
def ia(b:aR)(x:ag)(WV:List ai->Option ai):Prop:=(
 fl b x λw m G=>∃I s,n4 m I w/\WV I=Z s/\∀v V6 Wb,df m V6->c4 V6 s v Wb->Wb.Nodup->(∀g∈Wb,m g=Y)->G v V6)
@[simp] def bo(WV:List ai->Option ai)(L:aF (List bX)):aF ai:=λy=>(L y).bind λq=>(hr q.2 q.1).bind λI=>(WV I).map λs=>(s,q.2)
def Cj(c:dy (bo WV L) D m G):
  h_ L D m λw Wh=>∃I s,n4 Wh I w/\WV I=Z s/\∀v V6 Wb,df Wh V6->c4 V6 s v Wb->Wb.Nodup->(∀g∈Wb,Wh g=Y)->G v V6:=by
 let⟨y,N,u,@Wv,O,ao,d,p⟩:=c;let⟨@⟨Q,We⟩,A,E⟩:=bZ.mp d;let⟨@I,f,h⟩:=bZ.mp E;let⟨@s,i,j⟩:=cU.mp h;cases j;refine⟨y,N,Q,We,O,ao,A,λV7 Wh Wx q a WC k=>⟨I,_,WC.read a f,i,λv Ws Wb b WG l n=>?_⟩⟩;exact p v Ws Wx Wb (a.mono b.tupS λg W o e=>b g o e) WG (k.new b l n a.chg)
def OF{id:String}(a:ia b (.builtin id) WV)(d:e6 b f)(g:b.aE f=Y)(h:fy f=Z (.builtin id))(i:gC b (e::V_) L)(j:f ≠ "__name__" := by decide)(k:(f==("__debug__" : aI))=aw:=by decide)(l:b5 (e::V_) b.env=(aw,cE e b.env)::b5 V_ b.env:=by rfl)(m:(hj Wq<|b5 V_ b.env).any (·.1)=aw:=by rfl):
  cx b (.Call (.Name f q) (e::V_) [] Wq) (bo WV L):=eQ (HG a d g h i j k l m) λ_ W W c=>Cj c
def hp{F:String}(a:ia b (.type F) WV)(d:e6 b f)(g:b.aE f=Y)(h:fy f=Z (.type F))(i:gC b (e::V_) L)(j:f ≠ "__name__" := by decide)(k:(f==("__debug__" : aI))=aw:=by decide)(l:b5 (e::V_) b.env=(aw,cE e b.env)::b5 V_ b.env:=by rfl)(m:(hj Wq<|b5 V_ b.env).any (·.1)=aw:=by rfl):
  cx b (.Call (.Name f q) (e::V_) [] Wq) (bo WV L):=eQ (Uu a d g h i j k l m) λ_ W W c=>Cj c
abbrev dd:=List ai->Option (ai×List ai)
def k9(r:Nat)(z:dd):da:=(λV7 m G W=>V7.length=r/\∃I N u J,eR m I V7 N/\N.Nodup/\z I=Z (u,J)/\∀v V6 Wb a,c4 V6 u v Wb->eR V6 J V7 a->bG m N V6 (Wb++a)->G v V6)
@[simp] def a7(r:Nat)(z:dd)(L:aF (List bX)):aF ai:=λy=>(L y).bind λq=>if q.1.length=r then (gr q.1 q.2).bind λp=>(z p.1).map λu=>(u.1,jU q.1 u.2 p.2) else Y
theorem lL.length{m:aG}{D:a9}:∀{Q:List bX}{V7:List ar}{Wb:List aj},lL m D Q V7 Wb->Q.length=V7.length
 |[],_,_,c=>by rw[c.1];rfl
 |o::Q,_,_,c=>by
  let⟨v,u,a,@cf,rfl,A,E,rfl⟩:=c;rw[dm,dm,lL.length E]
def D5{z:dd}{Wa:ho}(c:dy (a7 r z L) D m G):yQ (k9 r z) [] Wa (h_ L) D m G:=by
 let⟨y,N,u,@Wv,O,ao,i,p⟩:=c;let⟨@⟨Q,We⟩,A,E⟩:=bZ.mp i;split at E
 ·rename_i j;let⟨@⟨I,WO⟩,k,l⟩:=bZ.mp E;let⟨@⟨W3,J⟩,n,q⟩:=cU.mp l;cases q;refine⟨y,N,Q,We,O,ao,A,λV7 Wh Wx T s WC t=>?_⟩;let⟨WE,cf,f,WG,WT⟩:=qp s WC k;have a:=t.mw (WT.symm.trans dW);rw[cO];refine⟨by rw[<-WC.length];exact j,I,cf,_,J,WG,(dD.mp a.ao).1,n,λv h Wb U w x b=>?_⟩;have B:=a.trans b f.chg;have C:∀g∈WE,g∉cf:=λg d F=>(dD.mp a.ao).2.2 g F g d rfl;have H:bP h WO D WE:=f.mono b.tup λg d o e=>b.keep g o e (C g d);let⟨M,@P,R,S⟩:=uq H WC x;refine p v h M Wb R w (B.less (aT:=P) ?_);refine List.Perm.trans ?_ dW;rw[bM];refine (eL _ dW).trans ?_;rw[<-bM];refine (gj _ S).trans ?_;rw[bM];exact eL _ dW
 ·cases E
variable{n:Nat}
def Ly{z:dd}{x:aj}(N:i8 b.prog b.w b.K b.aE b.base iV n x fd Wk (k9 r z))(a:fg n b.A)(d:e6 b f)(g:b.aE f=Z (.ref x))(h:Θ b.K (.ref x)=aa)(i:iU b.K fd Wk [])(j:gC b (e::V_) L)(k:(f==("__debug__" : aI))=aw:=by decide)(m:b5 (e::V_) b.env=(aw,cE e b.env)::b5 V_ b.env:=by rfl)(o:(hj Wq<|b5 V_ b.env).any (·.1)=aw:=by rfl):
  cx b (.Call (.Name f q) (e::V_) [] Wq) (a7 r z L):=eQ (PJ N a d g h i .nil Fu j k m o) λ_ V V c=>D5 c
inductive nW where
 | bf|eI (s:ai)|fM|ck
abbrev bJ:=bc->Option (nW×bc)
def eh(WK:List Nat)(D b:a9):Prop:=(b.length=D.length/\∀a∈WK,b[a]?=D[a]?)
def eh.refl:eh WK D D:=⟨rfl,λ_ W=>rfl⟩
def eh.trans{b:a9}(g:eh WK D Xn)(d:eh WK Xn b):eh WK D b:=⟨d.1.trans g.1,λa S=>(d.2 a S).trans<|g.2 a S⟩
def eh.set{i:Nat}{v:Option ar}(c:i∉WK):eh WK D (D.set i v):=⟨zU,λa S=>oA λe=>c (by rw[e];exact S)⟩
def rE(WK:List Nat)(Wa:oV)(D:a9)(m:aG)(N:List aj)(Wv:bc):nW->Prop
 |.bf=>∀a V6 WS,eh WK D a->bP V6 Wv a WS->bG m N V6 WS->Wa.bf a V6
 |.fM=>∀a V6 WS,eh WK D a->bP V6 Wv a WS->bG m N V6 WS->Wa.fM a V6
 |.ck=>∀a V6 WS,eh WK D a->bP V6 Wv a WS->bG m N V6 WS->Wa.ck a V6
 |.eI s=>∀v a V6 WS Wb,eh WK D a->bP V6 Wv a WS->c4 V6 s v Wb->bG m N V6 (WS++Wb)->Wa.eI v V6
def rl(WK:List Nat)(L:bJ):fW:=(λWa D m=>∃y N aW Wv,bP m y D N/\N.Nodup/\L y=Z (aW,Wv)/\rE WK Wa D m N Wv aW)
def jC(b:aR)(WK:List Nat)(O:cp)(L:bJ):Prop:=(∀ ⦃q⦄,CP b O (rl WK L) q)
def kx(b:aR)(WK:List Nat)(a:List cp)(L:bJ):Prop:=(∀ ⦃q⦄,C_ b a (rl WK L) q)
variable{WJ:fW}
def mF{B:fW}(c:jq b O B)(a:∀Wa D m,WJ Wa D m->B Wa D m):jq b O WJ:=λR j D m y H d=>c R j D m y H (a y D m d)
def IJ{O:List cp}{B:fW}(c:i4 b O B)(a:∀Wa D m,WJ Wa D m->B Wa D m):i4 b O WJ:=λR j D m y H d=>c R j D m y H (a y D m d)
def rE.on{aW:nW}(c:rE WK Wa D m N Wv aW)(W8:eh WK D Xn)(j:bG m N Wh Wx):rE WK Wa Xn Wh Wx Wv aW:=by
 cases aW with
 |bf=>exact λa V6 WS x O V9=>c a V6 WS (W8.trans x) O (j.seq V9)
 |fM=>exact λa V6 WS x O V9=>c a V6 WS (W8.trans x) O (j.seq V9)
 |ck=>exact λa V6 WS x O V9=>c a V6 WS (W8.trans x) O (j.seq V9)
 |eI s=>exact λv a V6 WS Wb x O WG V9=>c v a V6 WS Wb (W8.trans x) O WG (j.seq V9)
def ep:bJ:=(λy=>Z (.bf,y))
@[simp] def bj(L c:bJ):bJ:=λy=>(L y).bind λq=>match q.1 with
 |.bf=>c q.2
 |aW=>Z (aW,q.2)
def eN:kx b WK [] ep:=by
 refine IJ Ta λWa D m a=>?_;let⟨y,N,aW,@Wv,O,ao,c,p⟩:=a;cases c;exact p D m N eh.refl O (bG.perm ao<|List.Perm.refl _)
variable{L:bJ}
def bN(c:jC b WK O L):kx b WK [O] L:=So c
def Vr{c:bJ}(l:rl WK (bj L c) Wa D m):Fy (rl WK L) (rl WK c) Wa D m:=by
 let⟨y,N,aW,@Wv,O,ao,a,p⟩:=l;let⟨@⟨b,We⟩,A,E⟩:=bZ.mp a;cases b with
 |bf=>exact⟨y,N,.bf,We,O,ao,A,λe V6 WS W8 d j=>⟨We,WS,aW,Wv,d,j.ao,E,p.on W8 j⟩⟩
 |fM=>cases E;exact⟨y,N,.fM,We,O,ao,A,p⟩
 |ck=>cases E;exact⟨y,N,.ck,We,O,ao,A,p⟩
 |eI s=>cases E;exact⟨y,N,.eI s,We,O,ao,A,p⟩
def bC{a:List cp}{c:bJ}(A:jC b WK O L)(E:kx b WK a c):kx b WK (O::a) (bj L c):=IJ (NN A E) λ_ W W l=>Vr l
def Gh:bJ:=(λ_=>Y)
def VF:jC b WK O Gh:=mF PG λ_ _ _ ⟨_,_,_,_,_,_,c,_⟩=>by cases c
@[simp] def jd(L:aF ai):bJ:=λy=>(L y).map λq=>(.bf,q.2)
variable{L:aF ai}
def kS(c:cx b e L)(Wd:oD e Y Wq.line b.env=pure aw:=by rfl):jC b WK (.Expr e Wq) (jd L):=by
 refine mF (Ol c Wd) λWa D m a=>?_;let⟨y,N,aW,@Wv,O,ao,d,p⟩:=a;let⟨@⟨u,We⟩,A,E⟩:=cU.mp d;cases E;exact⟨y,N,u,_,O,ao,A,λv V6 WS Wb f WG j=>p D V6 WS eh.refl f<|j.less<|List.Perm.refl _⟩
@[simp] def cA(L:aF ai):bJ:=λy=>(L y).map λq=>(.eI q.1,q.2)
def cK(c:cx b e L):jC b WK (.Return (Z e) Wq) (cA L):=by
 refine mF (TF c) λWa D m a=>?_;let⟨y,N,aW,@Wv,O,ao,d,p⟩:=a;let⟨@⟨u,We⟩,A,E⟩:=cU.mp d;cases E;exact⟨y,N,u,_,O,ao,A,λv V6 WS Wb f WG j=>p v D V6 WS Wb eh.refl f WG j⟩
@[simp] def dJ(h:aF Bool)(g d:bJ):bJ:=λy=>(h y).bind λq=>if q.1=aa then g q.2 else d q.2
variable{W9:bJ}
def eA{g d:List cp}{Xc:bJ}(e:jv b h dq)(f:kx b WK g Xc)(i:kx b WK d W9):jC b WK (.If h g d Wq) (dJ dq Xc W9):=by
 refine mF (Od e f i) λWa D m j=>?_;let⟨y,N,aW,@Wv,O,ao,k,p⟩:=j;let⟨@⟨B,We⟩,A,E⟩:=bZ.mp k;refine⟨y,N,B,We,O,ao,A,λWh Wx c a=>?_⟩;cases B with
 |true=>
  rw[aJ rfl]at E ⊢;exact⟨We,Wx,aW,Wv,c,a.ao,E,p.on eh.refl a⟩
 |false=>
  rw[aP dz]at E ⊢;exact⟨We,Wx,aW,Wv,c,a.ao,E,p.on eh.refl a⟩
@[simp] def bV(a:Nat)(L:aF ai):bJ:=λy=>(L y).bind λq=>if a<q.2.length then Z (.bf,q.2.set a<|Z q.1) else Y
variable{a:Nat}
def jM{i:Pos}(c:b.N.Nodup)(S:b.N[a]?=Z f)(d:kT b.env.scope f)(g:cx b e L)(h:a∉WK)(Wd:oD e (Z<|.Name f i) Wq.line b.env=pure aw:=by rfl)(j:b.fn f=aa\/b.env.scope.names.lookup f=Z .local:=by first|exact .inl rfl|exact .inr rfl|assumption):jC b WK (.Assign [.Name f i] e Wq) (bV a L):=by
 refine mF (Ut c S d g Wd j) λWa D m k=>?_;let⟨y,N,aW,@Wv,O,ao,l,p⟩:=k;let⟨@⟨u,We⟩,A,E⟩:=bZ.mp l;split at E
 ·rename_i n;cases E;refine⟨y,N,u,_,O,ao,A,λv Wh Wx Wb o WG q=>?_⟩;let⟨WE,@cf,r,WT⟩:=o.put (a:=a) WG n;exact p _ Wh WE (eh.set h) r (q.less WT)
 ·cases E
abbrev gu:=ai->bc->Option bc
def x6(WK:List Nat)(L:gu):hl:=(λv D m G=>∃y N s Wb Wv,bP m y D N/\c4 m s v Wb/\(N++Wb).Nodup/\L s y=Z Wv/\∀a V6 WS,eh WK D a->bP V6 Wv a WS->bG m (N++Wb) V6 WS->G a V6)
def ix(b:aR)(WK:List Nat)(e:bF)(L:gu):Prop:=(∀ ⦃q⦄,JG b e (x6 WK L) q)
def xo{B WJ:hl}(c:ks b e B)(a:∀v D m G,WJ v D m G->B v D m G):ks b e WJ:=λR j D m f v G H u d=>c R j D m f v G H u (a f D m G d)
@[simp] def a0(a:Nat):gu:=λs y=>if a<y.length then Z (y.set a<|Z s) else Y
def qO(d:b.N.Nodup)(S:b.N[a]?=Z f)(e:kT b.env.scope f)(g:a∉WK)(h:b.fn f=aa\/b.env.scope.names.lookup f=Z .local:=by first|exact .inl rfl|exact .inr rfl|assumption):ix b WK (.Name f Wq) (a0 a):=by
 refine xo (N5 d S e h) λv D m G i=>?_;let⟨y,N,s,Wb,@Wv,O,WG,ao,c,p⟩:=i;unfold a0 at c;split at c
 ·rename_i j;cases c;let⟨WE,@cf,k,WT⟩:=O.put (a:=a) WG j;exact p _ m WE (eh.set g) k ((bG.perm ao<|List.Perm.refl _).less WT)
 ·cases c
def Sw(WK:List Nat)(L:List ai->bc->Option bc):kn:=(λV7 D m G=>∃y N I Wb Wv,bP m y D N/\eR m I V7 Wb/\(N++Wb).Nodup/\L I y=Z Wv/\∀a V6 WS,eh WK D a->bP V6 Wv a WS->bG m (N++Wb) V6 WS->G a V6)
def tg(b:aR)(WK:List Nat)(V_:List bF)(L:List ai->bc->Option bc):Prop:=(∀ ⦃q⦄,Eh b V_ (Sw WK L) q)
@[simp] def hM:List ai->bc->Option bc
 |[],y=>Z y
 |_,_=>Y
@[simp] def eu(L:gu)(c:List ai->bc->Option bc):List ai->bc->Option bc
 |s::I,y=>(L s y).bind (c I)
 |_,_=>Y
def Ec{B WJ:kn}(c:pn b V_ B)(a:∀v D m G,WJ v D m G->B v D m G):pn b V_ WJ:=λR j D m w V7 G H u d=>c R j D m w V7 G H u (a w D m G d)
def C3:tg b WK [] hM:=by
 refine Ec Lq λV7 D m G c=>?_;let⟨y,N,I,Wb,@Wv,O,WG,ao,a,p⟩:=c;cases I with
 |cons s I=>cases a
 |nil=>
  cases a;exact⟨WG.1,p D m N eh.refl O<|(bG.perm ao<|List.Perm.refl _).less<|List.Perm.refl _⟩
def uA{L:gu}(A:ix b WK e L)(E:tg b WK V_ c)(Wd:(f3 (e::V_) b.env).map (·.2)=jA e b.env::(f3 V_ b.env).map (·.2):=by rfl):tg b WK (e::V_) (eu L c):=by
 refine Ec (NS A E Wd) λV7 D m G r=>?_;let⟨y,N,I,Wb,@Wv,O,WG,ao,k,p⟩:=r;cases I with
 |nil=>cases k
 |cons s I=>
  let⟨v,u,h,@cf,rfl,t,l,rfl⟩:=WG;let⟨@We,w,x⟩:=bZ.mp (show (L s y).bind (c I)=Z Wv from k);have j:((N++h)++cf).Nodup:=by rw[bM];exact ao
  refine⟨v,u,rfl,y,N,s,h,We,O,t,(dD.mp j).1,w,λXn Wh Wx W8 z f=>?_⟩;have n:∀g∈cf,g∉N++h:=λg a i=>(dD.mp j).2.2 g i g a rfl;have B:eR Wh I u cf:=l.mono f.tup λg a o e=>f.keep g o e (n g a);have q:bG m (N++(h++cf)) Wh (Wx++cf):=by
   refine⟨λg o e a=>f.keep g o e λc=>a ?_,λg a=>?_,dD.mpr ⟨f.ao,(dD.mp j).2.1,λg a d i e=>?_⟩,f.tup,f.grow⟩
   ·rw[<-bM];exact ed _ c
   ·rcases dw.mp a with a|a
    ·rcases f.sub g a with c|c
     ·left;rw[<-bM];exact ed _ c
     ·exact .inr c
    ·left;rw[<-bM];exact ej _ a
   ·subst e;rcases f.sub g a with c|c
    ·exact n g i c
    ·let⟨@o,e,W⟩:=l.chg g i;rw[e]at c;cases c
  exact⟨We,Wx,I,cf,Wv,z,B,q.ao,x,λC Ws WE F H J=>p C Ws WE (W8.trans F) H<|q.seq J⟩
@[simp] def h5(r:Nat)(c:List ai->bc->Option bc):gu:=λs y=>match s with
 |.im (.tup is)=>if is.length=r then c (is.map .im) y else Y
 |.qb I=>if I.length=r then c I y else Y
 |_=>Y
theorem A3{m:aG}:∀{is:List ae}{V7:List ar},bT m is V7->eR m (is.map .im) V7 []
 |[],V7,c=>⟨c,rfl⟩
 |s::is,V7,c=>by
  let⟨v,@u,rfl,A,E⟩:=c;exact⟨v,u,[],[],rfl,⟨A,rfl⟩,A3 E,rfl⟩
def Pl(e:b.calm=aa)(Wd:tg b WK V_ c)(f:(f3 V_ b.env).length=r:=by rfl)(h:(f3 V_ b.env).findIdx? (·.1)=Y:=by rfl):ix b WK (.Tuple V_ n Wq) (h5 r c):=by
 refine xo (Lj e Wd f h) λv D m G i=>?_;let⟨y,N,s,Wb,@Wv,O,WG,ao,a,p⟩:=i;unfold h5 at a;split at a
 ·rename_i is;split at a
  ·rename_i d;let@⟨⟨g,@w,rfl,A,E⟩,rfl⟩:=WG;exact⟨g,w,rfl,cD.of A,by rw[<-E.length];exact d,y,N,_,[],Wv,O,A3 E,ao,a,p⟩
  ·cases a
 ·rename_i I;split at a
  ·rename_i d;let⟨g,@w,rfl,A,E⟩:=WG;exact⟨g,w,rfl,cD.of A,by rw[<-E.length];exact d,y,N,_,Wb,Wv,O,E,ao,a,p⟩
  ·cases a
 ·cases a
@[simp] def ih(L:aF ai)(c:gu):bJ:=λy=>(L y).bind λq=>(c q.1 q.2).map λWv=>(.bf,Wv)
def k0{c:gu}(d:cx b e L)(f:ix b WK WL c)(Wd:Ju [WL] e Wq.line b.env=pure aw:=by rfl)(g:B2 [WL] e b.env=pure Y:=by rfl)(A:(f3 [WL] b.env).map (·.2)=[jA WL b.env]:=by rfl):jC b WK (.Assign [WL] e Wq) (ih L c):=by
 refine mF (MQ d f Wd g A) λWa D m h=>?_;let⟨y,N,aW,@Wv,O,ao,i,p⟩:=h;let⟨@⟨u,We⟩,g1,g2⟩:=bZ.mp i;let⟨@WO,j,k⟩:=cU.mp g2;cases k;exact⟨y,N,u,We,O,ao,g1,λv Wh Wx Wb l WG a=>⟨We,Wx,u,Wb,_,l,WG,a.ao,j,λn V6 WS W8 o q=>p n V6 WS W8 o<|a.seq q⟩⟩
def jn(h:aF Bool)(d:bJ):Nat->bJ
 |0=>λ_=>Y
 |r+1=>λy=>(h y).bind λq=>if q.1=aa then (d q.2).bind λp=>match p.1 with
  |.bf=>jn h d r p.2
  |.ck=>jn h d r p.2
  |.fM=>Z (.bf,p.2)
  |.eI s=>Z (.eI s,p.2) else Z (.bf,q.2)
def qC(r:Nat)(q:sl (aV b.prog b.w) b.A b.env b.dc)(t:jv b h dq)(u:kx b WK Xl W9):jC b WK (.While h Xl [] Wq) (jn dq W9 r):=by
 refine mF (TN q t u) λWa D m z=>?_;let⟨y,N,aW,@Wv,O,ao,C,p⟩:=z;refine⟨λk a V6=>∃g WS,bP V6 g a WS/\eh WK D a/\bG m N V6 WS/\jn dq W9 k g=Z (aW,Wv),⟨r,y,N,O,eh.refl,bG.perm ao<|List.Perm.refl _,C⟩,?_⟩;rintro k Xn Wh ⟨We,Wx,E,i,e,l⟩;cases k with
 |zero=>cases l
 |succ k=>
  rw[jn]at l;let⟨@⟨B,WO⟩,G,j⟩:=bZ.mp l;refine⟨We,Wx,B,WO,E,e.ao,G,λWs WE o f=>?_⟩;cases B with
  |false=>
   rw[aP dz]at j ⊢;cases j;exact p Xn Ws WE i o (e.seq f)
  |true=>
   rw[aJ rfl]at j ⊢;let⟨@⟨x,F⟩,H,n⟩:=bZ.mp j;refine⟨λa V6=>∃g WS,bP V6 g a WS/\eh WK D a/\bG m N V6 WS/\jn dq W9 k g=Z (aW,Wv),λa V6 c=>⟨k,pL k,c⟩,WO,WE,x,F,o,f.ao,H,?_⟩;cases x with
   |bf=>exact λa V6 WS W8 d V9=>⟨F,WS,d,i.trans W8,(e.seq f).seq V9,n⟩
   |ck=>exact λa V6 WS W8 d V9=>⟨F,WS,d,i.trans W8,(e.seq f).seq V9,n⟩
   |fM=>
    cases n;exact λa V6 WS W8 d V9=>p a V6 WS (i.trans W8) d ((e.seq f).seq V9)
   |eI s=>
    cases n;exact λv a V6 WS Wb W8 d WG V9=>p v a V6 WS Wb (i.trans W8) d WG ((e.seq f).seq V9)
structure n6(Xg:gc)(m:aG)(Wb:List aj)(I:List ae):Prop where
 go:∀V6,ha m V6->(∀g∈Wb,∀o,m g=Z o->V6 g=Z o)->∀(a:Nat) (s:ae),I[a]?=Z s->Xg.go a V6/\∀f Am,Xg.tJ a V6 f Am->df V6 Am/\cR Am s f
 stop:∀V6,ha m V6->(∀g∈Wb,∀o,m g=Z o->V6 g=Z o)->Xg.stop I.length V6
def tj(m:aG)(D:a9)(Wb:List aj):Option (Nat×ai)->Prop
 |none=>True
 |some (a,s)=>∃v,D[a]?=Z (Z v)/\c4 m s v Wb
def y9(L:aF (List ae×Option (Nat×ai))):dM:=(λD m a=>∃y N u Wv,bP m y D N/\N.Nodup/\L y=Z (u,Wv)/\∀Xg V6 WS Wb,bP V6 Wv D WS->n6 Xg V6 Wb u.1->tj V6 D Wb u.2->(∀g∈Wb,ht V6 g)->bG m N V6 (WS++Wb)->a Xg V6)
def nh(b:aR)(WL Xb:bF)(L:aF (List ae×Option (Nat×ai))):Prop:=(∀ ⦃q⦄,Hh b WL Xb (y9 L) q)
def AQ{B WJ:dM}(c:lX b WL Xb B)(a:∀D m Wb,WJ D m Wb->B D m Wb):lX b WL Xb WJ:=λR j D m Wb H d=>c R j D m Wb H (a D m Wb d)
def d5(WL:gu)(d:bJ):List ae->bJ
 |[]=>λy=>Z (.bf,y)
 |f::u=>λy=>(WL (.im f) y).bind λWe=>(d We).bind λp=>match p.1 with
  |.bf=>d5 WL d u p.2
  |.ck=>d5 WL d u p.2
  |.fM=>Z (.bf,p.2)
  |.eI s=>Z (.eI s,p.2)
@[simp] def m8:Option (Nat×ai)->bc->bc
 |none,y=>y
 |some (a,s),y=>match y[a]? with
  |some (Z .dS)=>y.set a (Z s)
  |_=>y
@[simp] def gh(L:aF (List ae×Option (Nat×ai)))(WL:gu)(d:bJ):bJ:=λy=>(L y).bind λq=>(d5 WL d q.1.1 q.2).map λp=>(p.1,m8 q.1.2 p.2)
def y4{o:Option (Nat×ai)}(O:bP m y D N)(c:tj m D Wb o):∃Wx z,bP m (m8 o y) D Wx/\(Wx++z).Perm (N++Wb):=by
 cases o with
 |none=>exact⟨N,Wb,O,List.Perm.refl _⟩
 |some q=>
  let⟨a,s⟩:=q;let⟨@v,A,E⟩:=c;unfold m8;dsimp only;split
  ·exact O.back E A
  ·exact⟨N,Wb,O,List.Perm.refl _⟩
def ow(W8:List Nat):Option (Nat×ai)->Prop
 |none=>True
 |some (a,_)=>a∈W8
def Pr{L:aF (List ae×Option (Nat×ai))}{C:gu}(he:sl (aV b.prog b.w) b.A b.env b.dc)(hf:b.calm=aa)(S:nh b WL Xb L)(hm:ix b W8 WL C)(hw:kx b W8 Xl W9)(cr:∀a∈WK,a∈W8)(Wd:∀y u Wv,L y=Z (u,Wv)->ow W8 u.2)(cs:jq b (.For WL Xb Xl [] Wq) (Io (y9 L) (x6 W8 C)<|rl W8 W9)):jC b WK (.For WL Xb Xl [] Wq) (gh L C W9):=by
 refine mF cs λWa D m db=>?_;let⟨y,N,aW,@Wv,O,ao,ds,p⟩:=db;let⟨@⟨⟨I,o⟩,We⟩,A,E⟩:=bZ.mp ds;let⟨@⟨x,WO⟩,dL,eq⟩:=cU.mp E;cases eq;refine⟨y,N,(I,o),We,O,ao,A,λXg Wh Wx Wb ev it ex be am=>?_⟩;have fd:ow W8 o:=Wd y _ _ A;have bi:=dD.mp am.ao;have an:∀{Ws:aG}{WE:List aj},bG Wh Wx Ws WE->∀g∈Wb,∀J,Wh g=Z J->Ws g=Z J:=λj g fn J e=>j.keep g J e λc=>bi.2.2 g c g fn rfl;have bm:∀{Ws:aG}{WE:List aj}{d:a9},bG Wh Wx Ws WE->eh W8 D d->tj Ws d Wb o:=λ{Ws WE d} j x=>by
  cases o with
  |none=>trivial
  |some q=>
   let⟨a,s⟩:=q;let⟨@v,fr,f0⟩:=ex;exact⟨v,(x.2 a fd).trans fr,f0.mono j.tup<|an j⟩
 have bn:∀{d:a9},eh W8 D d->eh WK D d:=λx=>⟨x.1,λa S=>x.2 a<|cr a S⟩;have bs:∀{d:a9}{Ws:aG}{WE:List aj}{WO:bc},rE WK Wa D m N (m8 o WO) .bf->eh W8 D d->bP Ws WO d WE->bG Wh Wx Ws WE->Wa.bf d Ws:=λ{d Ws WE WO} p x ap t=>by
  let⟨M,@z,as,WT⟩:=y4 ap (bm t x);exact p d Ws M (bn x) as ((am.trans t be).less WT)
 refine⟨λa k a1 V6=>k+a=I.length/\∃h WS,eh W8 D a1/\bP V6 h a1 WS/\bG Wh Wx V6 WS/\d5 C W9 (I.drop a) h=Z (x,WO),⟨I.length,rfl,We,Wx,eh.refl,ev,bG.perm bi.1<|List.Perm.refl _,dL⟩,?_⟩;rintro a k a1 V6 ⟨h0,h,WS,B,bv,V9,Q⟩;by_cases ca:a<I.length
 ·let@⟨f1,f2⟩:=it.go V6 V9.tup (an V9) a I[a] (by simp[ca]);rw[kr ca,d5]at Q;let⟨@F,f4,f8⟩:=bZ.mp Q;let⟨@⟨cd,a2⟩,ga,R⟩:=bZ.mp f8;refine .inr ⟨f1,λd Ws=>(k-1)+(a+1)=I.length/\∃h WS,eh W8 D d/\bP Ws h d WS/\bG Wh Wx Ws WS/\d5 C W9 (I.drop<|a+1) h=Z (x,WO),λd Ws c=>⟨k-1,⋯,c⟩,λf Ws ge=>?_⟩;let@⟨bd,gl⟩:=f2 f Ws ge;have ap:=bv.mono bd.tupS λg W o e=>bd g o e;have t:=V9.same bd;refine⟨h,WS,.im I[a],[],F,ap,⟨gl,rfl⟩,by rw[cO];exact t.ao,f4,λii gt M T as ce=>?_⟩;have G:bG Wh Wx gt M:=t.seq (by rw[cO]at ce;exact ce);refine⟨F,M,cd,a2,as,G.ao,ga,?_⟩;cases cd with
  |bf=>exact λU al H i n r=>⟨⋯,a2,H,(B.trans T).trans i,n,G.seq r,R⟩
  |ck=>exact λU al H i n r=>⟨⋯,a2,H,(B.trans T).trans i,n,G.seq r,R⟩
  |fM=>
   cases R;exact λU al H i n r=>bs p ((B.trans T).trans i) n (G.seq r)
  |eI s=>
   cases R;intro v U al H ch i n g1 r;have ci:=G.seq r;have cl:=(B.trans T).trans i;let⟨co,@g2,g3,hd⟩:=y4 (Wb:=Wb) n (bm ci cl);refine p v U al co ch (bn cl) g3 g1 ((am.trans ci be).less (aT:=g2) ?_);rw[bM];refine (eL co dW).trans ?_;rw[<-bM];refine (gj ch hd).trans ?_;rw[bM,bM];exact eL _ dW
 ·have S:a=I.length:=⋯
  subst S;refine .inl ⟨it.stop V6 V9.tup<|an V9,?_⟩;rw[og (bb _)]at Q;cases Q;exact bs p B bv V9
end
section
variable{b:aR}
variable{C:gu}
def jB{L:aF (List ae×Option (Nat×ai))}{W9:bJ}(c:sl (aV b.prog b.w) b.A b.env b.dc)(d:b.calm=aa)(S:nh b WL Xb L)(e:ix b W8 WL C)(g:kx b W8 Xl W9)(h:∀a∈WK,a∈W8)(Wd:∀y u Wv,L y=Z (u,Wv)->ow W8 u.2)(i:∀f,nk Xb b.env f=pure f:=by intro W;rfl):jC b WK (.For WL Xb Xl [] Wq) (gh L C W9):=
 Pr c d S e g h Wd (Uc c d S e g i)
def QK(V8:Φ)(Xm:cj):dM:=(λD m Wb=>Xm D m λf Wh=>∃g,f=.ref g/\(((∃w,dC V8 Wh g w)/\Wb (sd V8 g) Wh)\/((∃w,cD V8 Wh g w)/\Wb (vJ V8 g) Wh)))
variable{t:bF}
def SM{Xm:cj}(l:bU b t Xm):lX b WL t (QK b.K Xm):=by
 intro R j D m Wb H c;refine b6 (l R j D m _ H c) λv a n=>?_;let⟨f,@Wh,h,r,s⟩:=n;let⟨@g,e,p⟩:=s;subst e;cases r;rcases p with ⟨⟨w,i⟩,p⟩|⟨⟨w,i⟩,p⟩
 ·let⟨@Wl,u,q,x⟩:=h.list i;refine tr q.isList ?_;refine⟨a.heap.objs.size,[a.heap.objs.size],_,_,Wh,rfl,h.kept (WJ:=a.toks) λd o e=>cv _ e,U7 g _,⟨_,d4 _ rfl,rfl,rfl⟩,λd k=>?_,p⟩;have e:d=a.heap.objs.size:=by simpa using k
  subst e;exact h.we (bb _) (h.bg.fresh<|bb _)
 ·let⟨@Wl,u,q,x⟩:=h.tuple i;refine wpAny_pyIter_tuple (show a.heap.IsTuple g Wl.toArray from q) ?_;refine⟨a.heap.objs.size,[a.heap.objs.size],_,_,Wh,rfl,h.kept (WJ:=a.toks) λd o e=>cv _ e,PV g _,⟨_,d4 _ rfl,rfl,rfl⟩,λd k=>?_,p⟩;have e:d=a.heap.objs.size:=by simpa using k
  subst e;exact h.we (bb _) (h.bg.fresh<|bb _)
theorem bT.get{m:aG}:∀{I:List ae}{V7:List ar}{a:Nat}{s:ae},bT m I V7->I[a]?=Z s->∃v,V7[a]?=Z v/\cR m s v
 |[],_,_,_,_,e=>by simp at e
 |s::I,_,0,_,c,e=>by
  let⟨v,@u,rfl,A,E⟩:=c;simp at e;subst e;exact⟨v,rfl,A⟩
 |s::I,_,a+1,_,c,e=>by
  let⟨v,@u,rfl,A,E⟩:=c;let⟨@J,b,d⟩:=bT.get (a:=a) E ⇑e;exact⟨J,by simpa using b,d⟩
variable{g:aj}
theorem QP(c:m g=Z (.lst w))(hd:bT m I w):n6 (sd V8 g) m [g] I where
 go:=λV6 B n a s e=>by
  let⟨@v,b,d⟩:=hd.get e;have U:=dC.of (V8:=V8) (n g (.head _) _ c);refine⟨⟨w,v,U,b⟩,λf j ⟨h,i⟩=>?_⟩;subst h;rw[i w U]at b;cases b;exact⟨df.refl _,d.mono B.tup⟩
 stop:=λV6 B n=>⟨w,dC.of<|n g (.head _) _ c,by rw[<-hd.length];exact bb _⟩
theorem UB{o:bk}(c:m g=Z (.eF o<|.lst w))(hd:bT m I w):n6 (sd V8 g) m [] I where
 go:=λV6 B n a s e=>by
  let⟨@v,b,d⟩:=hd.get e;have U:dC V8 V6 g w:=.inl (.inr ⟨o,B.eF _ _ _ c⟩);refine⟨⟨w,v,U,b⟩,λf j ⟨h,i⟩=>?_⟩;subst h;rw[i w U]at b;cases b;exact⟨df.refl _,d.mono B.tup⟩
 stop:=λV6 B n=>⟨w,.inl<|.inr ⟨o,B.eF _ _ _ c⟩,by rw[<-hd.length];exact bb _⟩
theorem Q4(c:m g=Z (.tup w))(hd:bT m I w):n6 (vJ V8 g) m [] I where
 go:=λV6 B n a s e=>by
  let⟨@v,b,d⟩:=hd.get e;have U:=cD.of (V8:=V8) (B.tup g _ c);refine⟨⟨w,v,U,b⟩,λf j ⟨h,i⟩=>?_⟩;subst h;rw[i w U]at b;cases b;exact⟨df.refl _,d.mono B.tup⟩
 stop:=λV6 B n=>⟨w,cD.of<|B.tup g _ c,by rw[<-hd.length];exact bb _⟩
abbrev kZ:=aF (List ae×Option (Nat×ai))
@[simp] def kq(s:ai):Option (List ae):=match s with
 |.im (.tup I)=>Z I
 |.lst I=>Z I
 |.c_ I=>Z I
 |_=>Y
@[simp] def b2(L:aF bX):kZ:=λy=>(L y).bind λq=>match q.1 with
 |.cC s=>(kq s).map λI=>((I,Y),q.2)
 |.aO a=>(d2 a q.2).bind λp=>(kq p.1).map λI=>((I,if p.1.fm=aa then Y else Z (a,p.1)),p.2)
def JL(l:c4 m s v Wb)(e:kq s=Z I):
  ∃g,v=.ref g/\(((∃w,dC V8 m g w)/\n6 (sd V8 g) m Wb I)\/((∃w,cD V8 m g w)/\n6 (vJ V8 g) m Wb I)):=by
 unfold kq at e;split at e
 ·cases e;let@⟨⟨g,@w,rfl,A,E⟩,rfl⟩:=l;exact⟨g,rfl,.inr ⟨⟨w,cD.of A⟩,Q4 A E⟩⟩
 ·cases e;let⟨g,@w,rfl,A,E,rfl⟩:=l;exact⟨g,rfl,.inl ⟨⟨w,dC.of A⟩,QP A E⟩⟩
 ·cases e;let⟨g,w,@o,rfl,A,E,rfl⟩:=l;exact⟨g,rfl,.inl ⟨⟨w,.inl<|.inr ⟨o,A⟩⟩,UB A E⟩⟩
 ·cases e
def es{L:aF bX}(c:dX b t L):nh b WL t (b2 L):=by
 refine AQ (SM c) λD m F w=>?_;let⟨y,N,u,@Wv,O,ao,x,p⟩:=w;let⟨@⟨f,We⟩,A,E⟩:=bZ.mp x;refine⟨y,N,f,We,O,ao,A,λv Wh Wx Wb i WC e=>?_⟩;cases f with
 |cC s=>
  let⟨@I,j,k⟩:=cU.mp E;cases k;let⟨@g,rfl,l⟩:=JL (V8:=b.K) WC j;refine⟨g,rfl,?_⟩;rcases l with ⟨d,it⟩|⟨d,it⟩
  ·exact .inl ⟨d,p _ Wh Wx Wb i it trivial (c4.chg WC) e⟩
  ·exact .inr ⟨d,p _ Wh Wx Wb i it trivial (c4.chg WC) e⟩
 |aO a=>
  let⟨@⟨s,WO⟩,j,k⟩:=bZ.mp E;let⟨@I,z,B⟩:=cU.mp k;cases B;let⟨G,WE,@cf,n,h,o,C⟩:=Cr i j;let@⟨WC,rfl⟩:=WC;rw[WC]at n;cases n;rw[cO]at e;have q:=e.mw C.symm;let⟨@g,rfl,l⟩:=JL (V8:=b.K) h z;have r:tj Wh D cf (if s.fm=aa then Y else Z (a,s)):=by
   split
   ·trivial
   ·exact⟨_,WC,h⟩
  refine⟨g,rfl,?_⟩;rcases l with ⟨d,it⟩|⟨d,it⟩
  ·exact .inl ⟨d,p _ Wh WE cf o it r h.chg q⟩
  ·exact .inr ⟨d,p _ Wh WE cf o it r h.chg q⟩
def r_{L:aF ai}:∀y u Wv,b2 (af L) y=Z (u,Wv)->ow W8 u.2:=by
 intro y u Wv c;let⟨@⟨f,We⟩,A,E⟩:=bZ.mp c;unfold af at A;let⟨@q,d,a⟩:=cU.mp A;cases a;let⟨@I,e,b⟩:=cU.mp E;cases b
 trivial
variable{a:Nat}
def q_(S:a∈W8):∀y u Wv,b2 (ab a) y=Z (u,Wv)->ow W8 u.2:=by
 intro y u Wv c;let⟨@⟨f,We⟩,A,E⟩:=bZ.mp c;unfold ab at A;split at A
 ·cases A;let⟨@⟨s,WO⟩,e,b⟩:=bZ.mp E;let⟨@I,g,d⟩:=cU.mp b;cases d;show ow W8 (if s.fm=aa then Y else Z (a,s));split
  ·trivial
  ·exact S
 ·cases A
def hb(M:Int)(r:Nat):List ae:=((range r).map λ(n:Nat)=>ae.int (M+(n:Int)))
theorem QC{M:Int}:n6 (xk M r) m [] (hb M r) where
 go:=λV6 B n a s e=>by
  have S:a<r:=by
   have:=(gk.mp e).1
   rwa [hb,aZ,hR]at this
  refine⟨S,λf d ⟨b,c⟩=>?_⟩;subst b;rw[hb,fp,List.getElem?_range S]at e;cases e;exact⟨df.refl _,c⟩
 stop:=λV6 B n=>by
  show r<=_;rw[hb,aZ,hR];exact bb _
def oi(a:Int):Prop :=( -1000000<=a/\a<=1000000)
noncomputable instance (a:Int):Decidable (oi a):=inferInstanceAs (Decidable<|_/\_)
@[simp] def ip(L:aF (List bX)):kZ:=λy=>(L y).bind λq=>(hr q.2 q.1).bind λI=>match I with
 |[.im (.int i)]=>if oi i then Z ((hb 0 i.toNat,Y),q.2) else Y
 |_=>Y
def DS{s:ae}(c:n4 m [.im s] V7):∃v,V7=[v]/\cR m s v:=by
 let⟨v,@u,rfl,⟨@Wb,A,W⟩,E⟩:=c;cases (show u=[] from E);exact⟨v,rfl,A⟩
def Bu{s e:ae}(c:n4 m [.im s,.im e] V7):∃v J,V7=[v,J]/\cR m s v/\cR m e J:=by
 let⟨v,@u,rfl,⟨@Wb,A,W⟩,E⟩:=c;let⟨@J,rfl,a⟩:=DS E;exact⟨v,J,rfl,A,a⟩
def rz{g:bF}(h:e6 b "range")(j:b.aE "range" = Y)(c:gC b [g] L)(Wd:b5 [g] b.env=[(aw,cE g b.env)]:=by rfl):nh b WL (.Call (.Name "range" q) [g] [] Wq) (ip L):=by
 refine AQ (PI h j c Wd) λD m s k=>?_;let⟨y,N,u,@Wv,O,ao,l,p⟩:=k;let⟨@⟨Q,We⟩,A,E⟩:=bZ.mp l;let⟨@I,n,a⟩:=bZ.mp E;refine⟨y,N,Q,We,O,ao,A,λV7 Wh Wx t d WC o=>?_⟩;have r:=WC.read d n;split at a
 ·rename_i i;split at a
  ·rename_i f;cases a;let⟨@v,rfl,e⟩:=DS r;cases (show v=.int i from e);exact⟨i,rfl,by have:=f.1;lia,by have:=f.2;lia,p _ Wh Wx [] d QC trivial (λg c=>nomatch c) (by rw[cO];exact o.less (List.Perm.refl _))⟩
  ·cases a
 ·cases a
def Bd:∀y u Wv,ip L y=Z (u,Wv)->ow W8 u.2:=by
 intro y u Wv c;let⟨@⟨Q,We⟩,A,E⟩:=bZ.mp c;let⟨@I,b,a⟩:=bZ.mp E;split at a
 ·split at a
  ·cases a;trivial
  ·cases a
 ·cases a
def vU(b:aR)(T:List bF)(L:aF Bool):Prop:=(∀ ⦃q⦄,DL b T (kC L) q)
def cB:aF Bool:=(λy=>Z (aa,y))
def yh:vU b [] cB:=by
 intro R j D m G H a;let⟨y,N,d,@Wv,O,ao,c,p⟩:=a;cases c;exact M_ R j D m G H (p m N O<|bG.perm ao<|List.Perm.refl _)
def qJ{L:aF Bool}(c:jv b h L):vU b [h] L:=RF c
@[simp] def kN(WH:List Nat)(y:bc):bc:=WH.map λa=>y.getD a Y
def lY:List Nat->bc->bc
 |[],y=>y
 |a::u,y=>lY u (match y[a]? with|some (Z _)=>y.set a (Z .dS)|_=>y)
@[simp] def j5:List Nat->bc->bc->bc
 |a::u,o::aT,y=>j5 u aT (y.set a o)
 |_,_,y=>y
def h8(own:Nat)(WL:gu)(h:aF Bool)(e:aF ai): List ae -> List ae -> bc -> Option (List ae × bc)
  |[],a,aT => Z (a,aT)
  |f :: u,a,aT => (WL (.im f)<|List.replicate own Y ++ aT).bind λWe => (h We).bind λq => if q.1=aa then (e q.2).bind λp => match p.1 with
      |.im s => if a.length<100000 then h8 own WL h e u (a ++ [s]) (p.2.drop own) else Y
      |_ => Y
    else h8 own WL h e u a (q.2.drop own)
@[simp] def b4(own:Nat)(WH:List Nat)(H:kZ)(WL:gu)(h:aF Bool)(e:aF ai):aF ai:=λy=>(H y).bind λq=>(h8 own WL h e q.1.1 []<|kN WH q.2).map λp=>(.lst p.1,m8 q.1.2<|j5 WH p.2 q.2)
def ql(own r:Nat):List Nat:=((range r).map (·+own))
def SY(c:y[a]?=Z o):y.getD a Y=o:=by rw[cP,c];rfl
def bP.void(O:bP m y D N)(a:Nat):∃Wx WE,bP m (match y[a]? with|some (Z _)=>y.set a (Z .dS)|_=>y) D Wx/\nB m (y.getD a Y) (D.getD a Y) WE/\(Wx++WE).Perm N:=by
 split
 ·rename_i s hd;let⟨v,Wx,@WE,A,E,b,c⟩:=O.out hd;refine⟨WE,Wx,b,?_,c⟩;rw[SY hd,cP,A];exact⟨v,rfl,E⟩
 ·rename_i d;refine⟨N,[],O,?_,by rw[cO]⟩;have:y.getD a Y=Y:=by
   rw[cP];cases e:y[a]? with
   |none=>rfl
   |some o=>
    cases o with
    |none=>rfl
    |some s=>exact absurd e (d s)
  rw[this];exact rfl
theorem C9{m:aG}{D:a9}:∀{WH:List Nat}{y:bc}{N:List aj},WH.Nodup->bP m y D N->∃Wx WE,bP m (lY WH y) D Wx/\bP m (kN WH y) (WH.map λa=>D.getD a Y) WE/\(Wx++WE).Perm N
 |[],y,N,_,O=>⟨N,[],O,⟨rfl,rfl⟩,by rw[cO]⟩
 |a::u,y,N,ao,O=>by
  let⟨Wx,@WE,A,E,f⟩:=O.void a;have b:=iw.mp ao;let⟨g,@c,h,d,j⟩:=C9 (WH:=u) b.2 A;refine⟨g,WE++c,h,⟨_,_,WE,c,rfl,E,?_,rfl⟩,l2.trans<|(eL _ j).trans<|dW.trans f⟩;have e:kN u (match y[a]? with|some (Z _)=>y.set a (Z .dS)|_=>y)=kN u y:=by
   unfold kN;refine k_ λi k=>?_;split
   ·rw[cP,cP,oA];rintro rfl;exact b.1 k
   ·rfl
  rw[e]at d;exact d
def bP.Qh(O:bP m y D N)(c:nB m o (D.getD a Y) z):∃Wx WE,bP m (y.set a o) D Wx/\(Wx++WE).Perm (N++z):=by
 cases o with
 |some s=>
  let⟨@v,e,l⟩:=c;refine O.back l ?_;rw[cP]at e;cases p:D[a]? with
  |none=>rw[p]at e;cases e
  |some f=>rw[p]at e;rw[show f=Z v from e]
 |none=>
  cases (show z=[] from c);rw[cO];by_cases S:a<y.length
  ·cases p:y[a]? with
   |none=>exact absurd (List.getElem?_eq_none_iff.mp p) ⋯
   |some f=>
    cases f with
    |none=>
     refine⟨N,[],?_,by rw[cO]⟩;have:y.set a Y=y:=by
      refine qj λi=>?_;by_cases e:a=i
      ·subst e;rw[p,xb S]
      ·rw[oA e]
     rw[this];exact O
    |some s=>
     let⟨v,Wx,@WE,A,E,k,n⟩:=O.out p;have gen:∀{y:bc}{D:a9}{N:List aj}{a:Nat},bP m y D N->∃Wx WE,bP m (y.set a Y) D Wx/\(Wx++WE).Perm N:=by
      intro y;induction y with
      |nil=>intro D N a O;exact⟨N,[],by simpa using O,by rw[cO]⟩
      |cons o y d=>
       intro D N a O;let⟨f,u,P,@WA,rfl,g,b,rfl⟩:=O;cases a with
       |zero=>exact⟨WA,P,⟨f,u,[],WA,rfl,rfl,b,rfl⟩,dW⟩
       |succ a=>
        let⟨aT,@Wa,h,j⟩:=d (a:=a) b;refine⟨P++aT,Wa,⟨f,u,P,aT,rfl,g,h,rfl⟩,?_⟩;rw[bM];exact eL _ j
     exact gen O
  ·refine⟨N,[],?_,by rw[cO]⟩;rw[List.set_eq_of_length_le ⋯];exact O
theorem GX{m:aG}{D:a9}:∀{WH:List Nat}{aT y:bc}{N z:List aj},bP m y D N->bP m aT (WH.map λa=>D.getD a Y) z->∃Wx WE,bP m (j5 WH aT y) D Wx/\(Wx++WE).Perm (N++z)
 |[],aT,y,N,z,O,_=>⟨N,z,by cases aT<;>exact O,List.Perm.refl _⟩
 |a::u,[],y,N,z,O,c=>⟨N,z,O,List.Perm.refl _⟩
 |a::u,o::aT,y,N,z,O,c=>by
  let⟨f,B,g,@h,e,A,E,rfl⟩:=c;cases e;let⟨Wx,@P,b,d⟩:=O.Qh A;let⟨WE,@WA,WD,WR⟩:=GX (WH:=u) (aT:=aT) b E;refine⟨WE,WA++P,WD,?_⟩;rw[<-bM,<-bM];refine (gj P WR).trans ?_;rw[bM];refine (eL Wx dW).trans ?_;rw[<-bM];exact gj _ d
def TX:∀{WH:List Nat}{aT y:bc},WH.length=aT.length->WH.Nodup->j5 WH aT (lY WH y)=j5 WH aT y:=by
 have m:∀{u:List Nat}{aT y:bc}{a:Nat}{o:Option ai},a∉u->j5 u aT (y.set a o)=(j5 u aT y).set a o:=by
  intro u;induction u with
  |nil=>intro aT y a o W;cases aT<;>rfl
  |cons i u b=>
   intro aT y a o c;cases aT with
   |nil=>rfl
   |cons h aT=>
    have g:a≠i:=λe=>c (by rw[e];exact .head _);show j5 u aT ((y.set a o).set i h)=(j5 u aT<|y.set i h).set a o;rw[DU _ _ g,b λd=>c<|.tail _ d]
 have j:∀{u:List Nat}{y:bc}{a:Nat}{o:Option ai},a∉u->lY u (y.set a o)=(lY u y).set a o:=by
  intro u;induction u with
  |nil=>intro y a o W;rfl
  |cons i u b=>
   intro y a o c;have g:a≠i:=λe=>c (by rw[e];exact .head _);show lY u (match (y.set a o)[i]? with|some (Z _)=>(y.set a o).set i (Z .dS)|_=>y.set a o)=(lY u (match y[i]? with|some (Z _)=>y.set i (Z .dS)|_=>y)).set a o;rw[oA g];cases y[i]? with
   |none=>exact b λd=>c (.tail _ d)
   |some p=>
    cases p with
    |none=>exact b λd=>c (.tail _ d)
    |some s=>
     show lY u ((y.set a o).set i<|Z .dS)=_;rw[DU _ _ g];exact b λd=>c (.tail _ d)
 intro WH;induction WH with
 |nil=>intro aT y W W;cases aT<;>rfl
 |cons a u b=>
  intro aT y k ao;have f:=iw.mp ao;cases aT with
  |nil=>cases k
  |cons h aT=>
   have l:u.length=aT.length:=by simpa using k
   show j5 u aT ((lY u (match y[a]? with|some (Z _)=>y.set a (Z .dS)|_=>y)).set a h)=j5 u aT (y.set a h);split
   ·rw[j f.1,Az,<-j f.1,b l f.2]
   ·rw[<-j f.1,b l f.2]
theorem JQ{m:aG}{y:bc}{u:a9}{N:List aj}(c:bP m y u N):∀{own:List aI},bP m (List.replicate own.length Y++y) (own.map (λ_=>Y)++u) N
 |[]=>c
 |f::own=>⟨Y,_,[],N,rfl,rfl,JQ c (own:=own),rfl⟩
theorem zf{m:aG}:∀{r:Nat}{y:bc}{D:a9}{N:List aj},bP m y D N->∃Wx WE,bP m (y.drop r) (D.drop r) Wx/\(Wx++WE).Perm N
 |0,y,D,N,c=>⟨N,[],c,by rw[cO]⟩
 |r+1,[],D,N,c=>by
  cases c.1;exact⟨[],N,⟨rfl,rfl⟩,List.Perm.refl _⟩
 |r+1,o::y,D,N,c=>by
  let⟨f,u,P,@WA,rfl,A,E,rfl⟩:=c;let⟨Wx,@WE,a,b⟩:=zf (r:=r) E;exact⟨Wx,WE++P,a,by rw[<-bM];exact (gj P b).trans dW⟩
def bG.both(g:bG m N Wh (Wx++Wb)):bG m N Wh Wx:=g.less (List.Perm.refl _)
theorem bT.snoc:∀{I:List ae}{V7:List ar}{s:ae}{v:ar},bT m I V7->cR m s v->bT m (I++[s]) (V7++[v])
 |[],V7,s,v,c,l=>by cases (show V7=[] from c);exact⟨v,[],rfl,l,rfl⟩
 |e::I,V7,s,v,c,l=>by
  let⟨J,@u,rfl,A,E⟩:=c;exact⟨J,u++[v],rfl,A,E.snoc l⟩
variable{H:kZ}
def CB(ao:WH.Nodup)(c:dy (b4 own.length WH H C dq Xp) D m G):
  vw own WH (y9 H) (λ_=>x6 (ql own.length WH.length) C) (λ_=>kC dq) (λ_=>dy Xp) D m G:=by
 let⟨y,N,u,@Wv,O,f1,f2,p⟩:=c;let⟨@⟨⟨w,o⟩,We⟩,A,E⟩:=bZ.mp f2;let⟨@⟨I,bv⟩,f4,f8⟩:=cU.mp E;cases f8;refine⟨y,N,(w,o),We,O,f1,A,λXg Wh Wx Wb ga it ge gl gt Wt=>?_⟩;let⟨U,@L,ca,B,WT⟩:=C9 ao ga;have cd:bG m N Wh (L++(U++Wb)):=gt.mw (by
  refine (gj Wb WT.symm).trans ?_;rw[bM];exact l2)
 have ce:=dD.mp cd.ao;have g1:∀f∈U++Wb,ht Wh f:=λf x=>by
  rcases dw.mp x with x|x
  ·exact ca.chg f x
  ·exact gl f x
 have al:∀{Ws:aG}{WE:List aj},bG Wh L Ws WE->∀g∈U++Wb,∀J,Wh g=Z J->Ws g=Z J:=λj g b J e=>j.keep g J e λc=>ce.2.2 g c g b rfl;refine⟨λa k Wn V6=>k+a=w.length/\∃l aT z,bP V6 aT (WH.map λa=>D.getD a Y) z/\aT.length=WH.length/\bG Wh L V6 z/\bT V6 l Wn/\h8 own.length C dq Xp (w.drop a) l aT=Z (I,bv),
  ⟨w.length,rfl,[],kN WH We,L,B,by rw[kN,aZ],bG.perm ce.1<|List.Perm.refl _,rfl,f4⟩,?_⟩;rintro a k Wn V6 ⟨am,l,aT,z,ch,g2,V9,ci,an⟩;by_cases cl:a<w.length
 ·let@⟨g3,hd⟩:=it.go V6 V9.tup (λg b=>al V9 g<|ej _ b) a w[a] (by simp[cl]);rw[kr cl,h8]at an;let⟨@F,he,hf⟩:=bZ.mp an;let⟨@⟨d,a1⟩,hm,Q⟩:=bZ.mp hf;refine .inr ⟨g3,λco Ws=>(k-1)+(a+1)=w.length/\∃l aT z,bP Ws aT (WH.map λa=>D.getD a Y) z/\aT.length=WH.length/\bG Wh L Ws z/\bT Ws l co/\h8 own.length C dq Xp (w.drop<|a+1) l aT=Z (I,bv),λco Ws c=>⟨k-1,⋯,c⟩,λf Ws x=>?_⟩;let@⟨n,hw⟩:=hd f Ws x;have h0:=ch.mono n.tupS λg W o e=>n g o e;have cr:=V9.same n;have ap:=ci.mono n.tupS.tup;refine⟨List.replicate own.length Y++aT,z,.im w[a],[],F,JQ h0,⟨hw,rfl⟩,by rw[cO];exact cr.ao,he,λa2 ii cs as db bd=>⟨λi v h=>?_,?_⟩⟩
  ·
   have lv:own.length<=i:=by
    by_cases io:i<own.length
    ·rw[kX,jN ⇑io,fp]at h;cases e:own[i]? with
     |none=>rw[e]at h;cases h
     |some lw=>rw[e]at h;cases h
    ·lia
   have mb:i<own.length+WH.length:=by
    have:=(gk.mp h).1
    rwa [kX,b_,aZ,aZ]at this
   have am:i∈ql own.length WH.length:=cn.mpr ⟨i-own.length,fI.mpr ⋯,⋯⟩;exact (as.2 i am).trans h
  ·have ds:bG Wh L ii cs:=cr.seq (by rw[cO]at bd;exact bd);have ap:=ap.mono bd.tup.tup;have dL:a2.drop own.length=WH.map λa=>D.getD a Y:=by
    have mo:=db.len;refine qj λi=>?_;by_cases h:i<WH.length
    ·have am:i+own.length∈ql own.length WH.length:=cn.mpr ⟨i,fI.mpr h,rfl⟩;have:=as.2 _ am;rw[ng,sz,this,kX,kM ↥0,aZ,Nat.add_sub_cancel]
    ·have a8:a2.length<=own.length+WH.length:=by
      rw[as.1,kX,b_,aZ,aZ];exact bb _
     rw[uX (by rw[f9];lia),uX (by rw[aZ];lia)]
   have eq:a2.length=own.length+WH.length:=by rw[as.1,kX,b_,aZ,aZ]
   refine⟨F,cs,d,a1,db,ds.ao,hm,λms be M bi=>?_⟩;have R:=ds.seq bi;dsimp only at Q ⊢;cases d with
   |false=>
    rw[aP dz]at Q ⊢;let⟨T,@ev,t,bm⟩:=zf (r:=own.length) M;rw[dL]at t;exact⟨⋯,l,a1.drop own.length,T,t,by rw[f9,M.len,eq];lia,R.less bm,ap.mono bi.tup.tup,Q⟩
   |true=>
    rw[aJ rfl]at Q ⊢;let⟨@⟨v,ex⟩,jp,P⟩:=bZ.mp Q;dsimp only at P;split at P
    ·rename_i s;split at P
     ·rename_i m0;refine⟨a1,be,.im s,ex,M,R.ao,jp,λJ na T nb t WG bn=>?_⟩;let@⟨kt,rfl⟩:=WG;rw[cO]at bn;have fd:=(ap.mono bi.tup.tup).mono bn.tup.tup;refine⟨uh (show Wn.length<=100000 by rw[<-fd.length];lia) ∅,?_⟩;let⟨kw,@ne,fn,lc⟩:=zf (r:=own.length) t;rw[dL]at fn;exact⟨⋯,l++[s],ex.drop own.length,kw,fn,by rw[f9,t.len,eq];lia,(R.seq bn).less lc,fd.snoc kt,P⟩
     ·cases P
    ·cases P
 ·have S:a=w.length:=⋯
  subst S;refine .inl ⟨it.stop V6 V9.tup<|λg b=>al V9 g<|ej _ b,λbs fr=>?_⟩;rw[og (bb _),h8]at an;cases an;have lf:bP V6 (lY WH We) D U:=ca.mono V9.tup λg b=>al V9 g (ed _ b);let⟨be,@f0,M,li⟩:=GX lf ch;rw[TX (by rw[g2]) ao]at M;have lm:tj V6 D Wb o:=by
   cases o with
   |none=>trivial
   |some q=>
    let⟨a,s⟩:=q;let⟨@v,ln,ls⟩:=ge;exact⟨v,ln,ls.mono V9.tup λg b=>al V9 g<|ej _ b⟩
  let⟨T,@ev,t,bm⟩:=y4 (Wb:=Wb) M lm;have n:df V6 (upd V6 bs<|.lst Wn):=(df.refl V6).upd fr;have R:bG m N V6 T:=(cd.trans V9 g1).less (aT:=ev++f0) (by
   rw[<-bM];refine (gj f0 bm).trans ?_;rw[bM];refine (eL be dW).trans ?_;rw[<-bM];refine (gj Wb li).trans ?_;rw[bM];exact l2)
  exact p _ _ T [bs] (t.mono n.tupS λg W o e=>n g o e) ⟨bs,Wn,rfl,fB,ci.mono n.tupS.tup,rfl⟩ (R.add fr t.chg)
def xa{Xj:bF}{T:List bF}{WB:hQ}(a:b.calm=aa)(Wo:kk b WB own WH)(ao:WH.Nodup)(S:nh b WL Xb H)(d:∀Wt,ix (b.gR (gM b own WH) WB Wt) (ql own.length WH.length) WL C)(br:∀Wt,vU (b.gR (gM b own WH) WB Wt) T dq)(e:∀Wt,cx (b.gR (gM b own WH) WB Wt) Xj Xp)(Wd:∀f,nk Xb b.env f=pure f:=by intro W;rfl):cx b (.ListComp Xj [⟨WL,Xb,T,0⟩] WB Wq) (b4 own.length WH H C dq Xp):=
 eQ (Pj a Wo S d br e Wd) λD m G c=>CB ao c
end
@[simp] def j7(WK:List Nat):List ai->bc->Nat->List ai
 |s::I,o::y,i=>(if s.fm=aa then s else if i∈WK then o.getD .dS else .dS)::j7 WK I y (i+1)
 |s::I,[],i=>(if s.fm=aa then s else .dS)::j7 WK I [] (i+1)
 |[],_,_=>[]
@[simp] def dp(r k:Nat)(WK:List Nat)(L:bJ):dd:=λI=>if I.length=r then match L (I.map Z++List.replicate (k-r) Y) with
 |some (.eI u,y)=>Z (u,j7 WK I y 0)
 |some (.bf,y)=>Z (.im .a6,j7 WK I y 0)
 |_=>Y else Y
theorem JO{m:aG}:∀{I:List ai}{V7:List ar}{N:List aj}{k:Nat},eR m I V7 N->bP m (I.map Z++List.replicate k Y) (V7.map Z++List.replicate k Y) N
 |[],V7,N,k,c=>by
  let@⟨rfl,rfl⟩:=c;show bP m (List.replicate k Y) (List.replicate k Y) [];induction k with
  |zero=>exact⟨rfl,rfl⟩
  |succ k a=>exact⟨Y,_,[],[],rfl,rfl,a,rfl⟩
 |s::I,V7,N,k,c=>by
  let⟨v,u,Wx,@WE,rfl,A,E,rfl⟩:=c;exact⟨Z v,_,Wx,WE,rfl,⟨v,rfl,A⟩,JO E,rfl⟩
theorem zC{m V6:aG}{WK:List Nat}(B:ha m V6):∀{I:List ai}{V7:List ar}{p:List aj}{y:bc}{D:a9}{N:List aj}{a:Nat},eR m I V7 p->bP V6 y D N->(∀(i:Nat) (v:ar),(a+i)∈WK->V7[i]?=Z v->D[i]?=Z (Z v))->
  ∃Wb z,eR V6 (j7 WK I y a) V7 Wb/\(Wb++z).Perm N
 |[],V7,p,y,D,N,a,c,O,_=>⟨[],N,by unfold j7;exact⟨c.1,rfl⟩,List.Perm.refl _⟩
 |s::I,V7,p,[],D,N,a,c,O,n=>by
  let⟨v,u,P,@WA,rfl,A,E,rfl⟩:=c;let@⟨rfl,rfl⟩:=O;let⟨Wb,@z,b,d⟩:=zC (y:=[]) (D:=[]) (N:=[]) (a:=a+1) B E ⟨rfl,rfl⟩ λi v q r=>by
   have:=n (i+1) v (by rw[show a+(i+1)=a+1+i by lia];exact q) ⇑r;simp at this
  rw[j7];refine⟨Wb,z,⟨v,u,[],Wb,rfl,?_,b,rfl⟩,d⟩;split
  ·rename_i h;have:=A.mono B λg k=>by rw[A.fm h]at k;cases k
   rw[A.fm h]at this;exact this
  ·exact rfl
 |s::I,V7,p,o::y,D,N,a,c,O,n=>by
  let⟨v,u,P,@WA,rfl,A,E,rfl⟩:=c;let⟨f,j,aT,@Wa,rfl,w,x,rfl⟩:=O;let⟨Wb,@z,b,d⟩:=zC (y:=y) (D:=j) (a:=a+1) B E x λi v q r=>by
   have:=n (i+1) v (by rw[show a+(i+1)=a+1+i by lia];exact q) ⇑r;simpa using this
  rw[j7];split
  ·rename_i h;have t:=A.mono B λg k=>by rw[A.fm h]at k;cases k
   rw[A.fm h]at t;refine⟨Wb,z++aT,⟨v,u,[],Wb,rfl,t,b,rfl⟩,?_⟩;rw[<-bM];exact (gj aT d).trans dW
  ·split
   ·rename_i C;have F:f=Z v:=by
     have:=n 0 v C rfl;simpa using this
    subst F;cases o with
    |none=>
     refine⟨Wb,z++aT,⟨v,u,[],Wb,rfl,rfl,b,rfl⟩,?_⟩;rw[<-bM];exact (gj aT d).trans dW
    |some e=>
     let⟨@H,G,l⟩:=w;cases G;refine⟨aT++Wb,z,⟨v,u,aT,Wb,rfl,l,b,rfl⟩,?_⟩;rw[bM];exact eL _ d
   ·refine⟨Wb,z++aT,⟨v,u,[],Wb,rfl,rfl,b,rfl⟩,?_⟩;rw[<-bM];exact (gj aT d).trans dW
section
variable{T:bS}{l:bA}{V8:Φ}{aE:aI->Option ag}{Wi:a_}
def Nf{Xe:aI}{x:aj}{WM:List aI}{n:Nat}{L:bJ}(N:hg V8 f Xe O x fd)(Wo:pg WM Wk (ek O))(w:Wk.length=r)(F:∀a∈WK,a<r)(y:∀(M:ag) (P:bH) (WX:List fE) (j:au) (m:aG) (Wa:ho),fg n (P.deeper<|kE Xe (ek O) j.heap.objs.size x M)->kx (mV iV T l V8 aE Wi WM Xe (ek O) x M P WX j m Wa).oc WK (gZ O) L):
  i8 T l V8 aE Wi iV (n+1) x fd Wk (k9 r<|dp r WM.length WK L):=by
 refine N.ok Wo (λV7 m G Wa c=>c.1.trans w.symm) (λM P WX j m V7 G Wa A c=>⟨_,y M P WX j m Wa A,?_⟩);let@⟨o,⟨I,h,u,@J,WG,ao,b,p⟩⟩:=c;have B:I.length=r:=WG.length.trans o;unfold dp at b;rw[aJ B]at b;have O:=JO (k:=WM.length-r) WG;have V_:start WM V7=V7.map Z++List.replicate (WM.length-r) Y:=by unfold start;rw[o]
 rw[V_];have fin:∀{d:a9}{V6:aG}{WS:List aj}{Wv:bc}{v:ar}{Wb:List aj},j7 WK I Wv 0=J->eh WK (V7.map Z++List.replicate (WM.length-r) Y) d->bP V6 Wv d WS->c4 V6 u v Wb->bG m h V6 (WS++Wb)->G v V6:=λ{d V6 WS Wv v Wb} D W8 g C V9=>by
  let⟨cf,@z,q,E⟩:=zC (WK:=WK) (a:=0) V9.tup WG g λi v s t=>by
   rw[BA]at s;rw[W8.2 i s,jN (by rw[aZ];exact (gk.mp t).1),fp,t];rfl
  rw[D]at q;refine p v V6 Wb cf C q (V9.less (aT:=z) ?_);rw[bM];exact (eL Wb E).trans dW
 split at b
 ·rename_i W3 Wv e;cases b;exact⟨_,h,.eI u,Wv,O,ao,e,λv d V6 WS Wb W8 g C V9=>fin rfl W8 g C V9⟩
 ·rename_i Wv e;cases b;exact⟨_,h,.bf,Wv,O,ao,e,λd V6 WS W8 g V9=>fin rfl W8 g ⟨rfl,rfl⟩ (by rw[cO];exact V9)⟩
 ·cases b
end
def cq(m:aG)(s:ai)(G:c5):Prop:=(∀v V6 Wb,df m V6->c4 V6 s v Wb->Wb.Nodup->(∀g∈Wb,m g=Y)->G v V6)
def cq.DE{s:ae}(p:cq m (.im s) G)(j:df m V6)(c:cR V6 s v):G v V6:=p v V6 [] j ⟨c,rfl⟩ gU (λg a=>nomatch a)
def cq.i{m:aG}{s:ae}{G:c5}{v:ar}(p:cq m (.im s) G)(c:cR m s v):G v m:=p.DE (df.refl m) c
def cq.l{q:aj}(p:cq m (.lst I) G)(a:m q=Y)(c:bT m I w):G (.ref q) (upd m q<|.lst w):=by
 have j:df m (upd m q<|.lst w):=(df.refl m).upd a;exact p _ _ [q] j ⟨q,w,rfl,fB,c.mono j.tupS.tup,rfl⟩ (e9 _ _) λg b=>by rw[cM.mp b];exact a
def cq.t{m:aG}{I:List ae}{w:List ar}{G:c5}{q:aj}(p:cq m (.im<|.tup I) G)(a:m q=Y)(c:bT m I w):G (.ref q) (upd m q<|.tup w):=by
 have j:df m (upd m q<|.tup w):=(df.refl m).upd a;exact p.DE j ⟨q,w,rfl,fB,c.mono j.tupS.tup⟩
section
variable{b:aR}
def eo.imp{x:ag->ag->er ag}{u:cf}(c:eo b x u)(a:∀f C m G,W3 f C m G->u f C m G):eo b x W3:=λR j D m f C v J G H d e g=>c R j D m f C v J G H d e (a f C m G g)
def fl.imp{x:ag}{u W3:List ar->aG->c5->Prop}(c:fl b x u)(a:∀w m G,W3 w m G->u w m G):fl b x W3:=λR j D m w Wy G H d e=>c R j D m w Wy G H d (a w m G e)
def jG.imp{u:cf}(c:jG b u)(a:∀f C m G,W3 f C m G->u f C m G):jG b W3:=λd e R j D m f C v J G H g h i=>c d e R j D m f C v J G H g h (a f C m G i)
def fX.i{m:aG}{s:ae}{v:ar}(c:fX m (.im s) v):cR m s v:=c.elim λ_ l=>l.1
end
abbrev gJ:=ai->ai->Option ai
@[simp] def jP(aT:Int->Int->Bool)(L:Int->Int->ae):gJ:=λg d=>match g,d with
 |.im (.int a),.im (.int i)=>if aT a i=aa then Z (.im<|L a i) else Y
 |_,_=>Y
def D8{aT:Int->Int->Bool}{L:Int->Int->ae}{g d:ai}(c:jP aT L g d=Z s):∃a i,g=.im (.int a)/\d=.im (.int i)/\aT a i=aa/\s=.im (L a i):=by
 unfold jP at c;split at c
 ·rename_i a i;split at c
  ·rename_i b;cases c;exact⟨a,i,rfl,rfl,b,rfl⟩
  ·cases c
 ·cases c
section
variable{b:aR}
variable{x:ag->ag->er ag}{L:Int->Int->ar}{c:Int->Int->ae}
def uF{aT:Int->Int->Prop}{WA:Int->Int->Bool}(o:eo b x (qr aT L))(d:∀a i,WA a i=aa->aT a i)(g:∀m a i,cR m (c a i)<|L a i):fG b x (jP WA c):=
 o.imp λf C m G ⟨WY,WZ,s,h,j,e,p⟩=>by
  let⟨a,@i,rfl,rfl,k,rfl⟩:=D8 e;exact⟨a,i,h.i,j.i,d a i k,cq.i p<|g m a i⟩
def sk(o:eo b x (mj L))(d:∀m a i,cR m (c a i)<|L a i):fG b x (jP (λ_ W=>aa) c):=
 o.imp λf C m G ⟨WY,WZ,s,g,h,e,p⟩=>by
  let⟨a,@i,rfl,rfl,j,rfl⟩:=D8 e;exact⟨a,i,g.i,h.i,cq.i p<|d m a i⟩
@[simp] def sL:gJ:=jP (λ_ W=>aa) λa i=>.int (a-i)
def iB(a i:Int):Bool:=(!(decide (bl.Int.intBits a>vg)&&decide (bl.Int.intBits i>vg)&&bl.Int.intTooBig (bl.Int.intBits a+bl.Int.intBits i)))
@[simp] def jL:gJ:=jP iB λa i=>.int (a*i)
@[simp] def nG:gJ:=jP (λ_ i=>decide (0<i/\i<1073741824)) λa i=>.int (a/i)
@[simp] def hP:gJ:=jP (λ_ i=>decide (0<i)) λa i=>.int (a%i)
@[simp] def tS:gJ:=jP (λa i=>decide (0<=i/\i<=1000000/\a.natAbs<2^64)) λa i=>.int (a^i.toNat)
@[simp] def vR:gJ:=jP (λ_ W=>aa) λa i=>.ay (decide (a<i))
@[simp] def gQ:gJ:=jP (λ_ W=>aa) λa i=>.ay (decide (a<=i))
@[simp] def qY:gJ:=jP (λ_ W=>aa) λa i=>.ay (decide (i<a))
@[simp] def CI:gJ:=jP (λ_ W=>aa) λa i=>.ay (decide (i<=a))
def xl:fG b (g7 .Sub) sL:=sk Ml λ_ W W=>rfl
def lO:fG b (g7 .Mult) jL:=uF MP (λa i c=>by unfold iB at c;unfold IntMulOk;rw[k2]at c;rw[c];exact dz) λ_ W W=>rfl
def rY:fG b (g7 .FloorDiv) nG:=uF Tv (λa i c=>show 0<i/\i<1073741824 from hh c) λ_ W W=>rfl
def jr:fG b (g7 .Mod) hP:=uF NA (λa i c=>hh c) λ_ W W=>rfl
def um:fG b (g7 .Pow) tS:=uF OY (λa i c=>show 0<=i/\i<=1000000/\a.natAbs<2^64 from hh c) λ_ W W=>rfl
def J9:fG b (ey .Lt) vR:=sk S9 λ_ W W=>rfl
def nP:fG b (ey .LtE) gQ:=sk PS λ_ W W=>rfl
def A1:fG b (ey .Gt) qY:=sk Oo λ_ W W=>rfl
def OV:fG b (ey .GtE) CI:=sk Ud λ_ W W=>rfl
def OL:eo b (g7 .Add) (λf C m G=>∃g d Wn,f=.ref g/\C=.ref d/\cD b.K m g []/\cD b.K m d Wn/\G (.ref d) m):=by
 intro R j D m f C v J G H n o c;let⟨g,d,@Wn,rfl,rfl,q,s,p⟩:=c;cases n;cases o;let⟨@Wl,t,u,W⟩:=H.tuple q;let⟨@A,B,W4,W⟩:=H.tuple s;have e:Wl=[]:=t.w7.mpr rfl;subst e;let⟨@⟨cls,w,data,aO⟩,a,h,⟨@r,hd⟩⟩:=id u;let⟨@⟨E,x,data2,y⟩,i,k,⟨@z,l⟩⟩:=id W4;simp only at h hd k l;subst h hd k l;exact xu ⟨_,a,rfl⟩ ⟨_,i,rfl⟩ Ad xx xW y5 (Bf _ _) (tuple_addW0 g d _ _ r z w x aO y rfl) ⟨a,i,.ref d,m,H,rfl,p⟩
@[simp] def b8:gJ:=λg d=>match g,d with
 |.im (.int a),.im (.int i)=>Z (.im<|.int<|a+i)
 |.im (.tup f),.im (.tup C)=>if f.length+C.length<=100000 then Z (.im<|.tup<|f++C) else Y
 |.lst f,.lst C=>if f.length+C.length<=100000 then Z (.lst<|f++C) else Y
 |.im (.str f),.im (.str C)=>if f.length+C.length<=100000 then Z (.im<|.str<|f++C) else Y
 |_,_=>Y
theorem bT.app:∀{g d:List ae}{f C:List ar},bT m g f->bT m d C->bT m (g++d) (f++C)
 |[],d,f,C,c,n=>by cases (show f=[] from c);exact n
 |s::g,d,f,C,c,n=>by
  let⟨v,@u,rfl,A,E⟩:=c;exact⟨v,u++C,rfl,A,E.app n⟩
def bT.nil{m:aG}{g:List ae}(c:bT m g []):g=[]:=by
 cases g with
 |nil=>rfl
 |cons s g=>let⟨W,@W,e,W⟩:=c;cases e
def dB:fG b (g7 .Add) b8:=by
 refine (UE.or<|OL.or<|QG.or<|RL.or US).imp λf C m G y=>?_;let⟨WY,WZ,@s,n,o,e,p⟩:=y;unfold b8 at e;split at e
 ·cases e;exact .inl ⟨_,_,n.i,o.i,cq.i p rfl⟩
 ·rename_i g d;split at e
  ·rename_i h;cases e;let⟨q,@w,rfl,A,E⟩:=n.i;let⟨j,@Wn,rfl,k,c⟩:=o.i;refine .inr ?_;by_cases v:w=[]
   ·subst v;cases E.nil;exact .inl ⟨q,j,Wn,rfl,rfl,cD.of A,cD.of k,cq.i p ⟨j,Wn,rfl,k,c⟩⟩
   ·refine .inr (.inl ⟨q,j,w,Wn,rfl,rfl,cD.of A,cD.of k,v,n1 (by rw[<-E.length,<-c.length];exact h),λx=>?_,λx r u=>cq.t p u<|E.app c⟩);subst x;cases c.nil;rw[cO]at p;exact cq.i p ⟨q,w,rfl,A,E⟩
  ·cases e
 ·rename_i g d;split at e
  ·rename_i h;cases e;let⟨W,q,@w,rfl,A,E,W⟩:=n;let⟨W,j,@Wn,rfl,k,c,W⟩:=o;exact .inr (.inr (.inr (.inl ⟨q,j,w,Wn,rfl,rfl,A,k,n1 (by rw[<-E.length,<-c.length];exact h),λr u=>cq.l p u<|E.app c⟩)))
  ·cases e
 ·rename_i g d;split at e
  ·rename_i h;cases e;exact .inr (.inr<|.inr<|.inr ⟨g,d,n.i,o.i,n1 h,cq.i p rfl⟩)
  ·cases e
 ·cases e
def R7(r:Nat){P:bH}{f C:ae}{J v:ag}(n:ae.bI r f=aa)(ba:ae.bI r C=aa)(R:P.units+r+2<b3)(q:eg j.heap f J)(b:eg j.heap C v):SeqAt.RcAt P j J v (cT f C):=by
 cases f with
 |a6=>
  cases (show J=.none from q);cases C with
  |a6=>cases (show v=.none from b);exact L0
  |ay d=>cases (show v=.bool d from b);exact MH d
  |int i=>let⟨@B,rfl⟩:=b;exact OW i B
  |str l=>let⟨@B,rfl⟩:=b;exact MM l B
  |tup I=>let⟨g,o,Wr,@k,rfl,A,E,m,W⟩:=b;exact Pm ⟨o,A,E,k,m⟩ ⋯
  |fn g=>cases r<;>cases ba
  |aW g=>cases r<;>cases ba
  |fd=>cases r<;>cases ba
 |ay d=>
  cases (show J=.bool d from q);cases C with
  |a6=>cases (show v=.none from b);exact SD d
  |ay h=>cases (show v=.bool h from b);exact PC d h
  |int i=>let⟨@B,rfl⟩:=b;exact Mu d i B
  |str l=>let⟨@B,rfl⟩:=b;exact U4 d l B
  |tup I=>let⟨g,o,Wr,@k,rfl,A,E,m,W⟩:=b;exact JX d ⟨o,A,E,k,m⟩ ⋯
  |fn g=>cases r<;>cases ba
  |aW g=>cases r<;>cases ba
  |fd=>cases r<;>cases ba
 |int a=>
  let⟨@c,rfl⟩:=q;cases C with
  |a6=>cases (show v=.none from b);exact Va a c
  |ay h=>cases (show v=.bool h from b);exact PO a c h
  |int i=>let⟨@B,rfl⟩:=b;exact Lz a c i B
  |str l=>let⟨@B,rfl⟩:=b;exact Kx a c l B
  |tup I=>let⟨g,o,Wr,@k,rfl,A,E,m,W⟩:=b;exact UM a c ⟨o,A,E,k,m⟩ ⋯
  |fn g=>cases r<;>cases ba
  |aW g=>cases r<;>cases ba
  |fd=>cases r<;>cases ba
 |str a=>
  let⟨@c,rfl⟩:=q;cases C with
  |a6=>cases (show v=.none from b);exact S3 a c
  |ay h=>cases (show v=.bool h from b);exact L9 a c h
  |int i=>let⟨@B,rfl⟩:=b;exact KW a c i B
  |str l=>let⟨@B,rfl⟩:=b;exact Ur a c l B
  |tup I=>let⟨g,o,Wr,@k,rfl,A,E,m,W⟩:=b;exact NR a c ⟨o,A,E,k,m⟩ ⋯
  |fn g=>cases r<;>cases ba
  |aW g=>cases r<;>cases ba
  |fd=>cases r<;>cases ba
 |fn g=>cases r<;>cases n
 |aW g=>cases r<;>cases n
 |fd=>cases r<;>cases n
 |tup I=>
  cases r with
  |zero=>cases n
  |succ r=>
  let⟨g,o,Wr,@k,rfl,A,E,m,t⟩:=q;have W0:j.heap.IsTuple g Wr:=⟨o,A,E,k,m⟩;cases C with
  |a6=>cases (show v=.none from b);exact KC W0 ⋯
  |ay h=>cases (show v=.bool h from b);exact QO h W0 ⋯
  |int i=>let⟨@B,rfl⟩:=b;exact LZ i B W0 ⋯
  |str l=>let⟨@B,rfl⟩:=b;exact SA l B W0 ⋯
  |fn g=>cases ba
  |aW g=>cases ba
  |fd=>cases ba
  |tup V_=>
   let⟨d,M,s,@y,rfl,z,D,F,u⟩:=b;have Xf:j.heap.IsTuple d s:=⟨M,z,D,y,F⟩;have a8:=t.length;have bz:=u.length;have G:Wr.toList.length=Wr.size:=by simp
   have H:s.toList.length=s.size:=by simp
   rw[G]at a8;rw[H]at bz;have p:=F5 (A:=P) (e:=λi=>cT (I.getD i .a6)<|V_.getD i .a6) W0 Xf ⋯ λi L N=>by
    let⟨@WY,w,O⟩:=t.get (i:=i) (v:=Wr[i]) (by rw[fD];simp[L]);let⟨@WZ,x,Q⟩:=u.get (i:=i) (v:=s[i]) (by rw[fD];simp[N]);rw[cP,w,cP,x];exact j9 r (kW n w) (kW ba x) (by show P.units+1+r+1<b3;lia) O Q
   rw[<-a8,<-bz,tR (I:=I) (V_:=V_) (λi f C g d=>by rw[cP,g,cP,d];rfl)]at p;rw[cT];exact p
@[simp] def dZ:gJ:=λg d=>match g,d with
 |.im f,.im C=>if (ae.bI 8 f&&ae.bI 8 C)=aa then Z (.im<|.ay<|cT f C) else Y
 |.lst f,.lst C=>if (ae.de 8 f&&ae.de 8 C)=aa then Z (.im<|.ay<|fh f C) else Y
 |_,_=>Y
theorem y7:∀{f C:List ae},f.length≠C.length->fh f C=aw
 |[],[],c=>absurd rfl c
 |[],_::_,_=>rfl
 |_::_,[],_=>rfl
 |g::f,d::C,c=>by
  rw[fh,y7 (λe=>c (by rw[dm,dm,e])),Hu]
def pI{R:List (aj×bk)}(H:aK b R D m j){g:aj}{w:List ar}{I:List ae}(A:m g=Z (.lst w))(E:bT m I w):∃Wl:List ag,j.heap.IsList g Wl.toArray/\el j.heap I Wl/\Wl.length=I.length:=by
 let@⟨z,⟨Wl,@r,a,e⟩⟩:=H.bg g _ A;have:=E.fT H.bg a;exact⟨Wl,⟨_,e,rfl,r,rfl⟩,this,this.length.symm⟩
def hU(U:b.A.units+20<b3):fG b (ey .Eq) dZ:=by
 intro R j D m f C v J G H r t L;let⟨WY,WZ,@s,h,k,e,p⟩:=L;unfold dZ at e;split at e
 ·rename_i g d;split at e
  ·rename_i c;cases e;rw[cy]at c;exact R7 8 c.1 c.2 ⋯ (h.i.fT H.bg r) (k.i.fT H.bg t) b.prog b.w _ _ ⟨.ay _,m,H,rfl,cq.i p rfl⟩
  ·cases e
 ·rename_i g d;split at e
  ·rename_i c;cases e;rw[cy]at c;let⟨W,q,@w,rfl,A,E,W⟩:=h;let⟨W,al,@Wn,rfl,M,N,W⟩:=k;cases r;cases t;let⟨@O,a8,Q,o⟩:=pI H A E;let⟨@S,bz,T,u⟩:=pI H M N;by_cases n:g.length=d.length
   ·have:=Pe (A:=b.A) (e:=λi=>cT (g.getD i .a6)<|d.getD i .a6) a8 bz (by rw[cV,cV,o,u];exact n) ⋯ λi x y=>by
     let⟨@WY,z,h⟩:=Q.get (i:=i) (v:=O.toArray[i]) (by simp at x;simp[x]);let⟨@WZ,B,k⟩:=T.get (i:=i) (v:=S.toArray[i]) (by simp at y;simp[y]);rw[cP,z,cP,B];exact j9 8 (kW c.1 z) (kW c.2 B) (by show b.A.units+1+8+1<b3;lia) h k
    refine this b.prog b.w _ _ ⟨.ay _,m,H,rfl,?_⟩;have F:=tR (I:=g) (V_:=d) (e:=λi=>cT (g.getD i .a6)<|d.getD i .a6) (λi f C g d=>by rw[cP,g,cP,d];rfl);rw[<-n,BN,my,Bv]at F;rw[cV,o,F];exact cq.i p rfl
   ·refine O0 (A:=b.A) a8 bz (by rw[cV,cV,o,u];simpa using n) ⋯ b.prog b.w _ _ ⟨.ay _,m,H,rfl,?_⟩;rw[y7 n]at p;exact cq.i p rfl
  ·cases e
 ·cases e
end
section
variable{b:aR}
def UC(r:Nat){P:bH}{f C:ae}{J v:ag}(n:ae.bI r f=aa)(ba:ae.bI r C=aa)(R:P.units+r+2<b3)(q:eg j.heap f J)(b:eg j.heap C v):SeqAt.RcNeAt P j J v (!cT f C):=by
 cases f with
 |a6=>
  cases (show J=.none from q);cases C with
  |a6=>cases (show v=.none from b);exact Mj
  |ay d=>cases (show v=.bool d from b);exact NI d
  |int i=>let⟨@B,rfl⟩:=b;exact Vj i B
  |str l=>let⟨@B,rfl⟩:=b;exact L4 l B
  |tup I=>let⟨g,o,Wr,@k,rfl,A,E,m,W⟩:=b;exact PD ⟨o,A,E,k,m⟩ ⋯
  |fn g=>cases r<;>cases ba
  |aW g=>cases r<;>cases ba
  |fd=>cases r<;>cases ba
 |ay d=>
  cases (show J=.bool d from q);cases C with
  |a6=>cases (show v=.none from b);exact M8 d
  |ay h=>cases (show v=.bool h from b);exact Lb d h
  |int i=>let⟨@B,rfl⟩:=b;exact J2 d i B
  |str l=>let⟨@B,rfl⟩:=b;exact Qp d l B
  |tup I=>let⟨g,o,Wr,@k,rfl,A,E,m,W⟩:=b;exact Th d ⟨o,A,E,k,m⟩ ⋯
  |fn g=>cases r<;>cases ba
  |aW g=>cases r<;>cases ba
  |fd=>cases r<;>cases ba
 |int a=>
  let⟨@c,rfl⟩:=q;cases C with
  |a6=>cases (show v=.none from b);exact Q5 a c
  |ay h=>cases (show v=.bool h from b);exact Uw a c h
  |int i=>let⟨@B,rfl⟩:=b;exact Mm a c i B
  |str l=>let⟨@B,rfl⟩:=b;exact Ru a c l B
  |tup I=>let⟨g,o,Wr,@k,rfl,A,E,m,W⟩:=b;exact Vv a c ⟨o,A,E,k,m⟩ ⋯
  |fn g=>cases r<;>cases ba
  |aW g=>cases r<;>cases ba
  |fd=>cases r<;>cases ba
 |str a=>
  let⟨@c,rfl⟩:=q;cases C with
  |a6=>cases (show v=.none from b);exact Mp a c
  |ay h=>cases (show v=.bool h from b);exact Qn a c h
  |int i=>let⟨@B,rfl⟩:=b;exact U9 a c i B
  |str l=>let⟨@B,rfl⟩:=b;exact Sp a c l B
  |tup I=>let⟨g,o,Wr,@k,rfl,A,E,m,W⟩:=b;exact Ny a c ⟨o,A,E,k,m⟩ ⋯
  |fn g=>cases r<;>cases ba
  |aW g=>cases r<;>cases ba
  |fd=>cases r<;>cases ba
 |fn g=>cases r<;>cases n
 |aW g=>cases r<;>cases n
 |fd=>cases r<;>cases n
 |tup I=>
  cases r with
  |zero=>cases n
  |succ r=>
  let⟨g,o,Wr,@k,rfl,A,E,m,t⟩:=q;have W0:j.heap.IsTuple g Wr:=⟨o,A,E,k,m⟩;cases C with
  |a6=>cases (show v=.none from b);exact Vc W0 ⋯
  |ay h=>cases (show v=.bool h from b);exact Ug h W0 ⋯
  |int i=>let⟨@B,rfl⟩:=b;exact RW i B W0 ⋯
  |str l=>let⟨@B,rfl⟩:=b;exact QB l B W0 ⋯
  |fn g=>cases ba
  |aW g=>cases ba
  |fd=>cases ba
  |tup V_=>
   let⟨d,M,s,@y,rfl,z,D,F,u⟩:=b;have Xf:j.heap.IsTuple d s:=⟨M,z,D,y,F⟩;have a8:=t.length;have bz:=u.length;have G:Wr.toList.length=Wr.size:=by simp
   have H:s.toList.length=s.size:=by simp
   rw[G]at a8;rw[H]at bz;have p:=Oy (A:=P) (e:=λi=>cT (I.getD i .a6)<|V_.getD i .a6) W0 Xf ⋯ λi L N=>by
    let⟨@WY,w,O⟩:=t.get (i:=i) (v:=Wr[i]) (by rw[fD];simp[L]);let⟨@WZ,x,Q⟩:=u.get (i:=i) (v:=s[i]) (by rw[fD];simp[N]);rw[cP,w,cP,x];exact j9 r (kW n w) (kW ba x) (by show P.units+1+r+1<b3;lia) O Q
   rw[<-a8,<-bz,tR (I:=I) (V_:=V_) (λi f C g d=>by rw[cP,g,cP,d];rfl)]at p;rw[cT];exact p
@[simp] def gd:gJ:=λg d=>match g,d with
 |.im f,.im C=>if (ae.bI 8 f&&ae.bI 8 C)=aa then Z (.im<|.ay<|!cT f C) else Y
 |.lst f,.lst C=>if (ae.de 8 f&&ae.de 8 C)=aa then Z (.im<|.ay<|!fh f C) else Y
 |_,_=>Y
def lg(U:b.A.units+20<b3):fG b (ey .NotEq) gd:=by
 intro R j D m f C v J G H r t L;let⟨WY,WZ,@s,h,k,e,p⟩:=L;unfold gd at e;split at e
 ·rename_i g d;split at e
  ·rename_i c;cases e;rw[cy]at c;exact UC 8 c.1 c.2 ⋯ (h.i.fT H.bg r) (k.i.fT H.bg t) b.prog b.w _ _ ⟨.ay _,m,H,rfl,cq.i p rfl⟩
  ·cases e
 ·rename_i g d;split at e
  ·rename_i c;cases e;rw[cy]at c;let⟨W,q,@w,rfl,A,E,W⟩:=h;let⟨W,al,@Wn,rfl,M,N,W⟩:=k;cases r;cases t;let⟨@O,a8,Q,o⟩:=pI H A E;let⟨@S,bz,T,u⟩:=pI H M N;by_cases n:g.length=d.length
   ·have:=NV (A:=b.A) (e:=λi=>cT (g.getD i .a6)<|d.getD i .a6) a8 bz (by rw[cV,cV,o,u];exact n) ⋯ λi x y=>by
     let⟨@WY,z,h⟩:=Q.get (i:=i) (v:=O.toArray[i]) (by simp at x;simp[x]);let⟨@WZ,B,k⟩:=T.get (i:=i) (v:=S.toArray[i]) (by simp at y;simp[y]);rw[cP,z,cP,B];exact j9 8 (kW c.1 z) (kW c.2 B) (by show b.A.units+1+8+1<b3;lia) h k
    refine this b.prog b.w _ _ ⟨.ay _,m,H,rfl,?_⟩;have F:=tR (I:=g) (V_:=d) (e:=λi=>cT (g.getD i .a6)<|d.getD i .a6) (λi f C g d=>by rw[cP,g,cP,d];rfl);rw[<-n,BN,my,Bv]at F;rw[cV,o,F];exact cq.i p rfl
   ·refine Qu (A:=b.A) a8 bz (by rw[cV,cV,o,u];simpa using n) ⋯ b.prog b.w _ _ ⟨.ay _,m,H,rfl,?_⟩;rw[y7 n]at p;exact cq.i p rfl
  ·cases e
 ·cases e
@[simp] def rI(r:Bool):gJ:=λg d=>match g,d with
 |.im f,.im .a6=>Z (.im<|.ay<|r != decide (f=.a6))
 |.im (.ay f),.im (.ay C)=>Z (.im<|.ay<|r != (f==C))
 |_,_=>Y
def Nz{s:ae}(c:cR m s v):decide (v=.a6)=decide (s=.a6):=by
 cases s with
 |a6=>cases (show v=.a6 from c);rfl
 |ay d=>cases (show v=.ay d from c);rfl
 |int d=>cases (show v=.int d from c);rfl
 |str d=>cases (show v=.str d from c);rfl
 |fn d=>cases (show v=.ref d from c);rfl
 |tup I=>let⟨g,@w,rfl,W⟩:=c;rfl
 |aW I=>let⟨g,w,@o,rfl,W⟩:=c;rfl
 |fd=>let⟨g,@o,rfl,W⟩:=c;rfl
def Nb:eo b (ey .IsNot) (λf C m G=>∃g d,f=.ay g/\C=.ay d/\G (.ay<|!(g==d)) m):=by
 intro R j D m f C v J G H a c e;let⟨g,@d,h,i,p⟩:=e;subst h i;cases a;cases c;refine wpAny_isNot_plain (by cases g<;>cases d<;>rfl) ⟨.ay<|!(g==d),m,H,?_,p⟩;cases g<;>cases d<;>rfl
def yi:fG b (ey .IsNot) (rI aa):=by
 refine (PE.or Nb).imp λf C m G h=>?_;let⟨WY,WZ,@s,c,d,e,p⟩:=h;unfold rI at e;split at e
 ·rename_i g;cases e;refine .inl ⟨d.i,?_⟩;rw[Nz c.i];refine cq.i p ?_;show _=_;rw[GD]
 ·cases e;refine .inr ⟨_,_,c.i,d.i,cq.i p ?_⟩;show _=_;rw[GD]
 ·cases e
def eC{Wz:Type}[DecidableEq Wz](Wm:List (Wz×ae))(n:Wz):Option ae:=((Wm.find? λq=>decide (q.1=n)).map (·.2))
theorem qL{Wz:Type}[DecidableEq Wz]{m:aG}{n:Wz}:∀{Wm:List (Wz×ae)}{i:List (Wz×ar)},fx m Wm i->(∀s,eC Wm n=Z s->∃v,iM i n=Z v/\cR m s v)/\(eC Wm n=Y->iM i n=Y)
 |_,_,.nil=>⟨(λs e=>by cases e),(λ_=>rfl)⟩
 |_,_,.cons (a:=q) (b:=p) c B=>by
  let@⟨A,E⟩:=qL (n:=n) B;by_cases e:q.1=n
  ·have a:p.1=n:=c.1.symm.trans e;refine⟨λs hd=>?_,λb=>?_⟩
   ·have:∀u,eC (q::u) n=Z q.2:=λu=>by simp[eC,kV,e]
    rw[this]at hd;cases hd;exact⟨p.2,uo a,c.2⟩
   ·have:∀u,eC (q::u) n=Z q.2:=λu=>by simp[eC,kV,e]
    rw[this]at b;cases b
  ·have a:¬ p.1=n:=λf=>e (c.1.trans f);have:∀u,eC (q::u) n=eC u n:=λu=>by simp[eC,kV,e]
   rw[this,wB a];exact⟨A,E⟩
@[simp] def bD:gJ:=λg d=>match g,d with
 |.im (.tup I),.im (.int a)=>(dv I a).map .im
 |.lst I,.im (.int a)=>(dv I a).map .im
 |.c_ I,.im (.int a)=>(dv I a).map .im
 |.aH Wm,.im (.tup n)=>if ae.keys 7 n=aa then (eC Wm n).map .im else Y
 |.ee Wm,.im (.int a)=>(eC Wm<|.inl a).map .im
 |.ee Wm,.im (.str a)=>(eC Wm<|.inr a).map .im
 |_,_=>Y
def K9(a:b.A.units+20<b3):jG b (λf C m G=>∃g v,f=.ref g/\hN m g C (Z v)/\G v m):=by
 intro k n R j D m f C v J G H c d ⟨g,h,e,L,p⟩ Wd;subst e;cases c;exact z0 (LL H L) PySem.F.slot_dict_getitem.lookup (K0 a H L d λo q i l=>⟨h,m,i,l,p⟩) Wd
def Aq{a:Int}{s:ae}(c:bT m I w)(e:dv I a=Z s):∃v,dv w a=Z v/\cR m s v:=by
 unfold dv at e ⊢;rw[<-c.length];let⟨@i,b,d⟩:=bZ.mp e;let⟨@v,f,g⟩:=c.get d;exact⟨v,by rw[b];exact f,g⟩
def TC(y:b.A.units+20<b3):jG b (λf C m G=>∃WY WZ s,fX m WY f/\fX m WZ C/\bD WY WZ=Z s/\∀v V6 Wb,df m V6->c4 V6 s v Wb->Wb.Nodup->(∀g∈Wb,m g=Y)->G v V6):=by
 refine (Vi.or<|Q1.or<|K9 y).imp λf C m G z=>?_;let⟨WY,WZ,@s,u,x,e,p⟩:=z;unfold bD at e;split at e
 ·let⟨@r,c,h⟩:=cU.mp e;cases h;let⟨q,@w,rfl,A,E⟩:=u.i;let⟨@v,j,l⟩:=Aq E c;exact .inr (.inl ⟨q,w,_,v,rfl,x.i,cD.of A,j,cq.i p l⟩)
 ·let⟨@r,c,h⟩:=cU.mp e;cases h;let⟨W,q,@w,rfl,A,E,W⟩:=u;let⟨@v,j,l⟩:=Aq E c;exact .inl ⟨q,w,_,v,rfl,x.i,dC.of A,j,cq.i p l⟩
 ·let⟨@r,c,h⟩:=cU.mp e;cases h;let⟨W,q,w,@o,rfl,A,E,W⟩:=u;let⟨@v,j,l⟩:=Aq E c;exact .inl ⟨q,w,_,v,rfl,x.i,.inl<|.inr ⟨o,A⟩,j,cq.i p l⟩
 ·rename_i Wm n;split at e
  ·rename_i D;let⟨@r,c,h⟩:=cU.mp e;cases h;let⟨W,q,@i,rfl,A,E,W⟩:=u;let⟨@v,j,l⟩:=(qL E).1 r c;let⟨d,@w,rfl,WD,WR⟩:=x.i;exact .inr (.inr ⟨q,v,rfl,by rw[<-j];exact hN.t A ⟨D,d,w,rfl,WD,WR⟩,cq.i p l⟩)
  ·cases e
 ·rename_i Wm a;let⟨@r,c,h⟩:=cU.mp e;cases h;let⟨W,q,@i,rfl,A,E,W⟩:=u;let⟨@v,j,l⟩:=(qL E).1 r c;refine .inr (.inr ⟨q,v,rfl,?_,cq.i p l⟩);rw[show C=ct (.inl a) from x.i,<-j];exact hN.k A
 ·rename_i Wm a;let⟨@r,c,h⟩:=cU.mp e;cases h;let⟨W,q,@i,rfl,A,E,W⟩:=u;let⟨@v,j,l⟩:=(qL E).1 r c;refine .inr (.inr ⟨q,v,rfl,?_,cq.i p l⟩);rw[show C=ct (.inr a) from x.i,<-j];exact hN.k A
 ·cases e
end
end L2
namespace dK
open Spec PyProof.Rows
section
variable{Wf:bS}{l:bA}{P:bH}{Wa:ag->au->Prop}{j:au}
def P9{B aO:aj}{Wl:Array ag}{cC z:ag}{M S:Option Int}{G:ag->au->Prop}(q:oI j.heap B Wl)(Wd:j.heap.IsSliceOf aO cC z .none)(bI:lI cC M)(a:lI z S)(b:cz Wl.size 0 M=0)(A:cz Wl.size Wl.size S=Wl.size)(p:G (.ref B) j):wpAny (aV Wf l) P (lR (.ref B)<|.ref aO) G Wa j:=by
 let⟨@Q,c,d,hd⟩:=id Wd;have ty:j.TypeIs (.ref aO) "slice" := ⟨Q,c,d⟩;unfold lR;try with_reducible refine fK ?_
 first|refine aA (aU ?_)|skip
 refine aA (zA q.typeIs ∅ ?_);refine aA (lG (name:=aI.ofString "__getitem__") q.typeIs mR<|j4 mR q.typeIs AS ?_<|zS _ _);show wpAny _ _ (bl.Tuple.tupleItemsOf (.ref B) >>= _) _ _ j;refine aA (Al q ?_);refine aA (wpAny_typeOf ty ?_);rw[aJ ∅];refine aA (H9 Wd bI a ?_);rw[b,A];show wpAny _ _ (if (((0:Nat):Int)==0&&(1:Int)==1&&(Wl.size-0)==Wl.size)=aa then _ else _) _ _ j;rw[aJ ↥0];refine aA (m:=bl.Tuple.tupleIsExact _) (aA<|wpAny_typeOf q.typeIs<|aU ?_);show wpAny _ _ (if (ag.type "tuple" == ag.type "tuple")=aa then _ else _) _ _ j;rw[aJ ∅];exact aA (ki<|aU ⟨_,rfl,aU p⟩)
end
end dK
namespace L2
open Spec PyProof.Rows
section
variable{b:aR}
@[simp] def jI(L:aF ai):aF ai:=λy=>(L y).bind λq=>match q.1 with
 |.im (.int a)=>Z (.im<|.int<|-a,q.2)
 |_=>Y
variable{L:aF ai}{Wq:Pos}
def jF{g:bF}(c:cx b g L):cx b (.UnaryOp .USub g Wq) (jI L):=by
 refine eQ (Nl Nj c) λD m G d=>?_;let⟨y,N,u,@Wv,O,ao,e,p⟩:=d;let⟨@⟨f,We⟩,A,E⟩:=bZ.mp e;refine⟨y,N,f,We,O,ao,A,λv Wh Wx Wb h WG i=>?_⟩;dsimp only at E;split at E
 ·rename_i a;cases E;exact⟨a,WG.1,p _ Wh Wx [] h ⟨rfl,rfl⟩ (by rw[cO];exact i.both)⟩
 ·cases E
def SF(L:aF (Option Int)):dn:=(λD m G=>∃y N t Wv,bP m y D N/\N.Nodup/\L y=Z (t,Wv)/\∀V6 WS,bP V6 Wv D WS->bG m N V6 WS->G t V6)
def uL(b:aR)(e:Option bF)(L:aF (Option Int)):Prop:=(∀ ⦃q⦄,Ek b e (SF L) q)
def EG{e:Option bF}{B WJ:dn}(c:qc b e B)(a:∀D m G,WJ D m G->B D m G):qc b e WJ:=λR j D m G H d=>c R j D m G H (a D m G d)
def di:aF (Option Int):=(λy=>Z (Y,y))
@[simp] def c6(L:aF ai):aF (Option Int):=λy=>(L y).bind λq=>match q.1 with
 |.im (.int a)=>Z (Z a,q.2)
 |_=>Y
def fJ:uL b Y di:=by
 refine EG Td λD m G a=>?_;let⟨y,N,u,@Wv,O,ao,c,p⟩:=a;cases c;exact p m N O (bG.perm ao<|List.Perm.refl _)
variable{e:bF}
def eV(c:cx b e L):uL b (Z e) (c6 L):=by
 refine EG (SH c) λD m G d=>?_;let⟨y,N,u,@Wv,O,ao,g,p⟩:=d;let⟨@⟨f,We⟩,A,E⟩:=bZ.mp g;refine⟨y,N,f,We,O,ao,A,λv Wh Wx Wb h WG i=>?_⟩;dsimp only at E;split at E
 ·rename_i a;cases E;exact⟨a,WG.1,p Wh Wx h i.both⟩
 ·cases E
def bO{Ww:Type}(w:List Ww)(M S:Option Int):List Ww:=((w.drop<|dK.cz w.length 0 M).take (dK.cz w.length w.length S-dK.cz w.length 0 M))
variable{m:aG}
theorem bT.drop:∀{I:List ae}{w:List ar} (r:Nat),bT m I w->bT m (I.drop r) (w.drop r)
 |I,w,0,c=>c
 |[],w,r+1,c=>by cases (show w=[] from c);exact rfl
 |s::I,w,r+1,c=>by
  let⟨v,@u,rfl,A,E⟩:=c;exact E.drop r
theorem bT.take:∀{I:List ae}{w:List ar} (r:Nat),bT m I w->bT m (I.take r) (w.take r)
 |I,w,0,c=>rfl
 |[],w,r+1,c=>by cases (show w=[] from c);exact rfl
 |s::I,w,r+1,c=>by
  let⟨v,@u,rfl,A,E⟩:=c;exact⟨v,_,rfl,A,E.take r⟩
def bT.cut{I:List ae}{w:List ar}(M S:Option Int)(c:bT m I w):bT m (bO I M S) (n9 w M S):=by
 unfold bO n9;rw[c.length];exact (c.drop _).take _
@[simp] def lS(s:ai)(M S:Option Int):Option ai:=match s with
 |.im (.tup I)=>Z (.im<|.tup<|bO I M S)
 |.lst I=>Z (.lst<|bO I M S)
 |.c_ I=>Z (.lst<|bO I M S)
 |_=>Y
def QI(V8:Φ):ar->Option Int->Option Int->aG->c5->Prop:=(λf M S m G=>∃g w,f=.ref g/\cD V8 m g w/\dK.cz w.length 0 M=0/\dK.cz w.length w.length S=w.length/\G (.ref g) m)
def SV:sY b (λf M S m G=>∃s u,fX m s f/\lS s M S=Z u/\cq m u G):=by
 have all:sY b (QI b.K):=by
  intro R j D m f v cC z M S aO G H d Wd bI h c;let⟨g,@w,rfl,C,F,A,p⟩:=c;cases d;let⟨@Wl,u,br,L⟩:=H.tuple C;have y:Wl.toArray.size=w.length:=by rw[cV];exact u.length.symm
  exact⟨"tuple",_,mR.lookup,br.typeIs,dK.P9 br Wd bI h (by rw[y];exact F) (by rw[y];exact A) ⟨.ref g,m,H,rfl,p⟩⟩
 intro R j D m f v cC z M S aO G H d Wd bI h J;let⟨s,@u,x,e,p⟩:=J;unfold lS at e;split at e
 ·rename_i I;cases e;let⟨q,@w,rfl,A,E⟩:=x.i;by_cases k:dK.cz w.length 0 M=0/\dK.cz w.length w.length S=w.length
  ·refine all R j D m _ v cC z M S aO G H d Wd bI h ⟨q,w,rfl,cD.of A,k.1,k.2,cq.i p ⟨q,w,rfl,A,?_⟩⟩;have:bO I M S=I:=by
    unfold bO;rw[E.length,k.1,k.2,l_,Du,<-E.length,rC]
   rw[this];exact E
  ·exact Qt R j D m _ v cC z M S aO G H d Wd bI h ⟨q,w,rfl,cD.of A,k,λr n=>cq.t p n<|E.cut M S⟩
 ·cases e;let⟨W,q,@w,rfl,A,E,W⟩:=x;exact EB R j D m _ v cC z M S aO G H d Wd bI h ⟨q,w,rfl,dC.of A,λr n=>cq.l p n<|E.cut M S⟩
 ·cases e;let⟨W,q,w,@o,rfl,A,E,W⟩:=x;exact EB R j D m _ v cC z M S aO G H d Wd bI h ⟨q,w,rfl,.inl<|.inr ⟨o,A⟩,λr n=>cq.l p n<|E.cut M S⟩
 ·cases e
@[simp] def cZ(L:aF bX)(t c:aF (Option Int)):aF ai:=λy=>(L y).bind λq=>(t q.2).bind λp=>(c p.2).bind λu=>(dQ u.2 q.1).bind λs=>(lS s p.1 u.1).map λa=>(a,u.2)
def ff{M S:Option bF}{L:aF bX}{j k:aF (Option Int)}{W4:Pos}(q:dX b e L)(r:uL b M j)(w:uL b S k):cx b (.Subscript e (.Slice M S Y W4) Wq) (cZ L j k):=by
 refine eQ (Nh SV q r w) λD m G x=>?_;let⟨y,N,u,@Wv,O,ao,z,p⟩:=x;let⟨@⟨f,We⟩,A,E⟩:=bZ.mp z;let⟨@⟨t,WO⟩,B,C⟩:=bZ.mp E;let⟨@⟨J,F⟩,H,I⟩:=bZ.mp C;let⟨@s,P,Q⟩:=bZ.mp I;let⟨@bm,R,T⟩:=cU.mp Q;cases T;refine⟨y,N,f,We,O,ao,A,λv Wh Wx Wb U WC a=>⟨We,Wx,t,WO,U,(dD.mp a.ao).1,B,λWs WE al n=>⟨WO,WE,J,F,al,n.ao,H,λam an d ap=>?_⟩⟩⟩;have h:=n.seq ap;have WQ:i6 am D f v Wb:=WC.mono h.tup λg as o e=>h.keep g o e λc=>(dD.mp a.ao).2.2 g c g as rfl;have a1:=a.trans h WC.chg;exact⟨s,_,WQ.read d P,R,λl a2 bd i WG be bi=>p l a2 an bd (d.mono i.tupS λg W o e=>i g o e) WG<|a1.new i be bi d.chg⟩
abbrev iZ:=List ai->Option ai
@[simp] def cF:iZ:=λI=>match I with
 |[.im (.tup f)]=>Z (.im<|.int f.length)
 |[.lst f]=>Z (.im<|.int f.length)
 |[.c_ f]=>Z (.im<|.int f.length)
 |[.jc f]=>Z (.im<|.int f.length)
 |[.ee f]=>Z (.im<|.int f.length)
 |[.im (.str f)]=>if f.length<=100000 then Z (.im<|.int f.length) else Y
 |_=>Y
variable{V7:List ar}
def gy{s:ai}(c:n4 m [s] V7):∃v,V7=[v]/\fX m s v:=by
 let⟨v,@u,rfl,A,E⟩:=c;cases (show u=[] from E);exact⟨v,rfl,A⟩
def Ea{s e:ai}(c:n4 m [s,e] V7):∃v J,V7=[v,J]/\fX m s v/\fX m e J:=by
 let⟨v,@u,rfl,A,E⟩:=c;let⟨@J,rfl,a⟩:=gy E;exact⟨v,J,rfl,A,a⟩
def fx.length{Wz:Type}{t:List (Wz×ae)}{k:List (Wz×ar)}(c:fx m t k):t.length=k.length:=eP.length c
def fo:ia b (.builtin "len") cF:=by
 refine (Kh.or<|Tw.or Q3).imp λw m G f=>?_;let⟨I,@s,d,e,p⟩:=f;unfold cF at e;split at e
 ·cases e;let⟨@v,rfl,c⟩:=gy d;let⟨q,@w,rfl,A,E⟩:=c.i;exact .inl ⟨q,w,rfl,.inr<|cD.of A,by rw[<-E.length];exact cq.i p rfl⟩
 ·cases e;let⟨@v,rfl,⟨W,q,@w,rfl,A,E,W⟩⟩:=gy d;exact .inl ⟨q,w,rfl,.inl<|dC.of A,by rw[<-E.length];exact cq.i p rfl⟩
 ·cases e;let⟨@v,rfl,⟨W,q,w,@o,rfl,A,E,W⟩⟩:=gy d;exact .inl ⟨q,w,rfl,.inl<|.inl<|.inr ⟨o,A⟩,by rw[<-E.length];exact cq.i p rfl⟩
 ·cases e;let⟨@v,rfl,⟨W,q,w,@z,rfl,A,E,W⟩⟩:=gy d;exact .inl ⟨q,w,rfl,.inl<|dC.of A,by rw[<-E.length];exact cq.i p rfl⟩
 ·cases e;let⟨@v,rfl,⟨W,q,@i,rfl,A,E,W⟩⟩:=gy d;exact .inr (.inr ⟨q,i,rfl,A,by rw[<-E.length];exact cq.i p rfl⟩)
 ·split at e
  ·rename_i g;cases e;let⟨@v,rfl,c⟩:=gy d;cases (show v=_ from c.i);exact .inr (.inl ⟨_,rfl,n1 g,cq.i p rfl⟩)
  ·cases e
 ·cases e
@[simp] def h9:iZ:=λI=>match I with
 |[s]=>(kq s).map λf=>.im (.tup f)
 |_=>Y
@[simp] def qF:iZ:=λI=>match I with
 |[s]=>(kq s).map .lst
 |_=>Y
def ll:ia b (.type "tuple") h9:=by
 refine Sa.imp λw m G h=>?_;let⟨I,@s,j,e,p⟩:=h;unfold h9 at e;split at e
 ·let⟨@f,d,k⟩:=cU.mp e;cases k;let⟨@v,rfl,c⟩:=gy j;unfold kq at d;split at d
  ·cases d;let⟨q,@w,rfl,A,E⟩:=c.i;exact⟨q,w,rfl,.inr ⟨cD.of A,cq.i p ⟨q,w,rfl,A,E⟩⟩⟩
  ·cases d;let⟨W,q,@w,rfl,A,E,W⟩:=c;exact⟨q,w,rfl,.inl ⟨dC.of A,λt g=>cq.t p g E⟩⟩
  ·cases d;let⟨W,q,w,@o,rfl,A,E,W⟩:=c;exact⟨q,w,rfl,.inl ⟨.inl<|.inr ⟨o,A⟩,λt g=>cq.t p g E⟩⟩
  ·cases d
 ·cases e
def Au:ia b (.type "list") qF:=by
 refine Kv.imp λw m G h=>?_;let⟨I,@s,j,e,p⟩:=h;unfold qF at e;split at e
 ·let⟨@f,d,k⟩:=cU.mp e;cases k;let⟨@v,rfl,c⟩:=gy j;unfold kq at d;split at d
  ·cases d;let⟨q,@w,rfl,A,E⟩:=c.i;exact⟨q,w,rfl,.inr<|cD.of A,λt g=>cq.l p g E⟩
  ·cases d;let⟨W,q,@w,rfl,A,E,W⟩:=c;exact⟨q,w,rfl,.inl<|dC.of A,λt g=>cq.l p g E⟩
  ·cases d;let⟨W,q,w,@o,rfl,A,E,W⟩:=c;exact⟨q,w,rfl,.inl<|.inl<|.inr ⟨o,A⟩,λt g=>cq.l p g E⟩
  ·cases d
 ·cases e
@[simp] def vInt:iZ:=λI=>match I with
 |[.im (.int a)]=>Z (.im<|.int a)
 |[.im (.ay d)]=>Z (.im<|.int<|if d then 1 else 0)
 |_=>Y
def O6:ia b (.type "int") vInt:=by
 refine TG.imp λw m G f=>?_;let⟨I,@s,d,e,p⟩:=f;unfold vInt at e;split at e
 ·cases e;let⟨@v,rfl,c⟩:=gy d;cases (show v=_ from c.i);exact .inl ⟨_,rfl,cq.i p rfl⟩
 ·cases e;let⟨@v,rfl,c⟩:=gy d;cases (show v=_ from c.i);exact .inr ⟨_,rfl,cq.i p rfl⟩
 ·cases e
@[simp] def AV:iZ:=λI=>match I with
 |[.im (.int a),.im<|.int i]=>Z (.im<|.int<|if i>a then i else a)
 |_=>Y
@[simp] def z6:iZ:=λI=>match I with
 |[.im (.int a),.im<|.int i]=>Z (.im<|.int<|if i<a then i else a)
 |_=>Y
def QD(d:b.calm=aa):ia b (.builtin "max") AV:=by
 refine (Tg d).imp λw m G f=>?_;let⟨I,@s,g,e,p⟩:=f;unfold AV at e;split at e
 ·cases e;let⟨v,@J,rfl,c,n⟩:=Ea g;cases (show v=_ from c.i);cases (show J=_ from n.i);exact⟨_,_,rfl,cq.i p rfl⟩
 ·cases e
def Oh(d:b.calm=aa):ia b (.builtin "min") z6:=by
 refine (N7 d).imp λw m G f=>?_;let⟨I,@s,g,e,p⟩:=f;unfold z6 at e;split at e
 ·cases e;let⟨v,@J,rfl,c,n⟩:=Ea g;cases (show v=_ from c.i);cases (show J=_ from n.i);exact⟨_,_,rfl,cq.i p rfl⟩
 ·cases e
@[simp] def ly:List ae->Option (List Bool)
 |[]=>Z []
 |.ay d::I=>(ly I).map λu=>d::u
 |_::_=>Y
theorem Il{m:aG}:∀{I:List ae}{w:List ar}{bs:List Bool},bT m I w->ly I=Z bs->w=bs.map ar.ay
 |[],w,bs,c,e=>by cases e;exact c
 |.ay d::I,w,bs,c,e=>by
  let⟨v,@u,rfl,A,E⟩:=c;rw[ly]at e;let⟨@q,a,b⟩:=cU.mp e;cases b;cases (show v=.ay d from A);rw[Il E a];rfl
 |.a6::_,_,_,_,e=>by cases e
 |.int _::_,_,_,_,e=>by cases e
 |.str _::_,_,_,_,e=>by cases e
 |.tup _::_,_,_,_,e=>by cases e
 |.fn _::_,_,_,_,e=>by cases e
 |.aW _::_,_,_,_,e=>by cases e
 |.fd::_,_,_,_,e=>by cases e
@[simp] def gN:iZ:=λI=>match I with
 |[.lst f]=>(ly f).map λbs=>.im (.ay<|bs.all id)
 |_=>Y
def jJ(c:b.calm=aa):ia b (.builtin "all") gN:=by
 refine (M3 c).imp λw m G d=>?_;let⟨I,@s,g,e,p⟩:=d;unfold gN at e;split at e
 ·let⟨@f,h,j⟩:=cU.mp e;cases j;let⟨@v,rfl,⟨W,q,@w,rfl,A,E,W⟩⟩:=gy g;rw[Il E h]at A;exact⟨q,f,rfl,A,cq.i p rfl⟩
 ·cases e
end
section
variable{b:aR}
def yd:ai->Option Nat
 |.im (.int _)=>Z 0
 |.im (.ay _)=>Z 1
 |.im (.str _)=>Z 2
 |.im (.tup _)=>Z 3
 |.im .a6=>Z 4
 |.lst _=>Z 4
 |.im (.aW _)=>Z 4
 |.im .fd=>Z 4
 |.aH _=>Z 4
 |.ee _=>Z 4
 |_=>Y
@[simp] def tm(F:String)(s:ai):Option Bool:=
 (yd s).bind λn=>if F = "int" then Z (n==0 || n==1) else if F = "bool" then Z (n==1) else if F = "str" then Z (n==2) else if F = "tuple" then Z (n==3) else Y
variable{F:String}{d:Bool}
def Qs{s:ai}(c:tm F s=Z d):∃n,yd s=Z n/\((F = "int" /\ d=(n==0 || n==1))\/(F = "bool" /\ d=(n==1))\/(F = "str" /\ d=(n==2))\/(F = "tuple" /\ d=(n==3))):=by
 let⟨@n,e,c⟩:=bZ.mp c;refine⟨n,e,?_⟩;by_cases A:F = "int"
 ·rw[aJ A]at c;cases c;exact .inl ⟨A,rfl⟩
 rw[aP A]at c;by_cases E:F = "bool"
 ·rw[aJ E]at c;cases c;exact .inr (.inl ⟨E,rfl⟩)
 rw[aP E]at c;by_cases a:F = "str"
 ·rw[aJ a]at c;cases c;exact .inr (.inr<|.inl ⟨a,rfl⟩)
 rw[aP a]at c;by_cases b:F = "tuple"
 ·rw[aJ b]at c;cases c;exact .inr (.inr<|.inr ⟨b,rfl⟩)
 rw[aP b]at c;cases c
def oR{P WA aT y T:Prop}(c:P\/WA\/aT\/y)(g:P->T)(d:WA->T)(h:aT->T)(s:y->T):T:=c.elim g λc=>c.elim d λc=>c.elim h s
variable{R:List (aj×bk)}{m:aG}{j:au}
def FQ{D:a9}(H:aK b R D m j){g:aj}(c:(∃n,m g=Z (.aH n))\/∃n,m g=Z (.ee n)):∃o,j.heap.get? g=Z o/\o.cls=.type "dict" := by
 rcases c with ⟨n,c⟩|⟨n,c⟩
 ·let@⟨_,_,⟨@w,_,⟨o,V_,@W2,A,E,_⟩⟩⟩:=(show fN b.prog b.w m j.heap g (.aH n) from H.bg g _ c);exact⟨o,A,E.1⟩
 ·let@⟨_,_,⟨@V7,_,⟨o,V_,@W2,A,E,_⟩⟩⟩:=(show fN b.prog b.w m j.heap g (.ee n) from H.bg g _ c);exact⟨o,A,E.1⟩
def KN{D:a9}(H:aK b R D m j){g:aj}{q:bk}(c:m g=Z (.eF q<|.aH [])):∃o,j.heap.get? g=Z o/\o.cls=.type "dict" := by
 let@⟨_,_,_,⟨@w,_,⟨o,V_,@W2,A,E,_⟩⟩⟩:=(show fN b.prog b.w m j.heap g (.eF q<|.aH []) from H.bg g _ c);exact⟨o,A,E.1⟩
def N4:fl b (.builtin "isinstance") (λw m G=>∃f F s d,w=[f,.ty F]/\fX m s f/\tm F s=Z d/\G (.ay d) m):=by
 intro R j D m w Wy G H u c;let⟨f,F,s,@d,rfl,k,S,p⟩:=c;have g4:=u;cases u with
 |cons u B=>
  cases B with
  |cons W3 B=>
   cases B;cases W3;have q:∀{d:Bool},G (.ay d) m->e4 b R D G (.bool d) {j with toks:=j.toks+1}:=λ{d} p=>⟨.ay d,m,H.tok _,rfl,p⟩;let⟨@n,h,t⟩:=Qs S;have r:d=aw->G (.ay aw) m:=λe=>e ▸ p;have C:∀{g:aj},n=4->(∃o,j.heap.get? g=Z o/\o.cls=.type "dict")->wpAny (aV b.prog b.w) b.A (call (.builtin "isinstance") [.ref g,.type F]) (e4 b R D G) b.dc j:=by
    rintro g rfl ⟨o,y,z⟩;refine oR t (λ⟨e,x⟩=>e ▸ IsiPair.dict_int y z (q<|r x)) (λ⟨e,x⟩=>e ▸ IsiPair.dict_bool y z (q<|r x)) (λ⟨e,x⟩=>e ▸ IsiPair.dict_str y z (q<|r x)) λI=>?_;let@⟨e,x⟩:=I;exact e ▸ IsiPair.dict_tuple y z (q<|r x)
   have v:FV b.K m f F d->wpAny (aV b.prog b.w) b.A (call (.builtin "isinstance") [_,.type F]) (e4 b R D G) b.dc j:=λL=>Vt R j D m _ _ G H g4 ⟨f,F,d,rfl,L,p⟩;have J:∀{g:aj}{w:List ar},n=4->f=.ref g->dC b.K m g w->wpAny (aV b.prog b.w) b.A (call (.builtin "isinstance") [_,.type F]) (e4 b R D G) b.dc j:=λ{g w} h e M=>by
    subst h;exact v (.inr<|.inr<|.inr<|.inr ⟨g,w,e,M,oR t (λc=>.inr<|.inl c) (λc=>.inr<|.inr<|.inr<|.inl c) (λc=>.inr<|.inr<|.inl c) λc=>.inr<|.inr<|.inr<|.inr c⟩)
   unfold yd at h;split at h
   ·cases h;exact v (.inl ⟨_,k.i,oR t .inl (λc=>.inr<|.inr<|.inr<|.inl c) (λc=>.inr<|.inr<|.inl c) λc=>.inr<|.inl c⟩)
   ·cases h;exact v (.inr<|.inl ⟨_,k.i,oR t (λc=>.inr<|.inl c) .inl (λc=>.inr<|.inr<|.inr<|.inl c) λc=>.inr<|.inr<|.inl c⟩)
   ·cases h;exact v (.inr<|.inr<|.inl ⟨_,k.i,oR t (λc=>.inr<|.inl c) (λc=>.inr<|.inr<|.inr<|.inl c) .inl λc=>.inr<|.inr<|.inl c⟩)
   ·cases h;let⟨g,@w,e,A,E⟩:=k.i;exact v (.inr<|.inr<|.inr<|.inl ⟨g,w,e,cD.of A,oR t (λc=>.inr<|.inl c) (λc=>.inr<|.inr<|.inr<|.inl c) (λc=>.inr<|.inr<|.inl c) .inl⟩)
   ·cases h;cases (show f=.a6 from k.i);cases u;refine oR t (λ⟨e,x⟩=>e ▸ IsiPair.NoneType_int (q<|r x)) (λ⟨e,x⟩=>e ▸ IsiPair.NoneType_bool (q<|r x)) (λ⟨e,x⟩=>e ▸ IsiPair.NoneType_str (q<|r x)) λI=>?_;let@⟨e,x⟩:=I;exact e ▸ IsiPair.NoneType_tuple (q<|r x)
   ·cases h;let⟨W,g,@w,e,A,E,W⟩:=k;exact J rfl e (dC.of A)
   ·cases h;let⟨g,w,@o,e,A,E⟩:=k.i;exact J rfl e (.inl<|.inr ⟨o,A⟩)
   ·cases h;let⟨g,@o,rfl,A⟩:=k.i;cases u;exact C rfl (KN H A)
   ·cases h;let⟨W,g,@w,rfl,A,E,W⟩:=k;cases u;exact C rfl (FQ H<|.inl ⟨_,A⟩)
   ·cases h;let⟨W,g,@w,rfl,A,E,W⟩:=k;cases u;exact C rfl (FQ H<|.inr ⟨_,A⟩)
   ·cases h
@[simp] def hT(F:String)(L:aF bX):aF ai:=λy=>(L y).bind λq=>(dQ q.2 q.1).bind λs=>(tm F s).map λd=>(.im<|.ay d,q.2)
variable{f:aI}{e:bF}{L:aF bX}{Wq:Pos}
def iT{q W4:Pos}(h:e6 b "isinstance")(i:b.aE "isinstance" = Y)(j:fy "isinstance" = Z (.builtin "isinstance"))(k:e6 b f)(l:b.aE f=Y)(n:fy f=Z (.type F))(c:dX b e L)(r:f ≠ "__name__" := by decide)(hd:(f==("__debug__" : aI))=aw:=by decide)(a:b5 [e,.Name f W4] b.env=(aw,cE e b.env)::b5 [.Name f W4] b.env:=by rfl)(t:b5 [.Name f W4] b.env=(aw,cE (.Name f W4) b.env)::b5 [] b.env:=by rfl)(w:(hj Wq<|b5 [.Name f W4] b.env).any (·.1)=aw:=by rfl):cx b (.Call (.Name "isinstance" q) [e,.Name f W4] [] Wq) (hT F L):=by
 refine eQ (HG N4 h i j (xV c (xV (PQ (v:=.ty F) k l n rfl r hd) I7 t) a) ∅ ∅ a w) λD m G x=>?_;let⟨y,N,u,@Wv,O,ao,z,p⟩:=x;let⟨@⟨o,We⟩,A,E⟩:=bZ.mp z;let⟨@s,B,C⟩:=bZ.mp E;let⟨@d,H,I⟩:=cU.mp C;cases I;exact⟨y,N,o,We,O,ao,A,λv Wh Wx Wb g WC J=>⟨v,F,s,d,rfl,WC.read g B,H,p _ Wh Wx [] g ⟨rfl,rfl⟩ (by rw[cO];exact J.both)⟩⟩
@[simp] def qg:ai->Option Bool
 |.im .a6=>Z aw
 |.im (.ay d)=>Z d
 |.im (.int a)=>Z (a != 0)
 |.im (.str f)=>if f.length<=100000 then Z ((f.length:Int) != 0) else Y
 |.im (.tup I)=>Z (!I.isEmpty)
 |.lst I=>Z (!I.isEmpty)
 |.c_ I=>Z (!I.isEmpty)
 |.ee Wm=>Z (!Wm.isEmpty)
 |_=>Y
def bT.emp{I:List ae}{w:List ar}(c:bT m I w):(!w.isEmpty)=!I.isEmpty:=by
 cases I with
 |nil=>cases (show w=[] from c);rfl
 |cons s I=>let⟨v,@u,rfl,W⟩:=c;rfl
def R2{s:ai}{v:ar}(c:fX m s v)(e:qg s=Z d):zQ b.K v m d:=by
 unfold qg at e;split at e
 ·cases e;cases (show v=_ from c.i);rfl
 ·cases e;cases (show v=_ from c.i);rfl
 ·cases e;cases (show v=_ from c.i);rfl
 ·split at e
  ·rename_i f;cases e;cases (show v=_ from c.i);exact⟨n1 f,rfl⟩
  ·cases e
 ·cases e;let⟨q,@w,rfl,A,E⟩:=c.i;exact .inr (.inl ⟨w,cD.of A,E.emp.symm⟩)
 ·cases e;let⟨W,q,@w,rfl,A,E,W⟩:=c;exact .inl ⟨w,dC.of A,E.emp.symm⟩
 ·cases e;let⟨W,q,w,@o,rfl,A,E,W⟩:=c;exact .inl ⟨w,.inl<|.inr ⟨o,A⟩,E.emp.symm⟩
 ·cases e;let⟨W,q,@i,rfl,A,E,W⟩:=c;refine .inr (.inr ⟨i,A,?_⟩);cases E<;>rfl
 ·cases e
@[simp] def dN(L:aF bX):aF Bool:=λy=>(L y).bind λq=>(dQ q.2 q.1).bind λs=>(qg s).map λd=>(d,q.2)
def fC(c:dX b e L)(g:∀a,rm e b.env a=(do let v <-a;standAt e.pos;holding [v] (truthy v)):=by intro W;rfl):jv b e (dN L):=by
 refine v7 (Rn c g) λD m G h=>?_;let⟨y,N,d,@Wv,O,ao,i,p⟩:=h;let⟨@⟨o,We⟩,A,E⟩:=bZ.mp i;let⟨@s,j,k⟩:=bZ.mp E;let⟨@r,l,n⟩:=cU.mp k;cases n;exact⟨y,N,o,We,O,ao,A,λv Wh Wx Wb f WC q=>⟨_,R2 (WC.read f j) l,p Wh Wx f q.both⟩⟩
variable{B:iv}
def DO{a:Int}(c:e6 b f)(d:b.aE f=Z (.int a B))(hd:(f==("__debug__" : aI))=aw:=by decide):cx b (.Name f Wq) (aD<|.int a):=qf (Bw (v:=.int a) c d ⟨B,rfl⟩ hd) λ_=>rfl
def lh{a:aI}(c:e6 b f)(d:b.aE f=Z (.str a B))(hd:(f==("__debug__" : aI))=aw:=by decide):cx b (.Name f Wq) (aD<|.str a):=qf (Bw (v:=.str a) c d ⟨B,rfl⟩ hd) λ_=>rfl
def xJ{x:aj}(a:e6 b f)(c:b.aE f=Z (.ref x))(hd:(f==("__debug__" : aI))=aw:=by decide):cx b (.Name f Wq) (aD<|.fn x):=qf (Bw (v:=.ref x) a c rfl hd) λ_=>rfl
end
variable{Xk Xq:Pos}{o:bF}{id F:String}{name:aI}{L:aF (List bX)}{a:Nat}{ty:ai->Bool}{V8:Φ}{M:hq}{g:aj}{m:aG}
def bG.chg{N Wx:List aj}(b:g∈N)(h:ht m g)(ao:Wx.Nodup)(c0:∀f∈Wx,f∈N):bG m N (upd m g M) Wx:=by
 let⟨@o,e,br,c⟩:=h;refine⟨λf J W7 a=>?_,λf a=>.inl<|c0 f a,ao,ha.of (λf w W7=>?_)<|λf q J W7=>?_,λf J W7=>?_⟩
 ·rw[dI (λd=>a (by rw[d];exact b))];exact W7
 ·rw[dI]
  ·exact W7
  ·rintro rfl;rw[e]at W7;exact br w (Option.some.inj W7)
 ·rw[dI]
  ·exact W7
  ·rintro rfl;rw[e]at W7;exact c q J (Option.some.inj W7)
 ·by_cases a:f=g
  ·subst a;exact⟨M,fB⟩
  ·exact⟨J,(dI a).trans W7⟩
theorem cR.mT(h:ht m g):rA m (upd m g M):=(bG.chg (N:=[g]) (Wx:=[]) (.head _) h gU<|λf a=>nomatch a).tup.tup
def rq(b:aR)(id:String)(a4:ai->List ai->Option (ai×ai)):Prop:=(
 Av b id λf V7 m G=>∃h I u a Wb Wo,c4 m h f Wb/\eR m I V7 Wo/\(Wb++Wo).Nodup/\a4 h I=Z (u,a)/\∀v V6 c cf,c4 V6 u v c->c4 V6 a f cf->bG m (Wb++Wo) V6 (c++cf)->G v V6)
@[simp] def hV:ai->Bool
 |.lst _=>aa
 |.jc _=>aa
 |_=>aw
@[simp] def g8(ty:ai->Bool)(a:Nat)(a4:ai->List ai->Option (ai×ai))(L:aF (List bX)):aF ai:=λy=>match y[a]? with
 |some (Z b)=>if ty b=aa then (L y).bind λq=>(gr q.1 q.2).bind λp=>match p.2[a]? with
   |some (Z h)=>(a4 h p.1).map λu=>(u.1,p.2.set a<|Z u.2)
   |_=>Y
  else Y
 |_=>Y
def Eg{a4:ai->List ai->Option (ai×ai)}{D:a9}{G:c5}(B:∀m h f Wb,c4 m h f Wb->ty h=aa->nz V8 F f m)(c:dy (g8 ty a a4 L) D m G):∃f,D[a]?=Z (Z f)/\nz V8 F f m/\h_ L D m λV7 Ws=>∃h I u d Wb Wo,c4 Ws h f Wb/\eR Ws I V7 Wo/\(Wb++Wo).Nodup/\a4 h I=Z (u,d)/\∀v V6 j cf,c4 V6 u v j->c4 V6 d f cf->bG Ws (Wb++Wo) V6 (j++cf)->G v V6:=by
 let⟨y,N,u,@Wv,O,ao,b,p⟩:=c;unfold g8 at b;split at b
 ·rename_i C H;split at b
  ·rename_i br;let⟨f,be,@bi,k,J,W,W⟩:=O.out H;refine⟨f,k,B m C f _ J br,?_⟩;let⟨@⟨Q,We⟩,A,E⟩:=bZ.mp b;let⟨@⟨I,WO⟩,M,i⟩:=bZ.mp E;refine⟨y,N,Q,We,O,ao,A,λV7 Wh Wx j R WC S=>?_⟩;let⟨WE,@Wo,T,WG,WT⟩:=qp R WC M;dsimp only at i;split at i
   ·rename_i h U;let⟨@⟨W3,d⟩,al,am⟩:=cU.mp i;cases am;let⟨bm,Wb,@n,q,an,r,ap⟩:=T.out U;rw[k]at q;cases q;have s:bG m N Wh ((Wb++Wo)++n):=S.mw (WT.symm.trans ((gj Wo ap.symm).trans (by
     rw[bM];exact dW)))
    have t:=dD.mp s.ao;refine⟨h,I,_,d,Wb,Wo,an,WG,t.1,al,λv V6 P WA as jU l=>?_⟩;have a1:bP V6 (WO.set a<|Z .dS) D n:=r.mono l.tup λg a2 o e=>l.keep g o e λc=>t.2.2 g c g a2 rfl;let⟨w,@z,x,bd⟩:=a1.back jU k;rw[Az]at x;refine p v V6 w P x as ((s.trans l r.chg).less (aT:=z) ?_);rw[bM];refine (eL w dW).trans ?_;rw[<-bM];refine (gj P bd).trans ?_;rw[bM];refine dW.trans ?_;rw[bM];refine dW.trans ?_;rw[bM,bM];refine (eL P ?_);exact dW
   ·cases i
  ·cases b
 ·cases b
section
variable{b:aR}
def kf:∀(m:aG) (h:ai) (f:ar) (Wb:List aj),c4 m h f Wb->hV h=aa->nz V8 "list" f m:=by
 intro m h f Wb c e;cases h with
 |lst I=>let⟨g,@w,rfl,A,W⟩:=c;exact .inl ⟨rfl,w,dC.of A⟩
 |jc I=>let⟨g,w,@z,rfl,A,W⟩:=c;exact .inl ⟨rfl,w,dC.of A⟩
 |_=>cases e
def lC{a4:ai->List ai->Option (ai×ai)}{e:bF}{V_:List bF}(d:∀m h f Wb,c4 m h f Wb->ty h=aa->nz b.K F f m)(b7:v3 F)(g:Slot F name id)(br:si (.builtin id)=pure (.type "method_descriptor"))(i:rq b id a4)(j:bU b o (ml a))(k:gC b (e::V_) L)(l:vP o name b.env (cE o b.env)=cE o b.env:=by rfl)(n:((hj Xk<|b5 (e::V_) b.env).all (λf=>!f.1)&&(backToKw Xk<|keywordEach [] b.env).all (λf=>f.1.isSome)
   && decide ((e::V_).length+([]:List s7).length+(if ([]:List s7).isEmpty then 0 else 1)<30))=aa:=by rfl)(p:(Xq.endLine==Xk.line)=aa:=by rfl)(Wd:b5 (e::V_) b.env=(aw,cE e b.env)::b5 V_ b.env:=by rfl)(q:(hj Xk<|b5 V_ b.env).any (·.1)=aw:=by rfl):
  cx b (.Call (.Attribute o name Xq) (e::V_) [] Xk) (g8 ty a a4 L):=
 eQ (Kb b7 g br i j k l n p Wd q) λD m G c=>by
  let⟨@f,r,A,E⟩:=Eg d c;exact⟨f,r,A,E⟩
def Dl{a4:ai->List ai->Option (ai×ai)}(d:∀m h f Wb,c4 m h f Wb->ty h=aa->nz b.K F f m)(b7:v3 F)(e:Slot F name id)(br:si (.builtin id)=pure (.type "method_descriptor"))(g:rq b id a4)(i:bU b o (ml a))(j:vP o name b.env (cE o b.env)=cE o b.env:=by rfl)(k:(Xq.endLine==Xk.line)=aa:=by rfl):
  cx b (.Call (.Attribute o name Xq) [] [] Xk) (g8 ty a a4 ax):=
 eQ (T6 b7 e br g i j k) λD m G c=>by
  let⟨@f,l,A,E⟩:=Eg d c;refine⟨f,l,A,?_⟩;let⟨y,N,u,@Wv,O,ao,n,p⟩:=E;cases n;exact p [] m N [] O ⟨rfl,rfl⟩ (by rw[cO];exact bG.perm ao (List.Perm.refl _))
@[simp] def km:ai->List ai->Option (ai×ai):=λh I=>match h,I with
 |.lst w,[.im s]=>if w.length<100000 then Z (.im .a6,.lst<|w++[s]) else Y
 |_,_=>Y
def Ae{r:Nat}(c:r<100000):r<sizeLine:=gm c ∅
def nr:rq b "list.append" km:=by
 intro R j D m f V7 v Wy G H a c d;let⟨h,I,u,q,Wb,@Wo,i,k,ao,e,p⟩:=d;unfold km at e;split at e
 ·split at e
  ·rename_i l;cases e;let⟨g,@Wn,rfl,A,E,rfl⟩:=i;let⟨C,B,r,@s,rfl,@⟨n,rfl⟩,@⟨rfl,rfl⟩,rfl⟩:=k;have h:ht m g:=⟨_,A,(λ_ e=>by cases e),(λ_ W e=>by cases e)⟩;refine MZ R j D m _ _ v Wy G H a c ⟨g,Wn,C,rfl,rfl,A,Ae (by rw[<-E.length];exact l),p .a6 _ [] [g] ⟨rfl,rfl⟩ ?_ (bG.chg (.head _) h (e9 _ _) λf o=>by simpa using o)⟩;exact⟨g,_,rfl,fB,(E.snoc n).mono<|cR.mT h,rfl⟩
  ·cases e
 ·cases e
@[simp] def tY:ai->List ai->Option (ai×ai):=λh I=>match h,I with
 |.lst w,[]=>(w.getLast?).map λs=>(.im s,.lst w.dropLast)
 |_,_=>Y
def bT.last{I:List ae}{w:List ar}{s:ae}(c:bT m I w)(e:I.getLast?=Z s):∃v,w[w.length-1]?=Z v/\cR m s v/\bT m I.dropLast w.dropLast:=by
 rw[Jy]at e;let⟨@v,a,b⟩:=c.get e;refine⟨v,by rw[<-c.length];exact a,b,?_⟩;rw[BQ,BQ,<-c.length];exact c.take _
def Gs:rq b "list.pop" tY:=by
 intro R j D m f V7 v Wy G H a c d;let⟨h,I,u,w,Wb,@Wo,i,k,ao,e,p⟩:=d;unfold tY at e;split at e
 ·let⟨@s,l,n⟩:=cU.mp e;cases n;let⟨g,@Wn,rfl,A,E,rfl⟩:=i;let@⟨rfl,rfl⟩:=k;let⟨@C,o,q,r⟩:=E.last l;have h:ht m g:=⟨_,A,(λ_ e=>by cases e),(λ_ W e=>by cases e)⟩;refine OX R j D m _ _ v Wy G H a c ⟨g,Wn,C,rfl,rfl,A,o,p C _ [] [g] ⟨q.mono<|cR.mT h,rfl⟩ ?_ (bG.chg (.head _) h (e9 _ _) λf t=>by simpa using t)⟩;exact⟨g,_,rfl,fB,r.mono<|cR.mT h,rfl⟩
 ·cases e
@[simp] def sa:ai->List ai->Option (ai×ai):=λh I=>match h,I with
 |.lst w,[.im (.int a)]=>if 0<=a/\a<w.length then (w[a.toNat]?).map λs=>(.im s,.lst<|w.eraseIdx a.toNat) else Y
 |_,_=>Y
theorem bT.erase:∀{I:List ae}{w:List ar} (r:Nat),bT m I w->bT m (I.eraseIdx r) (w.eraseIdx r)
 |[],w,r,c=>by cases (show w=[] from c);exact rfl
 |s::I,w,0,c=>by let⟨v,@u,rfl,A,E⟩:=c;exact E
 |s::I,w,r+1,c=>by let⟨v,@u,rfl,A,E⟩:=c;exact⟨v,_,rfl,A,E.erase r⟩
def Po:rq b "list.pop" sa:=by
 intro R j D m f V7 v Wy G H c d i;let⟨h,I,u,x,Wb,@Wo,k,l,ao,e,p⟩:=i;unfold sa at e;split at e
 ·rename_i a;split at e
  ·rename_i S;let⟨@s,n,o⟩:=cU.mp e;cases o;let⟨g,@Wn,rfl,A,E,rfl⟩:=k;let⟨C,B,y,@z,rfl,@⟨q,rfl⟩,@⟨rfl,rfl⟩,rfl⟩:=l;cases (show C=.int a from q);let⟨@C,r,t⟩:=E.get n;have h:ht m g:=⟨_,A,(λ_ e=>by cases e),(λ_ W e=>by cases e)⟩;have F:Wn.length<=sizeLine:=(H.bg g _ A).1;have J:=oe;refine Qr R j D m _ _ v Wy G H c d ⟨g,Wn,a,a.toNat,C,rfl,rfl,A,⋯,by have:=E.length;lia,vx S.1 (by rw[<-E.length];exact S.2),r,p C _ [] [g] ⟨t.mono<|cR.mT h,rfl⟩ ?_ (bG.chg (.head _) h (e9 _ _) λf w=>by simpa using w)⟩;exact⟨g,_,rfl,fB,(E.erase _).mono<|cR.mT h,rfl⟩
  ·cases e
 ·cases e
def uy(b:aR)(t:ai->ai->ai->Option ai):Prop:=(
 xy b λo a v m G=>∃h n s c Wb Wo,c4 m h o Wb/\c4 m n a []/\c4 m s v Wo/\(Wb++Wo).Nodup/\t h n s=Z c/\∀V6 d,c4 V6 c o d->bG m (Wb++Wo) V6 d->G V6)
@[simp] def pP(h n s:ai):Option ai:=match h,n,s with
 |.lst w,.im<|.int a,.im s=>(kK w.length a).map λi=>.lst (w.set i s)
 |_,_,_=>Y
theorem bT.set{m:aG}{s:ae}{v:ar}(l:cR m s v):∀{I:List ae}{w:List ar} (r:Nat),bT m I w->bT m (I.set r s) (w.set r v)
 |[],w,r,c=>by cases (show w=[] from c);exact rfl
 |e::I,w,0,c=>by let⟨J,@u,rfl,A,E⟩:=c;exact⟨v,u,rfl,l,E⟩
 |e::I,w,r+1,c=>by let⟨J,@u,rfl,A,E⟩:=c;exact⟨J,_,rfl,A,bT.set l r E⟩
def GY:uy b pP:=by
 intro R j D m o a v c d J G H k l q r;let⟨h,n,s,z,Wb,@Wo,t,iD,u,ao,e,p⟩:=r;unfold pP at e;split at e
 ·let⟨@i,w,x⟩:=cU.mp e;cases x;let⟨g,@Wn,rfl,A,E,rfl⟩:=t;let@⟨hd,rfl⟩:=u;have h:ht m g:=⟨_,A,(λ_ e=>by cases e),(λ_ W e=>by cases e)⟩;refine QU R j D m _ _ _ c d J G H k l q ⟨g,Wn,_,i,rfl,iD.1,A,by rw[<-E.length];exact w,p _ [g] ?_ (bG.chg (.head _) h (e9 _ _) λf y=>by simpa using y)⟩;exact⟨g,_,rfl,fB,(bT.set hd i E).mono<|cR.mT h,rfl⟩
 ·cases e
@[simp] def kc(a:Nat)(b:aF ai)(t:ai->ai->ai->Option ai):gu:=λs y=>match y[a]? with
 |some (Z _)=>(b y).bind λq=>if q.1.fm=aa then match q.2[a]? with
   |some (Z h)=>(t h q.1 s).map λc=>q.2.set a (Z c)
   |_=>Y
  else Y
 |_=>Y
def nT{WK:List Nat}{n:bF}{w:aF ai}{t:ai->ai->ai->Option ai}{Wq:Pos}(L:bU b o (ml a))(M:cx b n w)(P:uy b t)(d:∀v,jA (.Subscript o n Wq) b.env v=(do
   let i <-holding [v] (cE o b.env)
   let q <-holding [v,i] (cE n b.env)
   standAt Wq
   holding [v,i,q] (vC i q v)
   release [v,i,q] []):=by intro W;rfl):ix b WK (.Subscript o n Wq) (kc a w t):=by
 refine xo (QN L M P d) λv D m G Q=>?_;let⟨y,N,s,Wb,@Wv,O,WG,ao,k,p⟩:=Q;unfold kc at k;split at k
 ·rename_i bs R;let⟨f,bv,@ca,r,cd,W,W⟩:=O.out R;let⟨@⟨j,We⟩,A,E⟩:=bZ.mp k;split at E
  ·rename_i S;refine⟨f,r,y,N,j,We,O,(dD.mp ao).1,A,λce Wh Wx ch T iD l=>?_⟩;obtain rfl:=iD.fm S;rw[cO]at l;have U:=dD.mp ao;dsimp only at E;split at E
   ·rename_i h al;let⟨@am,an,ap⟩:=cU.mp E;cases ap;let⟨ci,x,@B,C,as,F,a1⟩:=T.out al;rw[r]at C;cases C;have a2:c4 Wh s v Wb:=WG.mono l.tup λg d o e=>l.keep g o e λc=>U.2.2 g c g d rfl;have H:bG m (N++Wb) Wh ((x++Wb)++B):=by
     have bd:bG m (N++Wb) m (N++Wb):=bG.perm ao (List.Perm.refl _);have:=bG.trans (Wx:=N) (Wb:=Wb) bd l WG.chg;refine this.mw ((gj Wb a1.symm).trans ?_);rw[bM];exact dW
    have I:=dD.mp H.ao;refine⟨h,j,s,am,x,Wb,as,iD,a2,I.1,an,λV6 cl be u=>?_⟩;have bi:bP V6 (We.set a<|Z .dS) D B:=F.mono u.tup λg d o e=>u.keep g o e λc=>I.2.2 g c g d rfl;let⟨bm,@z,J,bn⟩:=bi.back be r;rw[Az]at J;exact p D V6 bm eh.refl J ((H.trans u F.chg).less<|bn.trans dW)
   ·cases E
  ·cases E
 ·cases k
end
end L2
namespace L2
open Spec PyProof.Rows PySem.W
variable{Wu:List Int}{q:Array Nat}{Ww:Type}
def Uv(t:List Ww)(s:Ww):(range t.length).map (λa=>t.getD a s)=t:=by
 apply Fz
 ·simp
 ·intro a A E;simp[List.getD,E]
def x2{t:List Ww}{s:Ww}(c:dA t.length q):(q.toList.map λa=>t.getD a s).Perm t:=by
 have:=yF (λa=>t.getD a s) c;rw[Uv]at this;exact this
theorem wK{Ww W_:Type}{N:Ww->W_->Prop}:∀{b:List Ww}{e:List W_},b.length=e.length->(∀(a:Nat) g d,b[a]?=Z g->e[a]?=Z d->N g d)->eP N b e
 |[],[],_,_=>.nil
 |g::t,d::k,c,x=>.cons (x 0 g d rfl rfl) (wK ⇑c λa f C A E=>x (a+1) f C ⇑A ⇑E)
 |[],_::_,c,_=>by simp at c
 |_::_,[],c,_=>by simp at c
section
variable{Wf:bS}{l:bA}{P:bH}{Wa:ag->au->Prop}{j:au}{V7:List ag}
def CY{WA:aj}{p:Nat}{T:PySem.Fin->au->Prop}(Q:Nat->Int)(Wz:hC)(f:j.heap.get? WA=Z (hz "list" V7.toArray p))(B:2<=V7.length->∀b:a_,(∀d o,d≠WA->j.heap.get? d=Z o->b.get? d=Z o)->∀G:hC->au->Prop,G Wz {j with heap:=b}->wpAny (aV Wf l) P (z7 V7.toArray) G Wa {j with heap:=b})(C:∀b:a_,(∀d o,d≠WA->j.heap.get? d=Z o->b.get? d=Z o)->gG V7.length Q (f6 Wf l P Wz<|V7.toArray.zip V7.toArray) {j with heap:=b})(up:V7.length<1001\/∀i,1<=i->i<V7.length->Q (i-1)<=Q i)(D:V7.length<=1000)(c:∀(q:Array Nat) (U:a_),dA V7.length q->i0 Q q V7.length->(∀d o,d≠WA->j.heap.get? d=Z o->U.get? d=Z o)->(∃e,U.get? WA=Z (hz "list" (q.toList.map λa=>V7.getD a ag.none).toArray e))->
   T (.done<|.ret .none) {j with heap:=U}):wpAny (aV Wf l) P (bl.«list.sort» ⟨[.ref WA],[]⟩) T Wa j:=by
 have y:V7.length<=sizeLine:=fu D ∅;rw[list_sort_plain];have S:WA<j.heap.objs.size:=cu f;refine aA (listItems_at f rfl (aA (GW f rfl ?_ (hsz:=by rw[cV];exact y) (hsz2:=by show 0<=_;exact f7 _))));have r:=FH f (λ_=>#[]);generalize al:(if (#[]:Array ag).size==V7.toArray.size then p else p+1)=z at r;refine aA (seqEpoch_at r rfl (aA (Hi (aA<|yf<|fK ?_) ⇑y)));have k:∀d o,d≠WA->j.heap.get? d=Z o->(((j.heap.update WA<|bk.mapSeq λ_=>#[]).push<|hz "tuple" V7.toArray.toList.toArray 0).push<|hz "list" ([]:List ag).toArray 0).get? d=Z o:=λd o m e=>
  cv _ (cv _<|(lP _ _<|g6 m).trans e);have R:(((j.heap.update WA<|bk.mapSeq λ_=>#[]).push<|hz "tuple" V7.toArray.toList.toArray 0).push<|hz "list" ([]:List ag).toArray 0).get? WA=Z (hz "list" #[] z):=
  cv _ (cv _ r);show wpAny (aV Wf l) P _ T Wa {j with heap:=((j.heap.update WA<|bk.mapSeq λ_=>#[]).push<|hz "tuple" V7.toArray.toList.toArray 0).push (hz "list" ([]:List ag).toArray 0)};generalize ((j.heap.update WA<|bk.mapSeq λ_=>#[]).push<|hz "tuple" V7.toArray.toList.toArray 0).push (hz "list" ([]:List ag).toArray 0)=b at k R ⊢;have fin:∀(O:bK) (q:Array Nat),dA V7.length q->i0 Q q V7.length->arrOf O=q.map (bt<|V7.toArray.zip V7.toArray)->i5 O=Y->
   wpAny (aV Wf l) P (do
    let I:=(<-seqEpoch WA) != z
    bl.List.listUpdate (.ref WA) λ_=>(arrOf O).map (·.2)
    if let Z e:=i5 O then rule "list.sort.comparison-raised";throw e
    if I then rule "list.sort.modified";raiseError "ValueError" "list modified during sort"
    ret .none) T Wa {j with heap:=b}:=λO q n t v w=>by
  have out:=kat_snds (ks:=V7) (vs:=V7) rfl v;rw[out,w];refine aA (seqEpoch_at (s:={j with heap:=b}) R rfl (aA (GW (s:={j with heap:=b}) R rfl ?_ (hsz:=f7 _) (hsz2:=by
   show (List.toArray<|q.toList.map λa=>V7.getD a ag.none).size<=_;rw[cV,aZ,eb,n.size];lia))))
  simp only[bne_self_eq_false,hJ,gf];refine aU (c q _ n t (λd o m e=>(lP _ _<|g6 m).trans<|k d o m e) ⟨_,FH R λ_=>_⟩)
 dsimp only;by_cases E:V7.toArray.size<2
 ·rw[aJ E,aJ E];refine aA (aU ?_);rw[StateT.run_pure];apply aA;apply aU;have x:V7.length<2:=by simpa using E
  refine fin (bK.mk' general' (V7.toArray.zip V7.toArray) #[] 7 Y) (range V7.length).toArray (List.Perm.refl _) (λa i am an=>?_) ?_ rfl
  ·have:a=i:=⋯
   subst this;exact jR _
  ·have:=kas_range (V7.toArray.zip V7.toArray);rw[show (V7.toArray.zip V7.toArray).size=V7.length by simp]at this;exact this.symm
 ·rw[aP E,aP E];have x:2<=V7.length:=by simpa using E
  refine aA (B x b k _ ?_)
  ·have L:=C b k;have A:=kas_range (V7.toArray.zip V7.toArray);rw[show (V7.toArray.zip V7.toArray).size=V7.length by simp]at A;have run:=P2 (Wa:=Wa) (G:=λ_ O V9=>V9={j with heap:=b}/\∃q,dA V7.length q/\i0 Q q V7.length/\arrOf O=q.map (bt<|V7.toArray.zip V7.toArray)/\i5 O=Y) L
    x up λM ap g d h s=>⟨rfl,M,g,d,h,s⟩;unfold wx at run;rw[A]at run;refine aA (iz run (λu V9 N=>?_) λ_ W e=>e);let⟨J,O⟩:=u;let@⟨rfl,⟨@q,n,t,v,w⟩⟩:=N;exact fin O q n t v w
end
section
variable{b:aR}{R:List (aj×bk)}{D:L2.a9}{m:aG}{j:au}
def Dk(bm:b.calm=aa){g:aj}{Wn:List ar}{Wl:List ag}{r:Nat}{F:String}{o:bk}{G:c5}(Q:Nat->Int)(Wz:hC)(H:aK b R D m j)(I:b1 Wn Wl)(T:F = "list" \/ F = "tuple")(e:j.heap.get? g=Z o)(aD:o.cls=.type F)(al:o.data=.seq Wl.toArray r)(bn:Wn.length<=1000)(am:2<=Wl.length->∀(c:a_) (WN:Nat),(∀d o,j.heap.get? d=Z o->c.get? d=Z o)->∀(P:bH) (Wa:ag->au->Prop) (G:hC->au->Prop),G Wz {j with heap:=c,toks:=WN}->wpAny (aV b.prog b.w) P (z7 Wl.toArray) G Wa {j with heap:=c,toks:=WN})(an:∀(c:a_) (WN:Nat),(∀d o,j.heap.get? d=Z o->c.get? d=Z o)->gG Wl.length Q (f6 b.prog b.w b.A.in1.in1 Wz<|Wl.toArray.zip Wl.toArray) {j with heap:=c,toks:=WN})(up:Wl.length<1001\/∀i,1<=i->i<Wl.length->Q (i-1)<=Q i)(p:∀(q:Array Nat) t,dA Wl.length q->i0 Q q Wl.length->m t=Y->G (.ref t) (upd m t<|.lst<|q.toList.map λa=>Wn.getD a .a6)):
  wpAny (aV b.prog b.w) b.A (call (.builtin "sorted") [.ref g]) (e4 b R D G) b.dc j:=by
 have bs:Wn.length=Wl.length:=I.length;have L:Wl.length<=sizeLine:=fu ⋯ (show 1000<=sizeLine by decide);refine zL kind_sorted HV Jq (E3 _) ?z
 case z=>
  unfold bl.«sorted»;refine aA (m:=checkCount "sorted" 1 1 _) (aU (aA (wpAny_collect_seq g T e aD al (λU u=>?_) (by rw[cV];exact L))));show wpAny _ _ (th Wl >>= _) _ _ _;refine aA (yf ?_ L);have M:(U.push<|hz "list" Wl.toArray 0).get? U.objs.size=Z (hz "list" Wl.toArray 0):=d4 _ rfl;have aY:∀d o,j.heap.get? d=Z o->(U.push<|hz "list" Wl.toArray 0).get? d=Z o:=λd o e=>cv _ (u d o e);have N:aK b R D m {j with heap:=U}:=H.kept (WJ:=j.toks) u;have O:∀d o,j.heap.get? d=Z o->d≠U.objs.size:=λd o e=>dP (cu<|u d o e);refine aA (fK<|j4 Ib ⟨_,M,rfl⟩ I8 ?C<|Ff _)
  case C=>
   refine CY (j:={j with heap:=U.push (hz "list" Wl.toArray 0)}) Q Wz M (λE c x G ap=>am E c j.toks (λd o h=>x d o (O d o h)<|aY d o h) _ _ G ap) (λc x=>an c j.toks λd o h=>x d o (O d o h)<|aY d o h) up ⋯ λq E y as WR ⟨a1,a2⟩=>⟨_,rfl,aU ⟨_,rfl,?_⟩⟩;have bd:m U.objs.size=Y:=N.bg.fresh (bb _);have be:∀d o,U.get? d=Z o->d≠U.objs.size:=λd o e=>dP (cu e);refine⟨.ref U.objs.size,upd m U.objs.size<|.lst<|q.toList.map λa=>Wn.getD a .a6,?_,rfl,p q _ y as bd⟩;refine N.laid (WJ:=j.toks) (λd J e=>WR d J (be d J e)<|cv _ e) (bb _) ⟨?_,_,a1,?_,a2⟩
   ·rw[aZ,eb,y.size];lia
   ·refine wK ↥0 λa v J A E=>?_;rw[fp]at A E;cases B:q.toList[a]? with
    |none=>rw[B]at A;cases A
    |some n=>
     rw[B]at A E;cases A;cases E;have S:n<Wl.length:=fI.mp (y.mem_iff.mp<|fH B);let⟨@J,s,bi⟩:=I.get (a:=n) (f:=Wn[n]'⋯) (by simp[show n<Wn.length by lia]);rw[eB S]at s;have s:=Option.some.inj s;simp only[List.getD,eB S,eB (show n<Wn.length by lia),zr];rw[s];exact bi
end
def qo(Wu:List Int)(a:Nat):Int:=(Wu.getD a 0)
def PH(ao:Wu.Nodup):∀a i,a<Wu.length->i<Wu.length->qo Wu a=qo Wu i->a=i:=λa i S b e=>by
 unfold qo at e;rw[cP,cP,eB S,eB b]at e;have d:Wu[a]=Wu[i]:=e;rcases oN a i with c|c|c
 ·exact absurd d ((oE.mp ao) a i S b c)
 ·exact c
 ·exact absurd d.symm ((oE.mp ao) i a b S c)
def KA(b:dA Wu.length q)(up:i0 (qo Wu) q Wu.length)(ao:Wu.Nodup):(q.toList.map λa=>Wu.getD a 0).Pairwise (· < ·):=by
 rw[oE];intro a i S c f;have Wd:=b.size;have h:a<Wu.length:=by simpa [Wd] using S
 have d:i<Wu.length:=by simpa [Wd] using c
 have ne:=b.ne (PH ao) f d;have le:=up a i ⋯ d;have L:∀n (e:n<(q.toList.map λa=>Wu.getD a 0).length),(q.toList.map λa=>Wu.getD a 0)[n]=bq (qo Wu) q n:=λn e=>by
  have g:n<q.size:=by simpa using e
  rw[Ep,IA];show _=Wu.getD (q.getD n 0) 0;simp[Array.getD,g]
 rw[L a S,L i c];lia
section
variable{b:aR}
theorem vp{m:aG}:∀{Wu:List Int}{Wl:List ag},b1 (Wu.map ar.int) Wl->∀(a:Nat),a<Wu.length->∃B,Wl[a]?=Z (.int (Wu.getD a 0) B)
 |r::u,_,.cons g d,0,c=>by let⟨@B,rfl⟩:=g;exact⟨B,rfl⟩
 |r::u,_,.cons g d,a+1,c=>by
  let⟨@B,e⟩:=vp (m:=m) d a ⇑c;exact⟨B,by simpa using e⟩
def R0(o:b.calm=aa):fl b (.builtin "sorted") (λw m G=>∃(g:aj) (Wu:List Int),w=[.ref g]/\m g=Z (.lst<|Wu.map ar.int)/\Wu.Nodup/\Wu.length<=1000/\
  ∀t (h:List Int),m t=Y->h.Perm Wu->h.Pairwise (· < ·)->G (.ref t) (upd m t<|.lst<|h.map ar.int)):=by
 intro R j D m w Wy G H u c;let⟨g,@Wu,rfl,s,ao,x,p⟩:=c;let⟨@J,rfl,y⟩:=iS u;cases y;let@⟨z,⟨Wl,@r,d,e⟩⟩:=H.bg g _ s;have k:Wl.length=Wu.length:=by rw[<-d.length,aZ]
 refine Dk o (qo Wu) oneType' H d (.inl rfl) e rfl rfl (by rw[aZ];exact x) (λE C WN n P Wa G I=>?_) (λC WN n=>?_) (.inl ⋯) λq t f l aW=>?_
 ·refine kas_kind (T:=ag.type "int") E (λv L=>?_) ∅ ∅ I;let⟨@a,S⟩:=vm L;let⟨@B,br⟩:=vp (m:=m) d a (by rw[<-k];exact (gk.mp S).1);rw[S]at br;cases br;exact Fp rfl
 ·intro a i aT S Q p;let⟨@B,A⟩:=vp (m:=m) d a ⋯;let⟨@J,E⟩:=vp (m:=m) d i ⋯;unfold f6;rw[vL rfl,vL rfl,cP,cP,A,E];show wpAny _ _ (keyLt' oneType' (.int _ B)<|.int _ J) _ _ _;rw[keyLt'_oneType];exact oneLt_int p
 ·rw[k]at f l;have M:(q.toList.map λa=>(Wu.map ar.int).getD a .a6)=(q.toList.map λa=>Wu.getD a 0).map ar.int:=by
   rw[fc];refine k_ λn N=>?_;have O:n<Wu.length:=fI.mp (f.mem_iff.mp N);show (Wu.map ar.int).getD n .a6=ar.int (Wu.getD n 0);simp[List.getD,O]
  rw[M];exact p t _ aW (x2 f) (KA f l ao)
end
end L2
namespace L2
open Spec PyProof.Rows
section
variable{b:aR}
def gP:List ae->List ae->List ae
 |f::w,C::Wn=>.tup [f,C]::gP w Wn
 |_,_=>[]
theorem Fj:∀(w Wn:List ae),(gP w Wn).length=min w.length Wn.length
 |[],Wn=>by simp[gP]
 |f::w,[]=>by simp[gP]
 |f::w,C::Wn=>by simp[gP,Fj w Wn]
theorem Ee:∀(w Wn:List ae) (a:Nat) (s:ae),(gP w Wn)[a]?=Z s->∃f C,w[a]?=Z f/\Wn[a]?=Z C/\s=.tup [f,C]
 |[],Wn,a,s,c=>by simp[gP]at c
 |f::w,[],a,s,c=>by simp[gP]at c
 |f::w,C::Wn,0,s,c=>by simp[gP]at c;exact⟨f,C,rfl,rfl,c.symm⟩
 |f::w,C::Wn,a+1,s,c=>by
  let⟨g,d,A,E,b⟩:=Ee w Wn a s (by simpa [gP] using c);exact⟨g,d,by simpa using A,by simpa using E,b⟩
@[simp] def jS(L:aF (List bX)):kZ:=λy=>(L y).bind λq=>(hr q.2 q.1).bind λI=>match I with
 |[.im (.tup f),.im<|.tup C]=>Z ((gP f C,Y),q.2)
 |_=>Y
theorem TZ{V8:Φ}{m:aG}{g d:aj}{w Wn:List ar}{I V_:List ae}(c:m g=Z (.tup w))(hd:bT m I w)(U:m d=Z (.tup Wn))(b:bT m V_ Wn):n6 (uG V8 g d) m [] (gP I V_) where
 go:=λV6 B n a s e=>by
  let⟨f,C,p,q,rfl⟩:=Ee I V_ a s e;let⟨v,h,r⟩:=hd.get p;let⟨J,WD,WR⟩:=b.get q;have i:=cD.of (V8:=V8) (B.tup g _ c);have k:=cD.of (V8:=V8) (B.tup d _ U);refine⟨⟨w,Wn,v,J,i,k,h,WD⟩,λA D ⟨F,E,G,x,t,u,y,z⟩=>?_⟩;subst t u;have l:=y w i;have o:=z Wn k;rw[h]at l;rw[WD]at o;cases l;cases o;have j:df V6 (upd V6 F<|.tup [v,J]):=(df.refl V6).upd x;exact⟨j,F,[v,J],rfl,fB,⟨v,[J],rfl,(r.mono B.tup).mono j.tupS.tup,J,[],rfl,(WR.mono B.tup).mono j.tupS.tup,rfl⟩⟩
 stop:=λV6 B n=>⟨w,Wn,cD.of<|B.tup g _ c,cD.of<|B.tup d _ U,by rw[Fj,<-hd.length,<-b.length];lia⟩
def sO{g d:bF}{L:aF (List bX)}{q Wq:Pos}{V_:List bF}{Xr:Nat}{Wk:Pos}(i:e6 b "zip")(j:b.aE "zip" = Y)(a:gC b [g,d] L)(Wd:b5 [g,d] b.env=[(aw,cE g b.env),(aw,cE d b.env)]:=by rfl)(k:b5 [d] b.env=[(aw,cE d b.env)]:=by rfl):
  nh b (.Tuple V_ Xr Wk) (.Call (.Name "zip" q) [g,d] [] Wq) (jS L):=by
 refine AQ (KQ i j a Wd k) λD m x ⟨y,N,u,Wv,O,ao,l,p⟩=>?_;let⟨⟨Q,We⟩,A,E⟩:=bZ.mp l;let⟨I,n,c⟩:=bZ.mp E;refine⟨y,N,Q,We,O,ao,A,λV7 Wh Wx z f WC o=>?_⟩;have r:=WC.read f n;split at c
 ·cases c;let⟨v,J,rfl,e,s⟩:=Bu r;let⟨g,w,rfl,WD,WR⟩:=e;let⟨d,Wn,rfl,h,t⟩:=s;exact⟨g,d,rfl,⟨w,cD.of WD⟩,⟨Wn,cD.of h⟩,p _ Wh Wx [] f (TZ WD WR h t) trivial (λg a=>nomatch a) (by rw[cO];exact o.both)⟩
 ·cases c
@[simp] def VJ:iZ:=λI=>match I with
 |[.im (.int a),.im<|.int i,.im<|.int n]=>Z (.im<|.int<|min (min a i) n)
 |_=>Y
def lD(lt:ae->ae->Bool)(f:ae):List ae->List ae
 |[]=>[f]
 |C::u=>if lt f C=aa then f::C::u else C::lD lt f u
def hy(lt:ae->ae->Bool):List ae->List ae
 |[]=>[]
 |f::u=>lD lt f (hy lt u)
def vd:ae->ae->Bool
 |.int a,.int i=>decide (a<i)
 |_,_=>aw
def te:List ae->Option (List Int)
 |[]=>Z []
 |.int a::u=>(te u).map λj=>a::j
 |_::_=>Y
@[simp] def zV:iZ:=λI=>match I with
 |[.lst f]=>(te f).bind λWu=>if Wu.Nodup/\Wu.length<=1000 then Z (.lst<|hy vd f) else Y
 |_=>Y
def nJ(f:Int):List Int->List Int
 |[]=>[f]
 |C::u=>if f<C then f::C::u else C::nJ f u
def qU:List Int->List Int
 |[]=>[]
 |f::u=>nJ f (qU u)
theorem CW(f:Int):∀t:List Int,lD vd (.int f) (t.map .int)=(nJ f t).map .int
 |[]=>rfl
 |C::u=>by
  rw[cS,lD,nJ,vd];by_cases c:f<C
  ·rw[aJ ⇑c,aJ c];rfl
  ·rw[aP ⇑c,aP c,CW f u];rfl
theorem GC:∀t:List Int,hy vd (t.map .int)=(qU t).map .int
 |[]=>rfl
 |f::u=>by rw[cS,hy,GC u,CW];rfl
theorem AY(f:Int):∀t:List Int,(nJ f t).Perm (f::t)
 |[]=>List.Perm.refl _
 |C::u=>by
  rw[nJ];split
  ·exact List.Perm.refl _
  ·exact ((AY f u).cons C).trans (List.Perm.swap f C u)
theorem y1:∀t:List Int,(qU t).Perm t
 |[]=>List.Perm.refl _
 |f::u=>(AY f _).trans ((y1 u).cons f)
theorem Jd(f:Int):∀t:List Int,t.Pairwise (·<=·)->(nJ f t).Pairwise (·<=·)
 |[],_=>e9 _ _
 |C::u,c=>by
  let⟨A,E⟩:=gL.mp c;rw[nJ];split
  ·rename_i d;refine gL.mpr ⟨λb a=>?_,c⟩;rcases cg.mp a with rfl|a
   ·lia
   ·have:=A b a;lia
  ·rename_i d;refine gL.mpr ⟨λb a=>?_,Jd f u E⟩;rcases cg.mp ((AY f u).mem_iff.mp a) with rfl|a
   ·lia
   ·exact A b a
theorem G5:∀t:List Int,(qU t).Pairwise (·<=·)
 |[]=>List.Pairwise.nil
 |f::u=>Jd f _ (G5 u)
def R_{t:List Int}(c:t.Nodup):(qU t).Pairwise (· < ·):=by
 have A:=G5 t;have E:(qU t).Nodup:=(y1 t).nodup_iff.mpr c;exact Og (λg d f C=>⋯) A E
theorem CM:∀{t k:List Int},t.Perm k->t.Pairwise (· < ·)->k.Pairwise (· < ·)->t=k
 |[],k,c,_,_=>c.nil_eq
 |g::t,[],c,_,_=>absurd c.length_eq ↥0
 |g::t,d::k,c,f,h=>by
  have a:=gL.mp f;have b:=gL.mp h;have e:g=d:=by
   rcases cg.mp (c.mem_iff.mp<|.head _) with z|z
   ·exact z
   ·rcases cg.mp (c.mem_iff.mpr<|.head _) with C|C
    ·exact C.symm
    ·have A:=a.1 d C;have E:=b.1 g z;omega
  subst e;rw[CM c.cons_inv a.2 b.2]
theorem DY:∀{f:List ae}{Wu:List Int},te f=Z Wu->f=Wu.map .int
 |[],Wu,c=>by cases c;rfl
 |.int a::u,Wu,c=>by
  rw[te]at c;let⟨j,A,rfl⟩:=cU.mp c;rw[DY A];rfl
 |.a6::_,_,c=>by cases c
 |.ay _::_,_,c=>by cases c
 |.str _::_,_,c=>by cases c
 |.tup _::_,_,c=>by cases c
 |.fn _::_,_,c=>by cases c
 |.aW _::_,_,c=>by cases c
 |.fd::_,_,c=>by cases c
theorem CF{m:aG}:∀{Wu:List Int}{V7:List ar},bT m (Wu.map .int) V7->V7=Wu.map ar.int
 |[],V7,c=>c
 |r::u,V7,c=>by
  let⟨v,B,rfl,A,E⟩:=c;cases (show v=.int r from A);rw[CF E];rfl
theorem Ex{m:aG}:∀Wu:List Int,bT m (Wu.map .int) (Wu.map ar.int)
 |[]=>rfl
 |r::u=>⟨.int r,_,rfl,rfl,Ex u⟩
def OO(d:b.calm=aa)(i:b.A.units+20<b3):ia b (.builtin "sorted") zV:=by
 refine (R0 d).imp λw m G ⟨I,s,g,e,p⟩=>?_;unfold zV at e;split at e
 ·rename_i f;let⟨Wu,h,a⟩:=bZ.mp e;split at a
  ·rename_i c;cases a;let⟨v,rfl,W,q,w,rfl,A,E,W⟩:=gy g;cases DY h;cases CF E;refine⟨q,Wu,rfl,A,c.1,c.2,λt j aW WT up=>?_⟩;rw[GC]at p;rw[CM (WT.trans (y1 Wu).symm) up (R_ c.1)];exact cq.l p aW (Ex _)
  ·cases a
 ·cases e
def x9(a:b.A.units+20<b3):uy b pP:=GY
end
end L2
namespace L2
variable{g c L d:bJ}{e:aF ai}{own k r:Nat}{I:List ai}{WK:List Nat}{o:Option (Nat×ai)}{w:List ae}{s:ai}{We y:bc}{h:aF Bool}{WL:gu}{Ww:Type}{i a:Int}
@[simp] theorem VH(s:ae)(y:bc):aD s y=Z (.im s,y):=rfl
@[simp] theorem Gl(y:bc):ax y=Z ([],y):=rfl
@[simp] theorem V0(y:bc):ep y=Z (.bf,y):=rfl
@[simp] theorem VR(y:bc):di y=Z (Y,y):=rfl
@[simp] theorem VV(y:bc):cB y=Z (aa,y):=rfl
@[simp] theorem VQ(s:ae):(ai.im s).fm=aa:=rfl
@[simp] theorem VW(s:List ae):(ai.c_ s).fm=aa:=rfl
@[simp] theorem VO(s:List ae):(ai.lst s).fm=aw:=rfl
@[simp] theorem V3(s:List (List ae×ae)):(ai.aH s).fm=aw:=rfl
@[simp] theorem VT(s:List (e8×ae)):(ai.ee s).fm=aw:=rfl
@[simp] theorem Tq(y:bc)(s:ai):dQ y (.cC s)=Z s:=rfl
@[simp] theorem V1(y:bc)(a:Nat):dQ y (.aO a)=(y[a]?).getD Y:=rfl
@[simp] theorem Tz(y:bc):hr y []=Z []:=rfl
@[simp] theorem Lv(y:bc)(o:bX)(Q:List bX):hr y (o::Q)=(dQ y o).bind λs=>(hr y Q).map λI=>s::I:=rfl
@[simp] theorem RA(y:bc):gr [] y=Z ([],y):=rfl
@[simp] theorem NL(s:ai)(Q:List bX)(y:bc):gr (.cC s::Q) y=(gr Q y).map λq=>(s::q.1,q.2):=rfl
@[simp] theorem VX(a:Nat)(Q:List bX)(y:bc):gr (.aO a::Q) y=(d2 a y).bind λq=>(gr Q q.2).map λp=>(q.1::p.1,p.2):=rfl
@[simp] theorem VU:ja []=Z []:=rfl
@[simp] theorem V4(s:ae)(I:List ai):ja (.im s::I)=(ja I).map λu=>s::u:=rfl
@[simp] theorem KE(d:Bool):pd (.im<|.ay d)=Z d:=rfl
def o3(A : -(2^64)<i)(E:i<2^64):iB a i=aa:=by
 have:bl.Int.intBits i<=64:=I2 A E;have U:¬ (bl.Int.intBits i>vg):=xq.mpr this;unfold iB;rw[cW U];simp
def NX(A : -(2^64)<a)(E:a<2^64):iB a i=aa:=by
 have:bl.Int.intBits a<=64:=I2 A E;have U:¬ (bl.Int.intBits a>vg):=xq.mpr this;unfold iB;rw[cW U];simp
def F2{w:List Ww}(c:w.length<=r):w.take r=w:=sP c
def qv(w:List Ww)(n:Nat):bO w (Z (n:Int)) Y=w.drop n:=by
 unfold bO;rw[dK.HQ,dK.HI];by_cases c:n<=w.length
 ·rw[qa c,F2 (by rw[f9];lia)]
 ·rw[Cx ⋯,w2,pX,og ⋯]
def JC(w:List Ww)(n:Nat):bO w Y (Z (n:Int))=w.take n:=by
 unfold bO;rw[dK.HQ,dK.HI,l_,Du];by_cases c:n<=w.length
 ·rw[qa c]
 ·rw[Cx ⋯,rC,F2 ⋯]
def lr{w:List Ww}{s:Ww}(b:0<=a)(c:w[a.toNat]?=Z s):dv w a=Z s:=by
 unfold dv kK;have S:a.toNat<w.length:=(gk.mp c).1;rw[aJ b,aJ ⋯];exact c
def pT{w:List Ww}{s:Ww}(c:w.getLast?=Z s):dv w (-1)=Z s:=by
 rw[Jy]at c;have S:w.length-1<w.length:=(gk.mp c).1;unfold dv kK;rw[aP ∅,aJ ⋯];show w[(-1+(w.length:Int)).toNat]?=Z s;rw[show (-1+(w.length:Int)).toNat=w.length-1 by lia];exact c
def PW(H:Nat->bc->Prop)(Wb:ai->bc->Prop):∀{w:List ae}{y:bc},H 0 y->
  (∀(a:Nat) (f:ae) (y:bc),w[a]?=Z f->H a y->∃We aW WO,WL (.im f) y=Z We/\d We=Z (aW,WO)/\(((aW=.bf\/aW=.ck)/\H (a+1) WO)\/∃s,aW=.eI s/\Wb s WO))->
  (∃Wv,d5 WL d w y=Z (.bf,Wv)/\H w.length Wv)\/∃s Wv,d5 WL d w y=Z (.eI s,Wv)/\Wb s Wv:=by
 intro w;induction w generalizing H with
 |nil=>intro y b W;exact .inl ⟨y,rfl,b⟩
 |cons f u g=>
  intro y b c;let⟨We,aW,@WO,A,E,h⟩:=c 0 f y rfl b;rcases h with ⟨i,j⟩|⟨s,rfl,k⟩
  ·have:=g (λa=>H<|a+1) (y:=WO) j λa C Wv l m=>c (a+1) C Wv ⇑l m;have e:d5 WL d (f::u) y=d5 WL d u WO:=by
    rw[d5];dsimp only;rw[A];show (d We).bind _=_;rw[E];rcases i with rfl|rfl<;>rfl
   rw[e];exact this
  ·refine .inr ⟨s,WO,?_,k⟩;rw[d5];dsimp only;rw[A];show (d We).bind _=_;rw[E];rfl
def vI(H:Nat->bc->Prop){w:List ae}{y:bc}(b:H 0 y)(c:∀(a:Nat) (f:ae) (y:bc),w[a]?=Z f->H a y->∃We aW WO,WL (.im f) y=Z We/\d We=Z (aW,WO)/\(aW=.bf\/aW=.ck)/\H (a+1) WO):
  ∃Wv,d5 WL d w y=Z (.bf,Wv)/\H w.length Wv:=by
 rcases PW H (λ_ W=>False) b (λa f y e g=>by
  let⟨We,aW,@WO,A,E,h,i⟩:=c a f y e g;exact⟨We,aW,WO,A,E,.inl ⟨h,i⟩⟩) with c|⟨_,_,_,c⟩
 ·exact c
 ·exact c.elim
def ps(H:Nat->bc->Prop)(b:bc->Prop)(step:∀k y,H k y->∃B We,h y=Z (B,We)/\(B=aa->∃aW WO,d We=Z (aW,WO)/\(aW=.bf\/aW=.ck)/\∃a,a<k/\H a WO)/\(B=aw->b We)):
  ∀(r k:Nat) (y:bc),H k y->k<r->∃Wv,jn h d r y=Z (.bf,Wv)/\b Wv:=by
 intro r;induction r with
 |zero=>intro k y W c;lia
 |succ r e=>
  intro k y f n;let⟨B,@We,A,E,g⟩:=step k y f;rw[jn];dsimp only;rw[A];cases B with
  |false=>exact⟨We,rfl,g rfl⟩
  |true=>
   let⟨aW,@WO,i,hf,⟨@a,o,j⟩⟩:=E rfl;let⟨@Wv,l,m⟩:=e a WO j ⋯;refine⟨Wv,?_,m⟩;simp only[rP,iu,i];rcases hf with rfl|rfl<;>exact l
def Mg(w:List Ww):w.filter (λ_=>aa)=w:=BU.mpr λ_ W=>rfl
def iq(e:L y=Z (.bf,We)):bj L c y=c We:=by unfold bj;rw[e];rfl
def hx(e:L y=Z (.eI s,We)):bj L c y=Z (.eI s,We):=by unfold bj;rw[e];rfl
def vV{L:kZ}{WO:bc}{aW:nW}(e:L y=Z ((w,o),We))(c:d5 WL d w We=Z (aW,WO)):gh L WL d y=Z (aW,m8 o WO):=by
 unfold gh;rw[e];show (d5 WL d w We).map _=_;rw[c];rfl
def RQ{u:ai}(a:I.length=r)(e:L (I.map Z++List.replicate (k-r) Y)=Z (.eI u,y)):dp r k WK L I=Z (u,j7 WK I y 0):=by
 unfold dp;rw[aJ a,e]
def o8{WH:List Nat}{H:kZ}{a:bc}{I:List ae}(A:H y=Z ((w,o),We))(E:h8 own WL h e w [] (kN WH We)=Z (I,a)):b4 own WH H WL h e y=Z (.lst I,m8 o<|j5 WH a We):=by
 unfold b4;rw[A];show (h8 own WL h e w []<|kN WH We).map _=_;rw[E];rfl
def eJ{L:aF ai}(e:L y=Z (s,We)):cA L y=Z (.eI s,We):=by unfold cA;rw[e];rfl
def BG{a:Nat}{L:aF ai}(e:L y=Z (s,We))(c:a<We.length):bV a L y=Z (.bf,We.set a<|Z s):=by unfold bV;rw[e];show (if a<We.length then _ else _)=_;rw[aJ c]
def I1(e:h y=Z (aa,We)):dJ h g d y=g We:=by unfold dJ;rw[e];rfl
def I3(e:h y=Z (aw,We)):dJ h g d y=d We:=by unfold dJ;rw[e];rfl
def wa(y:bc){u:ai}{J:List ai}(a:I.length=r)(e:L (I.map Z++List.replicate (k-r) Y)=Z (.eI u,y))(b:j7 WK I y 0=J):dp r k WK L I=Z (u,J):=by
 rw[RQ a e,b]
theorem mm{Ww:Type}{own:Nat}{WL:gu}{h:aF Bool}{e:aF ai}{aT:bc}(b:Ww->ae)(q:Ww->Bool)(x:Ww->ae):∀(w:List Ww) (a:List ae),(∀f∈w,∃We WO,WL (.im<|b f) (List.replicate own Y++aT)=Z We/\h We=Z (q f,WO)/\(q f=aw->WO.drop own=aT)/\(q f=aa->∃F,e WO=Z (.im<|x f,F)/\F.drop own=aT))->
  a.length+w.length<=100000->h8 own WL h e (w.map b) a aT=Z (a++(w.filter q).map x,aT)
 |[],a,_,_=>by simp[h8]
 |f::u,a,c,i=>by
  let⟨We,@WO,A,E,j,k⟩:=c f (.head _);rw[dm]at i;rw[cS,h8,A];show (h We).bind _=_;rw[E];show (if q f=aa then _ else _)=_;cases d:q f with
  |false=>
   rw[aP dz];show h8 own WL h e (u.map b) a (WO.drop own)=_;rw[j d,mm b q x u a (λC g=>c C<|.tail _ g) ⋯,FO,d];rfl
  |true=>
   let⟨@F,l,m⟩:=k d;rw[aJ rfl];show (e WO).bind _=_;rw[l];show (if a.length<100000 then h8 own WL h e (u.map b) (a++[x f]) (F.drop own) else Y)=_;rw[aJ ⋯,m,mm b q x u (a++[x f]) (λC g=>c C<|.tail _ g) (by rw[b_,eO];lia),FO,d];simp
def fR{aT:bc}(a:Ww->ae)(x:Ww->ae)(w:List Ww)(c:∀f∈w,∃We WO F,WL (.im<|a f) (List.replicate own Y++aT)=Z We/\h We=Z (aa,WO)/\e WO=Z (.im<|x f,F)/\F.drop own=aT)(j:w.length<=100000):h8 own WL h e (w.map a) [] aT=Z (w.map x,aT):=by
 have:=mm (own:=own) (WL:=WL) (h:=h) (e:=e) (aT:=aT) a (λ_=>aa) x w [] (λf b=>by
  let⟨We,WO,@F,A,E,d,g⟩:=c f b;exact⟨We,WO,A,E,(λi=>by cases i),(λ_=>⟨F,d,g⟩)⟩) (by rw[gB];lia)
 rw[Mg]at this;exact this
theorem xR{Ww W_:Type}(a:Ww->ae)(b:W_->ae):∀(w:List Ww) (Wn:List W_),gP (w.map a) (Wn.map b)=(w.zip Wn).map λq=>.tup [a q.1,b q.2]
 |[],Wn=>by simp[gP]
 |f::w,[]=>by simp[gP]
 |f::w,C::Wn=>by simp[gP,xR a b w Wn]
def pb{W_:Type}(x:Ww->W_)(w:List Ww)(M S:Option Int):bO (w.map x) M S=(bO w M S).map x:=by
 unfold bO;rw[aZ,kF,jE]
end L2
namespace G
open L2
abbrev aC(a:Int):ai:=.im (.int a)
end G
namespace L2
open Spec PyProof.Rows
section
variable{b:aR}
def tN:ae->Option e8
 |.int a=>Z (.inl a)
 |.str f=>Z (.inr f)
 |_=>Y
@[simp] theorem VL(a:Int):tN (.int a)=Z (.inl a):=rfl
@[simp] theorem V2(f:aI):tN (.str f)=Z (.inr f):=rfl
def B7:e8->ae
 |.inl a=>.int a
 |.inr f=>.str f
@[simp] theorem VS(a:Int):B7 (.inl a)=.int a:=rfl
@[simp] theorem VM(f:aI):B7 (.inr f)=.str f:=rfl
def Ko{m:aG}{s:ae}{v:ar}{n:e8}(c:cR m s v)(e:tN s=Z n):v=ct n:=by
 cases s with
 |int a=>cases e;exact c
 |str f=>cases e;exact c
 |_=>cases e
def fs{Wz:Type}[DecidableEq Wz](Wm:List (Wz×ae))(n:Wz)(s:ae):List (Wz×ae):=(
 if (Wm.any λa=>decide (a.1=n))=aa then Wm.map (λa=>if a.1=n then (a.1,s) else a) else Wm++[(n,s)])
variable{Wz:Type}
def fx.any[DecidableEq Wz]{m:aG}{n:Wz}{t:List (Wz×ae)}{k:List (Wz×ar)}(c:fx m t k):(t.any λa=>decide (a.1=n))=(k.any λa=>decide (a.1=n)):=by
 unfold fx at c;induction c with
 |nil=>rfl
 |cons u _ b=>rw[nZ,nZ,b,u.1]
def fx.upd[DecidableEq Wz]{m:aG}{n:Wz}{s:ae}{v:ar}(l:cR m s v){t:List (Wz×ae)}{k:List (Wz×ar)}(c:fx m t k):fx m (t.map λa=>if a.1=n then (a.1,s) else a) (k.map λa=>if a.1=n then (a.1,v) else a):=by
 unfold fx at c;induction c with
 |nil=>exact .nil
 |@cons q p _ _ u _ d=>
  rw[cS,cS];refine .cons ?_ d;by_cases e:q.1=n
  ·have b:p.1=n:=u.1.symm.trans e;rw[aJ e,aJ b];exact⟨u.1,l⟩
  ·have b:¬ p.1=n:=λf=>e (u.1.trans f);rw[aP e,aP b];exact u
def Ks{Ww W_:Type}{N:Ww->W_->Prop}{t:List Ww}{k:List W_}{g:Ww}{d:W_}(c:eP N t k)(f:N g d):eP N (t++[g]) (k++[d]):=by
 induction c with
 |nil=>exact .cons f .nil
 |cons u _ a=>exact .cons u a
def fx.put[DecidableEq Wz]{m:aG}{n:Wz}{s:ae}{v:ar}(l:cR m s v){t:List (Wz×ae)}{k:List (Wz×ar)}(c:fx m t k):fx m (fs t n s) (iH k n v):=by
 unfold fs iH;rw[c.any];split
 ·exact c.upd l
 ·exact Ks c ⟨rfl,l⟩
@[simp] def G4:aF ai:=λy=>Z (.aH [],y)
def Qm{Wq:Pos}:cx b (.Dict [] [] Wq) G4:=by
 refine eQ K8 λD m G ⟨y,N,u,Wv,O,ao,c,p⟩ q a=>?_;cases c;have j:df m (L2.upd m q<|.aH []):=(df.refl m).upd a;have d:bG m N m (N++[]):=by rw[cO];exact bG.perm ao (List.Perm.refl _)
 exact p _ _ N [q] (O.mono j.tupS λg W o e=>j g o e) ⟨q,[],rfl,fB,.nil,rfl⟩ (d.new j (e9 _ _) (λg f=>by rw[cM.mp f];exact a) O.chg)
@[simp] def VK(a b:aF ai):aF ai:=λy=>(a y).bind λq=>(b q.2).bind λp=>match q.1,p.1 with
 |.im n,.im s=>(tN n).map λc=>(.ee [(c,s)],p.2)
 |_,_=>Y
@[simp] def hZ(h n s:ai):Option ai:=match h,n,s with
 |.lst w,.im<|.int a,.im s=>(kK w.length a).map λi=>.lst (w.set i s)
 |.ee Wm,.im n,.im s=>(tN n).bind λb=>if Wm.length<100000 then Z (.ee<|fs Wm b s) else Y
 |.aH Wm,.im<|.tup n,.im s=>if ae.keys 7 n=aa/\Wm.length<100000 then Z (.aH<|fs Wm n s) else Y
 |_,_,_=>Y
def sj(z:b.A.units+20<b3):uy b hZ:=by
 intro R j D m o a v C F J G H k i l I;let⟨h,n,s,L,Wb,@Wo,q,iD,r,ao,e,p⟩:=I;unfold hZ at e;split at e
 ·exact GY R j D m o a v C F J G H k i l ⟨_,_,_,L,Wb,Wo,q,iD,r,ao,e,p⟩
 ·let⟨@O,M,u⟩:=bZ.mp e;split at u
  ·rename_i c;cases u;let⟨g,@Wn,rfl,A,E,rfl⟩:=q;let@⟨hd,rfl⟩:=r;have h:ht m g:=⟨_,A,(λ_ e=>by cases e),(λ_ W e=>by cases e)⟩;cases k;have N:=Ko iD.1 M;subst N;refine Dt z H (oP.k A (by rw[<-E.length];exact Ae c)) i l λV9 x=>⟨_,x,p _ [g] ?_ (bG.chg (.head _) h (e9 _ _) λf y=>by simpa using y)⟩;exact⟨g,_,rfl,fB,(fx.put hd E).mono<|cR.mT h,rfl⟩
  ·cases u
 ·split at e
  ·rename_i c;cases e;let⟨g,@Wn,rfl,A,E,rfl⟩:=q;let@⟨hd,rfl⟩:=r;have h:ht m g:=⟨_,A,(λ_ e=>by cases e),(λ_ W e=>by cases e)⟩;cases k;let⟨d,@w,rfl,WD,WR⟩:=iD.1;refine Dt z H (oP.t A ⟨c.1,d,w,rfl,WD,WR⟩ (by rw[<-E.length];exact Ae c.2)) i l λV9 x=>⟨_,x,p _ [g] ?_ (bG.chg (.head _) h (e9 _ _) λf y=>by simpa using y)⟩;exact⟨g,_,rfl,fB,(fx.put hd E).mono<|cR.mT h,rfl⟩
  ·cases e
 ·cases e
end
section
variable{b:aR}
def FK:bX->ai->Option (Nat×ai)
 |.aO a,s=>Z (a,s)
 |.cC _,_=>Y
@[simp] theorem VY(a:Nat)(s:ai):FK (.aO a) s=Z (a,s):=rfl
@[simp] theorem V5(h s:ai):FK (.cC h) s=Y:=rfl
def SW{l:Nat}{a:aI}{i n:Pos}{WL Xb Xj:bF}{T:List bF}{WB:hQ}{Wq:Pos}{own:List aI}{WH:List Nat}{fV:dM}{L:kQ->hl}{I:kQ->e1}{Xd:kQ->cj}(t:b.N.Nodup)(u:b.N[l]?=Z a)(w:kT b.env.scope a)(z:b.calm=aa)(Wo:kk b WB own WH)(S:lX b WL Xb fV)(B:∀Wt,ks (b.gR (gM b own WH) WB Wt) WL<|L Wt)(br:∀Wt,rO (b.gR (gM b own WH) WB Wt) T<|I Wt)(C:∀Wt,bU (b.gR (gM b own WH) WB Wt) Xj<|Xd Wt)(Wd:∀f,nk Xb b.env f=pure f:=by intro W;rfl)(E:oD (.ListComp Xj [⟨WL,Xb,T,0⟩] WB Wq) (Z<|.Name a i) n.line b.env=pure aa:=by rfl)(F:b.fn a=aa\/b.env.scope.names.lookup a=Z .local:=by first|exact .inl rfl|exact .inr rfl|assumption):
  jq b (.Assign [.Name a i] (.ListComp Xj [⟨WL,Xb,T,0⟩] WB Wq) n) (xt (vw own WH fV L I Xd)<|Bh l):=by
 intro R j D m G H c;rw[exec_Assign_Name_used _ _ _ _ E];refine aA (uK<|aA ?_);show wpAny _ b.A (do let _ <-x8 (.ListComp Xj [⟨WL,Xb,T,0⟩] WB Wq) WB b.env _ (th []) aw (cE Xb b.env) (Z<|jA (.Name a i) b.env)) _ _ j;refine aA (iz (BS (use:=Z (jA (.Name a i) b.env)) (f1:=λ_ V9=>pZ b R G .next V9) z Wo S B br C Wd H c λy aT be J k M O x r s Q q p=>?_) (λ_ V9 al=>aU<|aU al) λ_ W e=>e);show wpAny _ b.A (jA (.Name a i) b.env<|.ref y) _ _ J;refine Dr (Dg M t u w (v:=.ref y) rfl (λam an ap=>?_) F);let⟨@g,as,h⟩:=ap;have a1:aT≠g:=by
  rcases h with rfl|h
  ·exact g6 r
  ·exact g6 (s _ _ h)
 exact⟨k,O.sameBut as a1,λU c0=>⟨_,_,an.turned (it:=aT) (WJ:=am.toks) (λd o a2 e=>(c0.2 d a2).trans e) x (g6 r) (.inr Q) s q,p⟩⟩
def tT{WK:List Nat}{a:Nat}{c:aI}{i d:Pos}{WL Xb Xj:bF}{T:List bF}{WB:hQ}{Wq:Pos}{own:List aI}{WH:List Nat}{H:kZ}{C:gu}{dq:aF Bool}{Xp:aF ai}(e:b.N.Nodup)(g:b.N[a]?=Z c)(h:kT b.env.scope c)(j:b.calm=aa)(Wo:kk b WB own WH)(ao:WH.Nodup)(S:nh b WL Xb H)(k:∀Wt,ix (b.gR (gM b own WH) WB Wt) (ql own.length WH.length) WL C)(br:∀Wt,vU (b.gR (gM b own WH) WB Wt) T dq)(l:∀Wt,cx (b.gR (gM b own WH) WB Wt) Xj Xp)(n:a∉WK)(Wd:∀f,nk Xb b.env f=pure f:=by intro W;rfl)(o:oD (.ListComp Xj [⟨WL,Xb,T,0⟩] WB Wq) (Z<|.Name c i) d.line b.env=pure aa:=by rfl)(q:b.fn c=aa\/b.env.scope.names.lookup c=Z .local:=by first|exact .inl rfl|exact .inr rfl|assumption):
  jC b WK (.Assign [.Name c i] (.ListComp Xj [⟨WL,Xb,T,0⟩] WB Wq) d) (bV a<|b4 own.length WH H C dq Xp):=by
 refine mF (SW e g h j Wo S k br l Wd o q) λWa D m r=>?_;let⟨y,N,aW,@Wv,O,s,t,p⟩:=r;let⟨@⟨u,We⟩,A,E⟩:=bZ.mp t;split at E
 ·rename_i w;cases E;refine CB ao ⟨y,N,u,_,O,s,A,λv Wh Wx Wb x WG z=>?_⟩;let⟨WE,@cf,B,WT⟩:=x.put (a:=a) WG w;exact p _ Wh WE (eh.set n) B (z.less WT)
 ·cases E
def Fm:ai->ai
 |.lst f=>.im (.aW f)
 |.aH []=>.im .fd
 |s=>s
@[simp] theorem VG(f:List ae):Fm (.lst f)=.im (.aW f):=rfl
@[simp] theorem VN(s:ae):Fm (.im s)=.im s:=rfl
variable{n:Nat}{x:aj}{fd:hA}{Wk:List aI}{f:aI}{q Wq:Pos}{e:bF}{V_:List bF}
def Nm{y:k1}{et:da}{Wa:ho}{t:cj}{B:fQ}{I:List ag}{i:List ar}(N:i8 b.prog b.w b.K b.aE b.base y n x fd Wk et)(g:fg n b.A)(h:bU b (.Name f q) t)(k:Θ b.K (.ref x)=aa)(o:iU b.K fd Wk I)(hd:b1 i I)(r:u6 y b Wa)(s:iy b (e::V_) B)(z:b5 (e::V_) b.env=(aw,cE e b.env)::b5 V_ b.env:=by rfl)(E:(hj Wq<|b5 V_ b.env).any (·.1)=aw:=by rfl):
  bU b (.Call (.Name f q) (e::V_) [] Wq) (λD m G=>t D m λv Wh=>v=.ref x/\yQ et i Wa B D Wh G):=by
 intro R j D m G H c;refine q7 (b6 (h R j D m _ H c) λv F J=>?_);let⟨C,@Wh,a,L,M,O⟩:=J;subst M;cases L;refine Dx (h₀:=b.base) a.ok.mod.vs k (b6 (s Wq R F D Wh _ a O) λWy S ⟨V7,Ws,d,u,p⟩=>⟨d.oK,?_⟩) z E;exact GL N g o hd r d u p
@[simp] def qs(a:Nat)(x:aj)(r:Nat)(z:dd)(L:aF (List bX)):aF ai:=λy=>match y[a]? with
 |some (Z<|.im<|.fn g)=>if g=x then a7 r z L y else Y
 |_=>Y
def UU{a r:Nat}{z:dd}{L:aF (List bX)}(N:i8 b.prog b.w b.K b.aE b.base iV n x fd Wk (k9 r z))(h:fg n b.A)(i:bU b (.Name f q) (ml a))(j:Θ b.K (.ref x)=aa)(k:iU b.K fd Wk [])(d:gC b (e::V_) L)(o:b5 (e::V_) b.env=(aw,cE e b.env)::b5 V_ b.env:=by rfl)(s:(hj Wq<|b5 V_ b.env).any (·.1)=aw:=by rfl):
  cx b (.Call (.Name f q) (e::V_) [] Wq) (qs a x r z L):=by
 refine eQ (Nm N h i j k .nil Fu d o s) λD m G t=>?_;let⟨y,B,u,@Wv,O,ao,c,p⟩:=t;unfold qs at c;split at c
 ·rename_i g hd;split at c
  ·rename_i d;subst d;let⟨v,Wx,@WE,A,E,C,F⟩:=O.out hd;exact⟨v,A,E.1,D5 ⟨y,B,u,Wv,O,ao,c,p⟩⟩
  ·cases c
 ·cases c
end
end L2
namespace dK
open Spec PyProof.Rows
section
variable{Wf:bS}{l:bA}{P:bH}{Wa:ag->au->Prop}{j:au}
def UG(r:Nat):bl.Slice.slicePlaces ((r:Int)-1) (-1) (-1)=r:=by
 unfold bl.Slice.slicePlaces;rw[aP ∅];split
 ·rw[show (- -1:Int)=1 by decide,HJ];lia
 ·show (0:Int).toNat=r;lia
variable{aO:aj}
def LS{B:iv}{r:Nat}{G:Int×Int×Nat->au->Prop}(Wd:j.heap.IsSliceOf aO .none .none (.int (-1) B))(c:G ((r:Int)-1,-1,r) j):wpAny (aV Wf l) P (bl.Slice.sliceApplied (.ref aO)<|pure (r:Int)) G Wa j:=by
 let⟨@Q,a,d,b⟩:=id Wd;unfold bl.Slice.sliceApplied bl.Slice.sliceFields;refine aA (aA<|hB a b (x:=.none) rfl<|aA<|hB a b (x:=.none) rfl<|aA<|hB a b (x:=.int (-1) B) rfl<|aU ?_);refine aA (JM ?_);show wpAny _ _ (if ((-1:Int)==0)=aa then _ else _) _ _ j;rw[aP ∅];refine aA (wR<|aA<|wR<|aA<|aU ?_);show wpAny _ _ (pure ((r:Int)-1,(-1:Int),bl.Slice.slicePlaces ((r:Int)-1) (-1)<|-1)) _ _ j;rw[UG];exact aU c
theorem Hz{Ww W_:Type}{x L:Ww->Option W_}:∀(t:List Ww),(∀f∈t,x f=L f)->t.filterMap x=t.filterMap L
 |[],_=>rfl
 |f::u,c=>by rw[pf,pf,c f<|.head _,Hz u λC a=>c C<|.tail _ a]
def Rk(w:Array ag):((range w.size).filterMap λ(k:Nat)=>w[((w.size:Int)-1+(k:Int)*(-1)).toNat]?).toArray=w.toList.reverse.toArray:=by
 have e:(range w.size).filterMap (λ(k:Nat)=>w[((w.size:Int)-1+(k:Int)*(-1)).toNat]?)=((range w.size).map λn=>w.size-1-n).filterMap (w[·]?):=by
  rw[H6];refine Hz _ λn a=>?_;have:=fI.mp a;show w[_]?=w[w.size-1-n]?;congr 1;lia
 rw[e,PySem.W.krv_range,List.filterMap_reverse,PySem.W.krv_all]
def PR{B:aj}{Wr:Array ag}{WN:iv}{G:ag->au->Prop}(br:oI j.heap B Wr)(Wd:j.heap.IsSliceOf aO .none .none (.int (-1) WN))(c:G (.ref j.heap.objs.size) {j with heap:=j.heap.push {cls:=.type "tuple",data:=.seq Wr.toList.reverse.toArray} })(b:Wr.size<=sizeLine):wpAny (aV Wf l) P (lR (.ref B)<|.ref aO) G Wa j:=by
 let⟨@Q,d,e,g⟩:=id Wd;have f:j.TypeIs (.ref aO) "slice" := ⟨Q,d,e⟩;unfold lR;try with_reducible refine fK ?_
 first|refine aA (aU ?_)|skip
 refine aA (zA br.typeIs ∅ ?_);refine aA (lG (name:=aI.ofString "__getitem__") br.typeIs mR<|j4 mR br.typeIs AS ?_<|zS _ _);show wpAny _ _ (bl.Tuple.tupleItemsOf (.ref B) >>= _) _ _ j;refine aA (Al br<|aA<|wpAny_typeOf f ?_);rw[aJ ∅];refine aA (LS Wd ?_);show wpAny _ _ (if (((Wr.size:Int)-1)==0&&(-1:Int)==1&&Wr.size==Wr.size)=aa then _ else _) _ _ j;rw[aP ↥0,Rk];have a:sizeOk (.seq Wr.toList.reverse.toArray):=by
  show Wr.toList.reverse.toArray.size<=sizeLine;simpa using b
 first
  | exact aA (m:=bl.Tuple.tupleExact _) (hD (aU ⟨_,rfl,aU c⟩) a)
  | exact aA (m:=bl.Tuple.tupleExact _) (hD (aA<|aU<|aU ⟨_,rfl,aU c⟩) a)
  | exact aA (aA (m:=bl.Tuple.tupleExact _)<|hD (aU<|aU ⟨_,rfl,aU c⟩) a)
  | exact aA (aA (m:=bl.Tuple.tupleExact _)<|hD (aU ⟨_,rfl,aU c⟩) a)
end
end dK
namespace L2
open Spec PyProof.Rows
section
variable{b:aR}
def KP(V8:Φ)(Xd a:cj):cj:=(λD m G=>Xd D m λf Wh=>a D Wh λC Ws=>C=.int (-1)/\∃g w,f=.ref g/\cD V8 Ws g w/\∀q,Ws q=Y->G (.ref q) (upd Ws q<|.tup w.reverse))
variable{e O:bF}{W4 Wq:Pos}
def Ln{Xd k:cj}(q:bU b e Xd)(Wd:bU b O k):bU b (.Subscript e (.Slice Y Y (Z O) W4) Wq) (KP b.K Xd k):=by
 intro R j D m G H c;refine yc (b6 (q R j D m _ H c) λv r h=>?_);let⟨f,@Wh,s,t,x⟩:=h;refine wpAny_Slice ?_;rw[A0,BO];refine aU (aU ?_);refine b6 (Wd R r D Wh _ s x) λV7 a h=>?_;let⟨C,@Ws,y,z,E,⟨g,@w,W7,F,p⟩⟩:=h;subst E W7;cases t;let⟨@B,rfl⟩:=z;have i:aK b R D Ws {a with heap:=a.heap.push {cls:=.type "slice",data:=.fields #[.none,.none,.int (-1) B]} }:=y.kept (WJ:=a.toks) λd I p=>cv _ p;let⟨@Wl,u,br,n⟩:=i.tuple F;show wpAny (aV b.prog b.w) b.A (AN e (.Slice Y Y (Z O) W4) (.ref g)<|.ref a.heap.objs.size) (e4 b R D G) b.dc {a with heap:=a.heap.push {cls:=.type "slice",data:=.fields #[.none,.none,.int (-1) B]} };refine z0 (ops:=[.ref g,.ref a.heap.objs.size]) br.typeIs mR.lookup (dK.PR br (a_.IsSliceOf.new ..) ?_ (by rw[cV,<-u.length];exact n)) (by with_unfolding_all rfl);refine⟨.ref _,_,i.laid (WJ:=a.toks) (o:=.tup w.reverse) (λd I p=>cv _ p) (bb _) ?_,rfl,p _<|i.bg.fresh<|bb _⟩;exact⟨by rw[mZ];exact n,Wl.reverse,u.reverse,mH.new _ _⟩
theorem bT.rev{m:aG}:∀{I:List ae}{w:List ar},bT m I w->bT m I.reverse w.reverse
 |[],w,c=>by cases (show w=[] from c);rfl
 |s::I,w,c=>by
  let⟨v,@u,rfl,A,E⟩:=c;rw[s9,s9];exact E.rev.app ⟨v,[],rfl,A,rfl⟩
@[simp] def jT(L:aF bX):aF ai:=λy=>(L y).bind λq=>(dQ q.2 q.1).bind λs=>match s with
 |.im (.tup f)=>Z (.im<|.tup f.reverse,q.2)
 |_=>Y
def uV{L:aF bX}(x:dX b e L)(Wd:cx b O (jI<|aD<|.int 1)):cx b (.Subscript e (.Slice Y Y (Z O) W4) Wq) (jT L):=by
 refine eQ (Ln x Wd) λD m G z=>?_;let⟨y,N,u,@Wv,O,ao,B,p⟩:=z;let⟨@⟨f,We⟩,A,E⟩:=bZ.mp B;let⟨@s,C,j⟩:=bZ.mp E;split at j
 ·rename_i P;cases j;refine⟨y,N,f,We,O,ao,A,λv Wh Wx Wb F WC k=>⟨We,Wx,.im<|.int<|-1,We,F,(dD.mp k.ao).1,rfl,λl Ws WE cf n H d=>?_⟩⟩;let@⟨I,rfl⟩:=H;rw[cO]at d;have WQ:i6 Ws D f v Wb:=WC.mono d.tup λg r o e=>d.keep g o e λc=>(dD.mp k.ao).2.2 g c g r rfl;have J:=k.trans d WC.chg;let⟨q,@w,rfl,WD,WR⟩:=(WQ.read n C).i;refine⟨I,q,w,rfl,cD.of WD,λt M=>?_⟩;have h:df Ws (upd Ws t<|.tup w.reverse):=(df.refl Ws).upd M;exact p _ _ WE [] (n.mono h.tupS λg W o e=>h g o e) ⟨⟨t,_,rfl,fB,(WR.mono h.tupS.tup).rev⟩,rfl⟩ (J.new h gU (λg r=>nomatch r) n.chg)
 ·cases j
end
variable{h g:bF}{Xo WV:m7}{dq W9 Xc:aF bX}{z x:gJ}{G:ag->au->Prop}{d:Bool}{WZ:ai}{J v:ag}{C f:ar}{j:au}{D:a9}{R:List (aj×bk)}{s:ae}{m:aG}{Wq:Pos}
theorem DT{c:a_}:∀(r:Nat) {f C:ae}{v:ag},ae.bI r f=aa->ae.bI r C=aa->eg c f v->eg c C v->f=C
 |r,.a6,C,v,_,ba,j,b=>by
  cases (show v=.none from j);cases C with
  |a6=>rfl
  |ay d=>cases b
  |int i=>let⟨@J,e⟩:=b;cases e
  |str l=>let⟨@J,e⟩:=b;cases e
  |tup I=>let⟨W,W,W,@W,e,W⟩:=b;cases e
  |fn g=>cases r<;>cases ba
  |aW g=>cases r<;>cases ba
  |fd=>cases r<;>cases ba
 |r,.ay d,C,v,_,ba,j,b=>by
  cases (show v=.bool d from j);cases C with
  |a6=>cases b
  |ay h=>cases b;rfl
  |int i=>let⟨@J,e⟩:=b;cases e
  |str l=>let⟨@J,e⟩:=b;cases e
  |tup I=>let⟨W,W,W,@W,e,W⟩:=b;cases e
  |fn g=>cases r<;>cases ba
  |aW g=>cases r<;>cases ba
  |fd=>cases r<;>cases ba
 |r,.int a,C,v,_,ba,j,b=>by
  let⟨@B,rfl⟩:=j;cases C with
  |a6=>cases b
  |ay h=>cases b
  |int i=>let⟨@J,e⟩:=b;injection e with e;rw[e]
  |str l=>let⟨@J,e⟩:=b;cases e
  |tup I=>let⟨W,W,W,@W,e,W⟩:=b;cases e
  |fn g=>cases r<;>cases ba
  |aW g=>cases r<;>cases ba
  |fd=>cases r<;>cases ba
 |r,.str a,C,v,_,ba,j,b=>by
  let⟨@B,rfl⟩:=j;cases C with
  |a6=>cases b
  |ay h=>cases b
  |int i=>let⟨@J,e⟩:=b;cases e
  |str l=>let⟨@J,e⟩:=b;injection e with e;rw[e]
  |tup I=>let⟨W,W,W,@W,e,W⟩:=b;cases e
  |fn g=>cases r<;>cases ba
  |aW g=>cases r<;>cases ba
  |fd=>cases r<;>cases ba
 |r+1,.tup I,C,v,t,ba,j,b=>by
  let⟨g,o,Wr,@k,rfl,A,E,w,x⟩:=j;cases C with
  |a6=>cases b
  |ay h=>cases b
  |int i=>let⟨@J,e⟩:=b;cases e
  |str l=>let⟨@J,e⟩:=b;cases e
  |fn g=>cases ba
  |aW g=>cases ba
  |fd=>cases ba
  |tup V_=>
   let⟨G,M,H,@L,e,q,N,m,y⟩:=b;cases e;rw[A]at q;cases q;rw[w]at m;injection m with m _;subst m;have all:∀(I V_:List ae) (V7:List ag),ae.de r I=aa->ae.de r V_=aa->el c I V7->el c V_ V7->I=V_:=by
    intro I;induction I with
    |nil=>
     intro V_ V7 W W g d;cases V_ with
     |nil=>rfl
     |cons e V_=>let⟨W,@W,p,W⟩:=d;rw[show V7=[] from g]at p;cases p
    |cons s I z=>
     intro V_ V7 WD WR g d;let⟨v,@u,rfl,D,F⟩:=g;cases V_ with
     |nil=>cases (show v::u=[] from d)
     |cons e V_=>
      let⟨O,@W3,p,dY,dH⟩:=d;cases p;rw[ae.de,cy]at WD WR;rw[DT r WD.1 WR.1 D dY,z V_ u WD.2 WR.2 F dH]
   rw[all I V_ _ t ba x y]
 |0,.tup _,_,_,n,_,_,_=>by cases n
 |r,.fn _,_,_,n,_,_,_=>by cases r<;>cases n
 |r,.aW _,_,_,n,_,_,_=>by cases r<;>cases n
 |r,.fd,_,_,n,_,_,_=>by cases r<;>cases n
open Classical in
def oQ(c:a_)(s:ae)(v:ag):Bool:=(if z:∃f,ae.bI 8 f=aa/\eg c f v then cT z.choose s else aw)
def rT{c:a_}{f:ae}(n:ae.bI 8 f=aa)(a:eg c f v):oQ c s v=cT f s:=by
 unfold oQ;have b:∃f,ae.bI 8 f=aa/\eg c f v:=⟨f,n,a⟩;rw[dif_pos b,DT 8 b.choose_spec.1 n b.choose_spec.2 a]
theorem sv{c:a_}{s:ae}:∀{I:List ae}{V7:List ag},ae.de 8 I=aa->el c I V7->V7.any (oQ c s)=I.any λf=>cT f s
 |[],V7,_,e=>by rw[show V7=[] from e];rfl
 |f::I,V7,n,e=>by
  let⟨v,@u,rfl,A,E⟩:=e;rw[ae.de,cy]at n;rw[nZ,nZ,rT n.1 A,sv n.2 E]
theorem tU{c:a_}:∀{I:List ae}{V7:List ag}{v:ag},ae.de 8 I=aa->el c I V7->v∈V7->∃f,ae.bI 8 f=aa/\eg c f v
 |[],V7,v,_,e,k=>by rw[show V7=[] from e]at k;cases k
 |f::I,V7,v,n,e,k=>by
  let⟨J,@u,rfl,A,E⟩:=e;rw[ae.de,cy]at n;rcases cg.mp k with rfl|k
  ·exact⟨f,n.1,A⟩
  ·exact tU n.2 E k
section
variable{b:aR}
def fe(s:ae):ai->Option Bool
 |.im (.tup I)=>if (ae.bI 8 s&&ae.de 8 I)=aa then Z (I.any λf=>cT f s) else Y
 |.lst I=>if (ae.bI 8 s&&ae.de 8 I)=aa then Z (I.any λf=>cT f s) else Y
 |.aH Wm=>match s with
  |.tup n=>if ae.keys 7 n=aa then Z (eC Wm n).isSome else Y
  |_=>Y
 |.ee Wm=>match s with
  |.int a=>Z (eC Wm<|.inl a).isSome
  |.str f=>Z (eC Wm<|.inr f).isSome
  |_=>Y
 |_=>Y
@[simp] theorem Rd(s:ae)(I:List ae):fe s (.im<|.tup I)=if (ae.bI 8 s&&ae.de 8 I)=aa then Z (I.any λf=>cT f s) else Y:=rfl
@[simp] theorem JK(s:ae)(I:List ae):fe s (.lst I)=if (ae.bI 8 s&&ae.de 8 I)=aa then Z (I.any λf=>cT f s) else Y:=rfl
@[simp] theorem Bm(n:List ae)(Wm:List (List ae×ae)):fe (.tup n) (.aH Wm)=if ae.keys 7 n=aa then Z (eC Wm n).isSome else Y:=rfl
@[simp] def eX:gJ:=λg d=>match g with
 |.im s=>(fe s d).map λu=>.im (.ay u)
 |_=>Y
@[simp] def eH:gJ:=λg d=>match g with
 |.im s=>(fe s d).map λu=>.im (.ay<|!u)
 |_=>Y
def p7{Wz:Type}[DecidableEq Wz]{m:aG}{n:Wz}{Wm:List (Wz×ae)}{i:List (Wz×ar)}(c:fx m Wm i):(iM i n).isSome=(eC Wm n).isSome:=by
 cases e:eC Wm n with
 |none=>rw[(qL c).2 e];rfl
 |some s=>let⟨@v,A,W⟩:=(qL c).1 s e;rw[A];rfl
def SI(F:b.A.units+20<b3)(H:aK b R D m j)(h:cG f v)(o:cG C J)(r:cR m s f)(u:fX m WZ C)(e:fe s WZ=Z d)(p:∀V9,aK b R D m V9->G (.bool d) V9):wpAny (aV b.prog b.w) b.A (ey .In v J) G b.dc j:=by
 unfold fe at e;split at e
 ·rename_i I;split at e
  ·rename_i c;cases e;rw[cy]at c;let⟨g,@w,rfl,A,E⟩:=u.i;cases o;let⟨@Wl,M,q,W⟩:=H.tuple (cD.of A);have x:=E.fT H.bg M;refine SeqAt.in_tupleAt (oQ j.heap s) (show j.heap.IsTuple g Wl.toArray from q) (λl L=>?_) ?_
   ·let⟨@N,y,z⟩:=tU c.2 x ⇑L;rw[rT y z];exact j9 8 y c.1 (by show b.A.units+1+8+1<b3;lia) z (r.fT H.bg h)
   ·rw[w3,sv c.2 x];exact p j H
  ·cases e
 ·rename_i I;split at e
  ·rename_i c;cases e;rw[cy]at c;let⟨W,g,@w,rfl,A,E,W⟩:=u;cases o;let⟨@Wl,q,x,W⟩:=pI H A E;refine SeqAt.in_listAt (oQ j.heap s) q (λl L=>?_) ?_
   ·let⟨@N,y,z⟩:=tU c.2 x ⇑L;rw[rT y z];exact j9 8 y c.1 (by show b.A.units+1+8+1<b3;lia) z (r.fT H.bg h)
   ·rw[w3,sv c.2 x];exact p j H
  ·cases e
 ·rename_i Wm;split at e
  ·rename_i n;split at e
   ·rename_i O;cases e;let⟨W,g,@i,rfl,A,E,W⟩:=u;cases o;let⟨d,@Wn,rfl,Q,S⟩:=r;rw[<-p7 E]at p;exact yq F H (hN.t A ⟨O,d,Wn,rfl,Q,S⟩) h p
   ·cases e
  ·cases e
 ·rename_i Wm;split at e
  ·rename_i a;cases e;let⟨W,g,@i,rfl,A,E,W⟩:=u;cases o;rw[<-p7 E]at p;cases (show f=ct (.inl a) from r);exact yq F H (hN.k A) h p
  ·rename_i a;cases e;let⟨W,g,@i,rfl,A,E,W⟩:=u;cases o;rw[<-p7 E]at p;cases (show f=ct (.inr a) from r);exact yq F H (hN.k A) h p
  ·cases e
 ·cases e
def i7(c:b.A.units+20<b3):fG b (ey .In) eX:=by
 intro R j D m f C v J G H g h k;let⟨WY,WZ,@s,l,n,e,p⟩:=k;unfold eX at e;split at e
 ·let⟨@d,o,q⟩:=cU.mp e;cases q;exact SI c H g h l.i n o λV9 r=>⟨.ay d,m,r,rfl,cq.i p rfl⟩
 ·cases e
def MX(F:b.A.units+20<b3)(H:aK b R D m j)(h:cG f v)(o:cG C J)(r:cR m s f)(u:fX m WZ C)(e:fe s WZ=Z d)(p:∀V9,aK b R D m V9->G (.bool<|!d) V9):wpAny (aV b.prog b.w) b.A (ey .NotIn v J) G b.dc j:=by
 unfold fe at e;split at e
 ·rename_i I;split at e
  ·rename_i c;cases e;rw[cy]at c;let⟨g,@w,rfl,A,E⟩:=u.i;cases o;let⟨@Wl,M,q,W⟩:=H.tuple (cD.of A);have x:=E.fT H.bg M;refine SeqAt.notIn_tupleAt (oQ j.heap s) (show j.heap.IsTuple g Wl.toArray from q) (λl L=>?_) ?_
   ·let⟨@N,y,z⟩:=tU c.2 x ⇑L;rw[rT y z];exact j9 8 y c.1 (by show b.A.units+1+8+1<b3;lia) z (r.fT H.bg h)
   ·rw[w3,sv c.2 x];exact p j H
  ·cases e
 ·rename_i I;split at e
  ·rename_i c;cases e;rw[cy]at c;let⟨W,g,@w,rfl,A,E,W⟩:=u;cases o;let⟨@Wl,q,x,W⟩:=pI H A E;refine SeqAt.notIn_listAt (oQ j.heap s) q (λl L=>?_) ?_
   ·let⟨@N,y,z⟩:=tU c.2 x ⇑L;rw[rT y z];exact j9 8 y c.1 (by show b.A.units+1+8+1<b3;lia) z (r.fT H.bg h)
   ·rw[w3,sv c.2 x];exact p j H
  ·cases e
 ·rename_i Wm;split at e
  ·rename_i n;split at e
   ·rename_i O;cases e;let⟨W,g,@i,rfl,A,E,W⟩:=u;cases o;let⟨d,@Wn,rfl,Q,S⟩:=r;rw[<-p7 E]at p;exact zK F H (hN.t A ⟨O,d,Wn,rfl,Q,S⟩) h p
   ·cases e
  ·cases e
 ·rename_i Wm;split at e
  ·rename_i a;cases e;let⟨W,g,@i,rfl,A,E,W⟩:=u;cases o;rw[<-p7 E]at p;cases (show f=ct (.inl a) from r);exact zK F H (hN.k A) h p
  ·rename_i a;cases e;let⟨W,g,@i,rfl,A,E,W⟩:=u;cases o;rw[<-p7 E]at p;cases (show f=ct (.inr a) from r);exact zK F H (hN.k A) h p
  ·cases e
 ·cases e
def jk(c:b.A.units+20<b3):fG b (ey .NotIn) eH:=by
 intro R j D m f C v J G H g h k;let⟨WY,WZ,@s,l,n,e,p⟩:=k;unfold eH at e;split at e
 ·let⟨@d,o,q⟩:=cU.mp e;cases q;exact MX c H g h l.i n o λV9 r=>⟨.ay<|!d,m,r,rfl,cq.i p rfl⟩
 ·cases e
@[simp] def i3(x z:gJ)(Xc W9 dq:aF bX):aF ai:=λy=>(Xc y).bind λq=>(W9 q.2).bind λp=>(dQ p.2 q.1).bind λWY=>(dQ p.2 p.1).bind λWZ=>(x WY WZ).bind λs=>(pd s).bind λn=>
 if n=aa then (dq p.2).bind λu=>(dQ u.2 p.1).bind λa=>(dQ u.2 u.1).bind λb=>(z a b).bind λc=>(pd c).map λd=>(.im<|.ay d,u.2) else Z (.im<|.ay aw,p.2)
def BL{G:c5}(c:dy (i3 x z Xc W9 dq) D m G):
  Ag (λf C m G=>∃WY WZ s,fX m WY f/\fX m WZ C/\x WY WZ=Z s/\cq m s G) (λf C m G=>∃WY WZ s,fX m WY f/\fX m WZ C/\z WY WZ=Z s/\cq m s G) (nE Xc) (nE W9) (nE dq) D m G:=by
 let⟨y,N,u,@Wv,O,ao,a,p⟩:=c;let⟨@⟨WC,We⟩,A,a⟩:=bZ.mp a;let⟨@⟨WW,WO⟩,E,a⟩:=bZ.mp a;let⟨@WY,P,a⟩:=bZ.mp a;let⟨@WZ,Q,a⟩:=bZ.mp a;let⟨@s,R,a⟩:=bZ.mp a;let⟨@n,S,i⟩:=bZ.mp a;have hd:=tE S;subst hd;refine⟨y,N,WC,We,O,ao,A,λf Wh Wx T U H t=>⟨We,Wx,WW,WO,U,(dD.mp t.ao).1,E,λC Ws WE cf j I k=>?_⟩⟩;have al:i6 Ws D WC f T:=H.mono k.tup λg b o e=>k.keep g o e λc=>(dD.mp t.ao).2.2 g c g b rfl;refine⟨WY,WZ,_,al.read j P,I.read j Q,R,λv J am h WG cr cs=>?_⟩;let@⟨rfl,rfl⟩:=(show v=.ay n/\am=[] from WG);refine⟨n,rfl,?_⟩;have L:=t.trans k H.chg;rw[bM]at L;have q:=L.new h gU (λg b=>nomatch b) j.chg;have M:bP J WO D WE:=j.mono h.tupS λg W o e=>h g o e;cases n with
 |false=>
  rw[aP dz]at i ⊢;cases i;exact p _ J WE [] M ⟨rfl,rfl⟩ q
 |true=>
  rw[aJ rfl]at i ⊢;let⟨@⟨WQ,F⟩,an,WD⟩:=bZ.mp i;let⟨@ap,as,WR⟩:=bZ.mp WD;let⟨@a1,a2,bd⟩:=bZ.mp WR;let⟨@db,be,bi⟩:=bZ.mp bd;let⟨@d,bm,bn⟩:=cU.mp bi;cases bn;have bs:=tE bm;subst bs;rw[cO]at q;refine⟨WO,WE,WQ,F,M,q.ao,an,λl bv ca ds r cd w=>?_⟩;have ce:=dD.mp k.ao;have ch:i6 bv D WW C cf:=(I.mono h.tupS λg W o e=>h g o e).mono w.tup λg b o e=>w.keep g o e λc=>ce.2.2 g c g b rfl;refine⟨ap,a1,_,ch.read r as,cd.read r a2,be,λv ci cl B co dL eq=>?_⟩;let@⟨rfl,rfl⟩:=(show v=.ay d/\cl=[] from co);exact p _ ci ca [] (r.mono B.tupS λg W o e=>B g o e) ⟨rfl,rfl⟩ ((q.seq w).new B gU (λg b=>nomatch b) r.chg)
variable{d:bF}
def ES(a:fG b (ey WV) x)(e:fG b (ey Xo) z)(f:dX b g Xc)(i:dX b d W9)(j:dX b h dq)(k:wu [WV,Xo] [d,h]=aw:=by with_unfolding_all rfl):cx b (.Compare g [WV,Xo] [d,h] Wq) (i3 x z Xc W9 dq):=
 eQ (Qj a e f i j k) λ_ W W c=>BL c
def Jc(a:fG b (ey WV) x)(c:fG b (ey Xo) z)(e:dX b g Xc)(f:dX b d W9)(i:dX b h dq)(k:wu [WV,Xo] [d,h]=aw:=by with_unfolding_all rfl):jv b (.Compare g [WV,Xo] [d,h] Wq) (aY<|i3 x z Xc W9 dq):=by
 refine v7 (Um a c e f i k) λD m G l=>?_;let⟨y,N,n,@Wv,O,ao,o,p⟩:=l;refine BL ⟨y,N,.im<|.ay n,Wv,O,ao,?_,λv V6 WS Wb r WG j=>⟨n,WG.1,p V6 WS r (by rw[WG.2,cO]at j;exact j)⟩⟩;let⟨@q,A,E⟩:=bZ.mp o;let⟨@u,s,t⟩:=cU.mp E;cases t;rw[A,<-tE s]
end
mutual
def bp:ae->ae->Bool
 |.int a,.int i=>decide (a<i)
 |.tup g,.tup d=>g_ g d
 |_,_=>aw
def g_:List ae->List ae->Bool
 |[],[]=>aw
 |[],_::_=>aa
 |_::_,[]=>aw
 |g::u,d::B=>if ae.beq g d=aa then g_ u B else bp g d
end
mutual
def fa:Nat->ae->ae->Bool
 |_,.int _,.int _=>aa
 |r+1,.tup g,.tup d=>gz r g d
 |_,_,_=>aw
def gz:Nat->List ae->List ae->Bool
 |_,[],[]=>aa
 |r,g::u,d::B=>fa r g d&&gz r u B
 |r,[],d::B=>ae.de r (d::B)
 |r,g::u,[]=>ae.de r (g::u)
end
mutual
theorem pN:∀{r:Nat}{g d:ae},fa r g d=aa->ae.bI r g=aa/\ae.bI r d=aa/\cT g d=ae.beq g d
 |r,.int a,.int i,_=>by
  refine⟨by cases r<;>rfl,by cases r<;>rfl,?_⟩;rw[cT,ae.beq];by_cases c:a=i<;>simp[c]
 |r+1,.tup g,.tup d,c=>by
  rw[fa]at c;let@⟨A,E,b⟩:=Ip c;exact⟨A,E,by rw[cT,ae.beq];exact b⟩
theorem Ip:∀{r:Nat}{g d:List ae},gz r g d=aa->ae.de r g=aa/\ae.de r d=aa/\fh g d=ae.m9 g d
 |r,[],[],_=>⟨by cases r<;>rfl,by cases r<;>rfl,rfl⟩
 |r,[],d::B,c=>⟨by cases r<;>rfl,c,rfl⟩
 |r,g::u,[],c=>⟨c,by cases r<;>rfl,rfl⟩
 |r,g::u,d::B,c=>by
  rw[gz,cy]at c;let@⟨A,E,a⟩:=pN c.1;let@⟨b,e,f⟩:=Ip c.2;exact⟨by rw[ae.de,A,b];rfl,by rw[ae.de,E,e];rfl,by rw[fh,ae.m9,a,f]⟩
end
def o2{g d:ae}(c:¬ g=d):ae.beq g d=aw:=by
 cases e:ae.beq g d with
 |false=>rfl
 |true=>exact absurd ((ae.beq_iff g d).mp e) c
mutual
theorem qD:∀g:ae,bp g g=aw
 |.int a=>by simp[bp]
 |.tup g=>by rw[bp];exact IV g
 |.a6=>rfl
 |.ay _=>rfl
 |.str _=>rfl
 |.fn _=>rfl
 |.aW _=>rfl
 |.fd=>rfl
theorem IV:∀g:List ae,g_ g g=aw
 |[]=>rfl
 |g::u=>by rw[g_,aJ<|(ae.beq_iff g g).mpr rfl];exact IV u
end
mutual
theorem qS:∀{r:Nat}{g d:ae},fa r g d=aa->g≠d->bp g d=!(bp d g)
 |r,.int a,.int i,_,c=>by
  have:a≠i:=λe=>c (by rw[e]);rw[bp,bp];rcases Int.lt_or_gt_of_ne this with L|L
  ·simp[L];lia
  ·simp[L];lia
 |r+1,.tup g,.tup d,c,e=>by
  rw[fa]at c;rw[bp,bp];exact Gb c λb=>e (by rw[b])
theorem Gb:∀{r:Nat}{g d:List ae},gz r g d=aa->g≠d->g_ g d=!(g_ d g)
 |r,[],[],_,c=>absurd rfl c
 |r,[],d::B,_,_=>rfl
 |r,g::u,[],_,_=>rfl
 |r,g::u,d::B,c,e=>by
  rw[gz,cy]at c;rw[g_,g_];by_cases a:g=d
  ·subst a;rw[aJ ((ae.beq_iff g g).mpr rfl),aJ<|(ae.beq_iff g g).mpr rfl];exact Gb c.2 λl=>e (by rw[l])
  ·rw[o2 a,o2<|λl=>a l.symm,aP dz,aP dz];exact qS c.1 a
end
mutual
theorem q8:∀{r:Nat}{g d h:ae},fa r g d=aa->fa r d h=aa->bp g d=aa->bp d h=aa->bp g h=aa
 |r,.int a,.int i,.int n,_,_,A,E=>by
  rw[bp]at A E ⊢;have:=hh A;have:=hh E;exact c1 (by omega)
 |r+1,.tup g,.tup d,.tup h,a8,bz,A,E=>by
  rw[fa]at a8 bz;rw[bp]at A E ⊢;exact EX a8 bz A E
theorem EX:∀{r:Nat}{g d h:List ae},gz r g d=aa->gz r d h=aa->g_ g d=aa->g_ d h=aa->g_ g h=aa
 |r,[],_,_::_,_,_,_,_=>rfl
 |r,[],[],[],_,_,c,_=>c
 |r,_::_,[],_,_,_,c,_=>by cases c
 |r,_,_::_,[],_,_,_,c=>by cases c
 |r,g::u,d::B,h::J,a8,bz,A,E=>by
  rw[gz,cy]at a8 bz;rw[g_]at A E ⊢;by_cases b:g=d
  ·subst b;rw[aJ ((ae.beq_iff g g).mpr rfl)]at A;by_cases a:g=h
   ·subst a;rw[aJ ((ae.beq_iff g g).mpr rfl)]at E ⊢;exact EX a8.2 bz.2 A E
   ·rw[o2 a,aP dz]at E ⊢;exact E
  ·rw[o2 b,aP dz]at A;by_cases a:d=h
   ·subst a;rw[o2 b,aP dz];exact A
   ·rw[o2 a,aP dz]at E;have e:=q8 a8.1 bz.1 A E;have f:¬ g=h:=λl=>by
     subst l;have:=qS bz.1 a;rw[A,E]at this;cases this
    rw[o2 f,aP dz];exact e
end
def A5(P:bH)(j:au)(C f:ag)(n:Bool):Prop:=(∀(Wf:bS) (l:bA) (Wa:ag->au->Prop) (G:ag->au->Prop),G (.bool n) j->wpAny (aV Wf l) P (oG .Lt C f) G Wa j)
def i1(x:Bool):List (Bool×Bool)->Bool
 |[]=>x
 | (e,n)::u=>if e=aa then i1 x u else n
section
open PySem.SeqAt
open PySem.AutoSeq1 (wpAny_loadPart')
open PySem.MeetsSeq PySem.MeetsSeq2 PySem.MeetsSeq3
def LD(t d:aj)(Wr b:Array ag)(r y:Nat)(z B:Option aj)(aO D:Array (Option ag))(Wk:List (Bool×Bool))(R:Wk.length=min Wr.size b.size):
  Meets (bl.«tuple.__lt__» ⟨[.ref t,.ref d],[]⟩)
   (λP Wb j=>j.heap.get? t=Z {cls:=.type "tuple",dict:=z,data:=.seq Wr r,slots:=aO}/\j.heap.get? d=Z {cls:=.type "tuple",dict:=B,data:=.seq b y,slots:=D}/\
    (∀i (A:i<Wr.size) (E:i<b.size) (o:i<Wk.length),EqAt P.in1 j Wr[i] b[i] (Wk[i]).1/\((Wk[i]).1=aw->A5 P.in1 j Wr[i] b[i] (Wk[i]).2))/\
    Wb (.ok<|.ret<|.bool<|i1 (decide (Wr.size<b.size)) Wk) j):=
 .of_wp λWf l P Wb j c=>by
  let⟨k,L,s,WN,Q⟩:=j;let@⟨F,G,H,c⟩:=c;have S:=A7;have q:(Wr.toList.zip b.toList).length=min Wr.size b.size:=by simp
  wp_walk using wpAny_loadPart' F,wpAny_loadPart' G,ot _ (λdx d V9=>d.1=Y/\V9=⟨k,L,s,WN,Q⟩/\∃a,dx=(Wr.toList.zip b.toList).drop a/\
   Wb (.ok<|.ret<|.bool<|i1 (decide (Wr.size<b.size))<|Wk.drop a) ⟨k,L,s,WN,Q⟩) _
  case turn=>
   rintro⟨C,f⟩ dx d V9 ⟨p,rfl,a,g,h⟩;have u:a<(Wr.toList.zip b.toList).length:=by
    rcases gv a (Wr.toList.zip b.toList).length with U|U
    ·exact U
    ·rw[og U]at g;cases g
   have T:a<min Wr.size b.size:=q ▸ u;have A:a<Wr.size:=⋯
   have E:a<b.size:=⋯
   have o:a<Wk.length:=⋯
   rw[kr u]at g;injection g with v I;have J:C=Wr[a]:=by have:=congrArg Prod.fst v;simpa using this
   have M:f=b[a]:=by have:=congrArg Prod.snd v;simpa using this
   subst J M;rw[kr o]at h;let@⟨w,x⟩:=H a A E o;generalize Wk[a]=N at h w x;let⟨e,n⟩:=N;refine aA (w Wf l _ _ ?_);cases e with
   |true=>
    have m:Wb (.ok<|.ret<|.bool<|i1 (decide (Wr.size<b.size))<|Wk.drop<|a+1) ⟨k,L,s,WN,Q⟩:=h
    wp_walk
    exact⟨rfl,rfl,a+1,I,m⟩
   |false=>
    have m:Wb (.ok<|.ret<|.bool n) ⟨k,L,s,WN,Q⟩:=h;have O:=x rfl Wf l
    wp_walk using O
    exact⟨_,rfl,by simpa using m⟩
  case fin=>
   rintro⟨dY,dH⟩ V9 ⟨p,rfl,a,g,h⟩;simp only at p;subst p;have al:min Wr.size b.size<=a:=by
    rcases gv a (Wr.toList.zip b.toList).length with U|U
    ·rw[kr U]at g;cases g
    ·exact q ▸ U
   rw[og ⋯]at h;have m:Wb (.ok<|.ret<|.bool<|decide (Wr.size<b.size)) ⟨k,L,s,WN,Q⟩:=h
   wp_walk
   exact⟨_,rfl,by simpa [bl.Tuple.tupleCompareSizes] using m⟩
  case h=>
   exact⟨rfl,rfl,0,rfl,by simpa using c⟩
end
def lE(I V_:List ae):List (Bool×Bool):=((I.zip V_).map λq=>(cT q.1 q.2,bp q.1 q.2))
theorem Hv:∀{r:Nat}{I V_:List ae},gz r I V_=aa->i1 (decide (I.length<V_.length)) (lE I V_)=g_ I V_
 |_,[],[],_=>rfl
 |r,g::u,d::B,c=>by
  rw[gz,cy]at c;show (if cT g d=aa then i1 (decide (u.length+1<B.length+1)) (lE u B) else bp g d)=g_ (g::u) (d::B);rw[g_,(pN c.1).2.2,<-Hv c.2,mM.mpr y_]
 |_,[],_::_,_=>rfl
 |_,_::_,[],_=>rfl
theorem Ay{r:Nat}:∀{I V_:List ae}{i:Nat}{g d:ae},gz r I V_=aa->I[i]?=Z g->V_[i]?=Z d->fa r g d=aa
 |[],V_,i,g,d,_,c,_=>by simp at c
 |s::I,[],i,g,d,_,_,c=>by simp at c
 |s::I,e::V_,0,g,d,c,A,E=>by
  rw[gz,cy]at c;cases A;cases E;exact c.1
 |s::I,e::V_,i+1,g,d,c,A,E=>by
  rw[gz,cy]at c;exact Ay (i:=i) c.2 ⇑A ⇑E
def Jw{P:bH}{a i:Int}(b:eg j.heap (.int a) J)(c:eg j.heap (.int i) v):A5 P j J v (bp (.int a)<|.int i):=by
 let⟨@B,rfl⟩:=b;let⟨@WJ,rfl⟩:=c;intro Wf l Wa G p;rw[bp]at p;exact dK.N2 P j a B i WJ Wf l Wa G p
def sU:∀{r:Nat}{f C:ae},fa r f C=aa->(∃a i,f=.int a/\C=.int i)\/∃k g d,r=k+1/\f=.tup g/\C=.tup d/\gz k g d=aa:=by
 intro r f C c;unfold fa at c;split at c
 ·exact .inl ⟨_,_,rfl,rfl⟩
 ·exact .inr ⟨_,_,_,rfl,rfl,rfl,c⟩
 ·cases c
def Ai(r:Nat):∀{P:bH}{f C:ae}{J v:ag},fa r f C=aa->P.units+r+2<b3->eg j.heap f J->eg j.heap C v->A5 P j J v (bp f C):=by
 induction r with
 |zero=>
  intro P f C J v c H b h;rcases sU c with ⟨a,i,rfl,rfl⟩|⟨k,_,_,e,_⟩
  ·exact Jw b h
  ·cases e
 |succ r L=>
  intro P f C J v c H b h;rcases sU c with ⟨a,i,rfl,rfl⟩|⟨k,I,V_,e,rfl,rfl,c⟩
  ·exact Jw b h
  cases e;let⟨g,o,Wl,@k,rfl,A,E,m,n⟩:=b;let⟨d,M,y,@O,rfl,q,s,t,u⟩:=h;let⟨cls,Q,data,aO⟩:=o;let⟨ap,R,as,S⟩:=M;simp only at E m s t;subst E m s t;have a8:I.length=Wl.size:=by rw[n.length,eb]
  have bz:V_.length=y.size:=by rw[u.length,eb]
  intro Wf l Wa G p;rw[bp,<-Hv c,a8,bz]at p;have T:(lE I V_).length=min Wl.size y.size:=by rw[lE,aZ,ox,a8,bz]
  refine CO (op:=.Lt) ⟨_,A,rfl⟩ ⟨_,q,rfl⟩ PySem.F.slot_tuple_lt PySem.F.entry_tuple_lt (PySem.F.args_tuple_lt_2 _ _) (LD g d Wl y k O Q R aO S (lE I V_) T)
   ⟨A,q,λi U al am=>?_,show ag.bool (i1 (decide (Wl.size<y.size))<|lE I V_)≠ag.notImplemented/\G (.bool<|i1 (decide (Wl.size<y.size))<|lE I V_) j from ⟨(λf=>nomatch f),p⟩⟩ ⋯;let⟨@WY,w,x⟩:=n.get (i:=i) (v:=Wl[i]) (by rw[fD];simp[U]);let⟨@WZ,z,B⟩:=u.get (i:=i) (v:=y[i]) (by rw[fD];simp[al]);have lk:=Ay c w z;have D:=pN lk;have an:(lE I V_)[i]=(cT WY WZ,bp WY WZ):=by
   have:(lE I V_)[i]?=Z (cT WY WZ,bp WY WZ):=by
    rw[lE,fp,(uI (z:=(WY,WZ))).mpr ⟨w,z⟩];rfl
   rw[eB am]at this;exact Option.some.inj this
  rw[an];exact⟨j9 r D.1 D.2.1 (by show P.units+1+r+1<b3;lia) x B,λ_=>L lk (by show P.units+1+r+2<b3;lia) x B⟩
end L2
namespace L2
open Spec PyProof.Rows PySem.W
variable{Wl:List ag}{t I:List ae}
theorem A4{Ww:Type}{q p:Ww->Bool}:∀{t:List Ww},(∀f∈t,q f=aa->p f=aa)->(∃f∈t,p f=aa/\q f=aw)->t.countP q<t.countP p
 |[],_,c=>by let⟨@f,a,W⟩:=c;cases a
 |g::t,c,⟨f,a,A,E⟩=>by
  rw[Cc,Cc];have le:t.countP q<=t.countP p:=List.countP_mono_left λC b=>c C (.tail _ b);rcases cg.mp a with rfl|a
  ·rw[A,E];simp;omega
  ·have:=A4 (λC b=>c C<|.tail _ b) ⟨f,a,A,E⟩;have d:=c g (.head _);cases e:q g<;>cases h:p g<;>rw[e,h]at d<;>simp at d ⊢<;>omega
structure oz(I:List ae):Prop where
 ei:I.length<=1000
 j1:∀g∈I,∀d∈I,fa 6 g d=aa
structure u5(I:List ae):Prop where
 ei:I.length<=1000
 j1:∀g∈I,∀d∈I,fa 6 g d=aa
 ao:I.Nodup
def u5.w{I:List ae}(o:u5 I):oz I:=⟨o.ei,o.j1⟩
def q2(I:List ae)(f:ae):Nat:=(I.countP λs=>bp s f)
def Gu(o:oz I){f C:ae}(a:f∈I)(b:C∈I)(c:bp f C=aa):q2 I f<q2 I C:=
 A4 (λd g e=>q8 (o.j1 d g f a) (o.j1 f a C b) e c) ⟨f,a,c,qD f⟩
def Iu(o:oz I){f C:ae}(a:f∈I)(b:C∈I):decide ((q2 I f:Int)<(q2 I C:Int))=bp f C:=by
 cases e:bp f C with
 |true=>exact c1 (by have:=Gu o a b e;lia)
 |false=>
  refine cW λd=>?_;by_cases c:f=C
  ·subst c;lia
  ·have B:=qS (o.j1 f a C b) c;rw[e]at B;have WJ:bp C f=aa:=by cases p:bp C f<;>rw[p]at B<;>simp at B ⊢
   have:=Gu o b a WJ;lia
def rg(I:List ae)(a:Nat):Int:=(q2 I (I.getD a .a6))
def w6{a:Nat}(c:a<I.length):I.getD a .a6∈I:=by
 rw[cP,eB c];exact w9 c
def Hq(o:oz I){q:Array Nat}(b:dA I.length q)(up:i0 (rg I) q I.length):(q.toList.map λa=>I.getD a .a6).Pairwise (λg d=>bp d g=aw):=by
 rw[oE];intro a i S c l;have Wd:=b.size;have j:a<I.length:=by simpa [Wd] using S
 have f:i<I.length:=by simpa [Wd] using c
 have le:=up a i ⋯ f;have L:∀n (h:n<(q.toList.map λa=>I.getD a .a6).length),(q.toList.map λa=>I.getD a .a6)[n]=I.getD (q.getD n 0) .a6:=λn h=>by
  have k:n<q.size:=by simpa using h
  rw[Ep,IA];simp[Array.getD,k]
 rw[L a S,L i c];rw[<-Iu o (w6<|b.lt f) (w6<|b.lt j)];refine cW ?_;have e:∀n,(q2 I (I.getD (q.getD n 0) .a6):Int)=bq (rg I) q n:=λ_=>rfl;rw[e a,e i];lia
theorem G3:∀{t k:List ae},t.Perm k->t.Pairwise (λg d=>bp g d=aa)->k.Pairwise (λg d=>bp g d=aa)->(∀g∈t,∀d∈t,bp g d=aa->bp d g=aw)->t=k
 |[],k,q,_,_,_=>(List.nil_perm.mp q).symm
 |g::t,k,q,A,E,a=>by
  cases k with
  |nil=>exact absurd q.length_eq ↥0
  |cons d k=>
   have e:g=d:=by
    by_cases e:g=d
    ·exact e
    ·have h:g∈k:=by
      rcases cg.mp (q.mem_iff.mp<|.head _) with z|z
      ·exact absurd z e
      ·exact z
     have b:d∈t:=by
      rcases cg.mp (q.mem_iff.mpr<|.head _) with z|z
      ·exact absurd z.symm e
      ·exact z
     have i:=(gL.mp A).1 d b;have c:=(gL.mp E).1 g h;rw[a g (.head _) d (.tail _ b) i]at c;cases c
   subst e;rw[G3 (Ss q) (gL.mp A).2 (gL.mp E).2 λf j C l=>a f (.tail _ j) C<|.tail _ l]
theorem wt(f:ae):∀t:List ae,(lD bp f t).Perm (f::t)
 |[]=>List.Perm.refl _
 |C::u=>by
  rw[lD];split
  ·exact List.Perm.refl _
  ·exact (List.Perm.cons C<|wt f u).trans (List.Perm.swap f C u)
theorem ju:∀t:List ae,(hy bp t).Perm t
 |[]=>List.Perm.refl _
 |f::u=>(wt f _).trans (List.Perm.cons f<|ju u)
theorem D7{f:ae}:∀{t:List ae},t.Pairwise (λg d=>bp g d=aa)->(∀C∈t,f≠C)->(∀g∈f::t,∀d∈f::t,fa 6 g d=aa)->(lD bp f t).Pairwise (λg d=>bp g d=aa)
 |[],_,_,_=>e9 _ _
 |C::u,c,r,lk=>by
  have U:=gL.mp c;rw[lD];split
  ·rename_i e;refine gL.mpr ⟨λb a=>?_,c⟩;rcases cg.mp a with rfl|a
   ·exact e
   ·exact q8 (lk f (.head _) C<|.tail _<|.head _) (lk C (.tail _<|.head _) b<|.tail _<|.tail _ a) e (U.1 b a)
  ·rename_i e;refine gL.mpr ⟨λb a=>?_,D7 U.2 (λb a=>r b<|.tail _ a) λg h d i=>lk g ?_ d ?_⟩
   ·rcases cg.mp ((wt f u).mem_iff.mp a) with rfl|a
    ·have B:=qS (lk b (.head _) C<|.tail _<|.head _) (r C<|.head _);cases p:bp C b with
     |true=>rfl
     |false=>rw[p]at B;exact absurd B e
    ·exact U.1 b a
   ·rcases cg.mp h with rfl|h
    ·exact .head _
    ·exact .tail _ (.tail _ h)
   ·rcases cg.mp i with rfl|i
    ·exact .head _
    ·exact .tail _ (.tail _ i)
theorem sM:∀{t:List ae},t.Nodup->(∀g∈t,∀d∈t,fa 6 g d=aa)->(hy bp t).Pairwise (λg d=>bp g d=aa)
 |[],_,_=>.nil
 |f::u,ao,lk=>by
  have c:=iw.mp ao;refine D7 (sM c.2 λg a d b=>lk g (.tail _ a) d<|.tail _ b) (λC h e=>c.1 (by rw[e];exact (ju u).mem_iff.mp h)) λg a d b=>lk g ?_ d ?_
  ·rcases cg.mp a with rfl|a
   ·exact .head _
   ·exact .tail _ ((ju u).mem_iff.mp a)
  ·rcases cg.mp b with rfl|b
   ·exact .head _
   ·exact .tail _ ((ju u).mem_iff.mp b)
def JH(o:u5 I)(q:t.Perm I)(c:t.Pairwise (λg d=>bp g d=aa)):t=hy bp I:=by
 refine G3 (q.trans (ju I).symm) c (sM o.ao o.j1) λg a d b e=>?_;have B:=qS (o.j1 g (q.mem_iff.mp a) d<|q.mem_iff.mp b) (λf=>by subst f;rw[qD]at e;cases e);rw[e]at B;cases p:bp d g with
 |false=>rfl
 |true=>rw[p]at B;cases B
theorem CD{f:ae}:∀{t:List ae},t.Pairwise (λg d=>bp d g=aw)->(∀g∈f::t,∀d∈f::t,fa 6 g d=aa)->(lD bp f t).Pairwise (λg d=>bp d g=aw)
 |[],_,_=>e9 _ _
 |C::u,c,lk=>by
  have U:=gL.mp c;unfold lD;split
  ·rename_i e;refine gL.mpr ⟨λb a=>?_,c⟩;cases p:bp b f with
   |false=>rfl
   |true=>
    have B:=q8 (lk b (.tail _ a) f<|.head _) (lk f (.head _) C<|.tail _<|.head _) p e;rcases cg.mp a with rfl|a
    ·rw[qD]at B;cases B
    ·rw[U.1 b a]at B;cases B
  ·rename_i e;refine gL.mpr ⟨λb a=>?_,CD U.2 λg h d i=>lk g ?_ d ?_⟩
   ·rcases cg.mp ((wt f u).mem_iff.mp a) with rfl|a
    ·cases p:bp b C with
     |false=>rfl
     |true=>exact absurd p e
    ·exact U.1 b a
   ·rcases cg.mp h with rfl|h
    ·exact .head _
    ·exact .tail _ (.tail _ h)
   ·rcases cg.mp i with rfl|i
    ·exact .head _
    ·exact .tail _ (.tail _ i)
theorem Gp:∀{t:List ae},(∀g∈t,∀d∈t,fa 6 g d=aa)->(hy bp t).Pairwise (λg d=>bp d g=aw)
 |[],_=>.nil
 |f::u,lk=>by
  refine CD (Gp λg a d b=>lk g (.tail _ a) d<|.tail _ b) λg a d b=>lk g ?_ d ?_
  ·rcases cg.mp a with rfl|a
   ·exact .head _
   ·exact .tail _ ((ju u).mem_iff.mp a)
  ·rcases cg.mp b with rfl|b
   ·exact .head _
   ·exact .tail _ ((ju u).mem_iff.mp b)
def Hn(o:oz I)(q:t.Perm I)(c:t.Pairwise (λg d=>bp d g=aw)):t=hy bp I:=by
 refine LO (λg d a b f C=>?_) c (Gp o.j1) (q.trans (ju I).symm);by_cases e:g=d
 ·exact e
 ·have B:=qS (o.j1 g (q.mem_iff.mp a) d<|(ju I).mem_iff.mp b) e;rw[f,C]at B;cases B
def je:ae->Bool
 |.tup (.int _::_)=>aa
 |_=>aw
def mE:ae->Bool
 |.tup (.tup _::_)=>aa
 |_=>aw
section
variable{Wf:bS}{l:bA}{P:bH}{Wa:ag->au->Prop}{j:au}
theorem Gq{d x:Bool}(r:Nat)(h:P.units+r+2<b3){G:Bool->au->Prop}:∀{I V_:List ae}{V7 H:List ag}{a:Nat},gz r I V_=aa->x=decide (I.length<V_.length)->el j.heap I V7->el j.heap V_ H->(d=aa->a=0->∃n u,I=.int n::u)->G (g_ I V_) j->KatLex Wf l P d x G (V7.zip H) a j
 |[],V_,V7,H,a,_,b,A,E,_,p=>by
  rw[show V7=[] from A,b];exact kat_nil (by cases V_<;>exact p)
 |s::I,[],V7,H,a,_,b,A,E,_,p=>by
  rw[show H=[] from E,b,C0];exact kat_nil p
 |s::I,e::V_,V7,H,a,c,o,A,E,q,p=>by
  rw[gz,cy]at c;let⟨v,@V7,rfl,f,t⟩:=A;let⟨J,@H,rfl,dY,dH⟩:=E;rw[yZ];let@⟨w,W4,y⟩:=pN c.1;refine kat_cons (j9 r w W4 ⋯ f dY Wf l _ _ ?_);rw[y];rw[g_]at p;cases k:ae.beq s e with
  |true=>
   rw[k,aJ rfl]at p;exact kat_yes (Gq r h c.2 (o.trans<|mM.mpr y_) t dH (λ_ m=>⋯) p)
  |false=>
   rw[k,aP dz]at p;refine kat_no ?_;by_cases b:(d&&a==0)=aa
   ·rw[b];rw[cy]at b;let⟨n,@u,m⟩:=q b.1 ⇑(b.2);cases m;rcases sU c.1 with ⟨C,i,g,z⟩|⟨_,_,_,_,g,_⟩
    ·cases g;cases z;let⟨@B,rfl⟩:=f;let⟨@WJ,rfl⟩:=dY;rw[bp]at p;exact oneLt_int p
    ·cases g
   ·rw[show (d&&a==0)=aw by simpa using b];exact kat_one _ _ (Ai r c.1 h f dY Wf l _ _ p)
def B0{d:Bool}(o:oz I)(h:el j.heap I Wl)(br:∀s∈I,∃u,s=.tup u)(x:d=aa->∀s∈I,je s=aa)(M:P.units+9<b3):
  gG Wl.length (rg I) (f6 Wf l P (tv d)<|Wl.toArray.zip Wl.toArray) j:=by
 intro a i aT S y p;have N:=h.length;have b:=w6 (I:=I) (a:=a) ⋯;have e:=w6 (I:=I) (a:=i) ⋯;unfold rg at p;rw[Iu o b e]at p;let⟨@WY,m,z⟩:=h.get (i:=a) (v:=Wl[a]) ↥0;let⟨@WZ,n,A⟩:=h.get (i:=i) (v:=Wl[i]) ↥0;rw[cP,m,cP,n]at p;rw[cP,m]at b;rw[cP,n]at e;let⟨@g,B⟩:=br WY b;let⟨@k,D⟩:=br WZ e;subst B D;have lk:gz 5 g k=aa:=o.j1 _ b _ e;unfold f6;rw[vL rfl,vL rfl,cP,cP,eB S,eB y];show wpAny _ _ (keyLt' (tv d) Wl[a] Wl[i]) _ _ _;let⟨f,O,w,@Q,E,F,R,G,q⟩:=z;let⟨C,T,Wn,@U,H,WD,WR,J,r⟩:=A;rw[E,H];refine kat_lt (b:=d) F G WD J ?_;have a8:g.length=w.size:=by rw[q.length,eb]
 have bz:k.length=Wn.size:=by rw[r.length,eb]
 refine Gq 5 ⋯ lk (by rw[a8,bz]) q r (λL W=>?_) (by have t:aT (bp (.tup g)<|.tup k) j:=p;rw[bp]at t;exact t);have:=x L _ b;unfold je at this;split at this
 ·rename_i c;cases c;exact⟨_,_,rfl⟩
 ·cases this
theorem CE:∀{I:List ae}{Wl:List ag},el j.heap I Wl->(∀s∈I,je s=aa)\/(∀s∈I,mE s=aa)->∃V,KatTups j.heap Wl V/\V.length=Wl.length/\
  ((∀s∈I,je s=aa)->∀v∈V,∃a B,v=ag.int a B)/\((∀s∈I,mE s=aa)->∀v∈V,∃g h,v=ag.ref g/\j.heap.get? g=Z h/\h.cls=.type "tuple")
 |[],Wl,c,_=>by
  rw[show Wl=[] from c];exact⟨[],trivial,rfl,(λ_ W c=>nomatch c),(λ_ W c=>nomatch c)⟩
 |s::I,Wl,c,i=>by
  let⟨v,@u,rfl,A,E⟩:=c;let⟨@V,m,n,q,t⟩:=CE E (i.imp (λz f b=>z f<|.tail _ b) λz f b=>z f<|.tail _ b);have wq:∃x W3,s=.tup (x::W3):=by
   rcases i with z|z
   ·have:=z s (.head _);unfold je at this;split at this
    ·exact⟨_,_,rfl⟩
    ·cases this
   ·have:=z s (.head _);unfold mE at this;split at this
    ·exact⟨_,_,rfl⟩
    ·cases this
  let⟨x,@W3,rfl⟩:=wq;let⟨g,o,Wr,@r,rfl,w,y,C,D⟩:=A;let⟨k,@L,e,l,N⟩:=D;have F:Wr[0]?=Z k:=by
   rw[<-fD,e];rfl
  refine⟨k::V,KatTups.cons w y C F m,by simp[n],λz J d=>?_,λz J d=>?_⟩
  ·rcases cg.mp d with rfl|d
   ·have:=z _ (.head _);unfold je at this;split at this
    ·rename_i p;cases p;exact⟨_,l⟩
    ·cases this
   ·exact q (λf b=>z f<|.tail _ b) J d
  ·rcases cg.mp d with rfl|d
   ·have:=z _ (.head _);unfold mE at this;split at this
    ·rename_i p;cases p;let⟨G,M,W,@W,H,WD,WR,W⟩:=l;exact⟨G,M,H,WD,WR⟩
    ·cases this
   ·exact t (λf b=>z f<|.tail _ b) J d
end
section
variable{b:aR}
theorem bT.pick{m:aG}{Wn:List ar}(c:bT m I Wn):∀{q:List Nat},(∀n∈q,n<I.length)->bT m (q.map λa=>I.getD a .a6) (q.map λa=>Wn.getD a .a6)
 |[],_=>rfl
 |n::q,b=>by
  let⟨@v,d,e⟩:=c.get (a:=n) (s:=I.getD n .a6) (by
   have:=b n (.head _);rw[cP,eB this];rfl)
  refine⟨v,_,?_,e,c.pick λi f=>b i<|.tail _ f⟩;rw[cS,cP,d];rfl
structure oW(I:List ae):Prop where
 ord:u5 I
 fst:(∀s∈I,je s=aa)\/(∀s∈I,mE s=aa)
structure qd(I:List ae):Prop where
 ord:oz I
 fst:(∀s∈I,je s=aa)\/(∀s∈I,mE s=aa)
def oW.w{I:List ae}(o:oW I):qd I:=⟨o.ord.w,o.fst⟩
def qd.tup(o:qd I):∀s∈I,∃u,s=.tup u:=λs hd=>by
 rcases o.fst with z|z
 ·have:=z s hd;unfold je at this;split at this
  ·exact⟨_,rfl⟩
  ·cases this
 ·have:=z s hd;unfold mE at this;split at this
  ·exact⟨_,rfl⟩
  ·cases this
def el.uD{c U:a_}(n:∀d o,c.get? d=Z o->U.get? d=Z o){I:List ae}{V7:List ag}(f:el c I V7):el U I V7:=f.keep λg o W W e W W=>n g o e
def BP{c:a_}{j:au}(o:qd I)(E:2<=Wl.length)(h:el j.heap I Wl)(P:bH)(Wa:ag->au->Prop)(G:hC->au->Prop)(d:G (tv<|decide (∀s∈I,je s=aa)) j):
  wpAny (aV b.prog b.w) P (z7 Wl.toArray) G Wa j:=by
 let⟨@V,i,t,k,m⟩:=CE h o.fst;have u:=h.length;by_cases e:∀s∈I,je s=aa
 ·rw[c1 e]at d;refine kat_kind (T:=ag.type "int") i ⋯ (λv f=>?_) rfl ?_
  ·let⟨a,@B,rfl⟩:=k e v f;exact Fp rfl
  ·rw[show (ag.type "int" != ag.type "tuple")=aa by decide];exact d
 ·rw[cW e]at d;have n:=o.fst.resolve_left e;refine kat_kind (T:=ag.type "tuple") i ⋯ (λv f=>?_) rfl ?_
  ·let⟨g,@p,rfl,q,r⟩:=m n v f;have:Looks (aV b.prog b.w) j.heap (si<|.ref g) p.cls:=(Looks.ld q).andThen .now;rw[r]at this;exact this
  ·rw[show (ag.type "tuple" != ag.type "tuple")=aw by decide];exact d
def t7(y:b.calm=aa)(U:b.A.units+20<b3):fl b (.builtin "sorted") (λw m G=>∃(g:aj) (I:List ae) (Wn:List ar),w=[.ref g]/\(dC b.K m g Wn\/cD b.K m g Wn)/\bT m I Wn/\qd I/\
  ∀t Q,m t=Y->bT m (hy bp I) Q->G (.ref t) (upd m t<|.lst Q)):=by
 intro R j D m w Wy G H u c;let⟨g,I,@Wn,rfl,Wd,S,o,p⟩:=c;let⟨@J,rfl,z⟩:=iS u;cases z;have B:Wn.length<=1000:=by rw[<-S.length];exact o.ord.ei
 have go:∀{F:String}{Wl:List ag}{r:Nat}{d:bk},(F = "list" \/ F = "tuple")->b1 Wn Wl->j.heap.get? g=Z d->d.cls=.type F->d.data=.seq Wl.toArray r->wpAny (aV b.prog b.w) b.A (call (.builtin "sorted") [.ref g]) (e4 b R D G) b.dc j:=by
  intro F Wl r d C f e aD h;have k:=S.fT H.bg f;have L:Wl.length=I.length:=k.length.symm;refine Dk y (rg I) (tv<|decide (∀s∈I,je s=aa)) H f C e aD h B (λE v WN n P Wa G M=>BP (c:=v) o E (k.uD n) P Wa G M) (λv WN n=>?_) (.inl (by have:=o.ord.ei;lia)) λq t i x aW=>?_
  ·refine B0 (j:={j with heap:=v,toks:=WN}) o.ord (k.uD n) o.tup (λN=>?_) (by show b.A.units+1+1+9<b3;lia);exact hh N
  ·rw[L]at i x;have O:(q.toList.map λa=>I.getD a .a6)=hy bp I:=Hn o.ord (x2 i) (Hq o.ord i x);refine p t _ aW ?_;rw[<-O];exact S.pick λn T=>fI.mp (i.mem_iff.mp T)
 rcases Wd with Wd|Wd
 ·let⟨@Wl,f,q,W⟩:=H.list Wd;let⟨@d,e,aD,⟨@r,h⟩⟩:=q.isList;exact go (.inl rfl) f e aD h
 ·let⟨@Wl,f,q,W⟩:=H.tuple Wd;let⟨@d,e,aD,⟨@r,h⟩⟩:=q;exact go (.inr rfl) f e aD h
theorem DX{m:aG}:∀{Wm:List (List ae×ar)}{V_:List (List ae×aj×ag)},eP (λ(q:List ae×ar) (p:List ae×aj×ag)=>q.1=p.1/\iP m q.1 p.2.1/\cG q.2 p.2.2) Wm V_->
  bT m (Wm.map λq=>.tup q.1) (V_.map λf=>ar.ref f.2.1)/\b1 (V_.map λf=>ar.ref f.2.1) (V_.map λf=>ag.ref f.2.1)
 |_,_,.nil=>⟨rfl,.nil⟩
 |_,_,.cons u B=>by
  let@⟨A,E⟩:=DX B;exact⟨⟨_,_,rfl,u.2.1.2,A⟩,.cons rfl E⟩
def Lm(be:b.calm=aa)(db:b.A.units+20<b3):fl b (.builtin "sorted") (λw m G=>∃(s:aj) (Wm:List (List ae×ar)),w=[.ref s]/\m s=Z (.aH Wm)/\oW (Wm.map λq=>.tup q.1)/\
  ∀t Q,m t=Y->bT m (hy bp<|Wm.map λq=>.tup q.1) Q->G (.ref t) (upd m t<|.lst Q)):=by
 intro R j D m w Wy G H u c;let⟨s,@Wm,rfl,hd,g,p⟩:=c;let⟨@J,rfl,bi⟩:=iS u;cases bi;let@⟨z,M,⟨@V_,rel,⟨o,bm,@W2,bn,bs,bv,ca,ao⟩⟩⟩:=H.bg s _ hd;let@⟨S,i⟩:=DX rel;have al:j3 j.heap s (V_.map λf=>ag.ref f.2.1) W2:=⟨o,bm,bn,bs,bv,by rw[ca,fc];rfl⟩;generalize (V_.map λf=>ag.ref f.2.1)=Wl at i al;generalize (V_.map λf=>ar.ref f.2.1)=Wn at S i;generalize ds:(Wm.map λq=>ae.tup q.1)=I at S g p;have B:=S.fT H.bg i;have am:Wl.length=I.length:=B.length.symm;have ei:=g.ord.ei;have dL:Wn.length=Wl.length:=i.length;have an:Wl.length<=sizeLine:=fu ⋯ (show 1000<=sizeLine by decide);refine zL kind_sorted HV Jq (E3 _) ?z
 case z=>
  unfold bl.«sorted»;refine aA (m:=checkCount "sorted" 1 1 _) (aU<|aA<|kdu_collect (A:=b.A.in1) (Nc M) (H.ok.hd be) al an λU WN F L ap=>?_);have cd:F.toList=Wl:=by
   apply Fz
   ·rw[eb];exact ap.1
   ·intro a A E;have:=ap.2 a F.toList[a] (by rw[<-fD];exact eB A);have this:Wl[a]?=Z F.toList[a]:=this;rw[eB E]at this;exact (Option.some.inj this).symm
  rw[cd];refine aA (yf ?_ an);have as:(U.push<|hz "list" Wl.toArray 0).get? U.objs.size=Z (hz "list" Wl.toArray 0):=d4 _ rfl;have aY:∀d o,j.heap.get? d=Z o->(U.push<|hz "list" Wl.toArray 0).get? d=Z o:=λd o e=>cv _ (L d o e);have a1:aK b R D m {j with heap:=U,toks:=WN}:=H.kept L;have a2:∀d o,j.heap.get? d=Z o->d≠U.objs.size:=λd o e=>dP (cu<|L d o e);refine aA (fK<|j4 Ib ⟨_,as,rfl⟩ I8 ?C<|Ff _)
  case C=>
   refine CY (j:={j with heap:=U.push (hz "list" Wl.toArray 0),toks:=WN}) (rg I) (tv<|decide (∀s∈I,je s=aa)) as
    (λE N O G ce=>BP (b:=b) (c:=N) g.w E (B.uD λd o r=>O d o (a2 d o r)<|aY d o r) _ _ G ce)
    (λN O=>B0 (j:={j with heap:=N,toks:=WN}) g.w.ord (B.uD λd o r=>O d o (a2 d o r)<|aY d o r) g.w.tup (λch=>hh ch) (by show b.A.units+1+1+9<b3;lia))
    (.inl ⋯) ⋯ λq E h bd WR ⟨ci,cl⟩=>⟨_,rfl,aU ⟨_,rfl,?_⟩⟩;have co:m U.objs.size=Y:=a1.bg.fresh (bb _);have cr:∀d o,U.get? d=Z o->d≠U.objs.size:=λd o e=>dP (cu e);rw[am]at h bd;refine⟨.ref U.objs.size,upd m U.objs.size<|.lst<|q.toList.map λa=>Wn.getD a .a6,?_,rfl,p _ _ co ?_⟩
   ·refine a1.laid (WJ:=WN) (λd J e=>WR d J (cr d J e)<|cv _ e) (bb _) ⟨?_,_,ci,?_,cl⟩
    ·rw[aZ,eb,h.size];lia
    ·refine wK ↥0 λa v J A E=>?_;rw[fp]at A E;cases T:q.toList[a]? with
     |none=>rw[T]at A;cases A
     |some n=>
      rw[T]at A E;cases A;cases E;have x:n<Wl.length:=by rw[am];exact fI.mp (h.mem_iff.mp<|fH T)
      let⟨@J,y,cs⟩:=i.get (a:=n) (f:=Wn[n]'⋯) (by simp[show n<Wn.length by lia]);rw[eB x]at y;have y:=Option.some.inj y;simp only[List.getD,eB x,eB (show n<Wn.length by lia),zr];rw[y];exact cs
   ·rw[<-Hn g.w.ord (x2 h) (Hq g.w.ord h bd)];exact S.pick λn x=>fI.mp (h.mem_iff.mp x)
def ze(I:List ae):Bool:=(decide (I.length<=1000)&&I.all (λg=>I.all λd=>fa 6 g d)&&decide I.Nodup&&(I.all je || I.all mE))
def rh:ze I=aa↔oW I:=by
 unfold ze;rw[cy,cy,cy,pQ,fF,fF,e_,e_,e_];constructor
 ·rintro⟨⟨⟨A,E⟩,a⟩,b⟩;exact⟨⟨A,λg c d e=>e_.mp (E g c) d e,a⟩,b⟩
 ·rintro⟨⟨A,E,a⟩,b⟩;exact⟨⟨⟨A,λg c=>e_.mpr λd e=>E g c d e⟩,a⟩,b⟩
def h2(I:List ae):Option ai:=(if ze I=aa then Z (.lst<|hy bp I) else Y)
def ib:iZ:=(λI=>match I with
 |[.lst f]=>match te f with
  |some Wu=>zV [.lst f]
  |none=>h2 f
 |[.im (.tup f)]=>h2 f
 |[.aH Wm]=>h2 (Wm.map λq=>.tup q.1)
 |_=>Y)
def zX{s:ai}(c:h2 I=Z s):oW I/\s=.lst (hy bp I):=by
 unfold h2 at c;split at c
 ·rename_i e;cases c;exact⟨rh.mp e,rfl⟩
 ·cases c
theorem G2{m:aG}:∀{Wm:List (List ae×ae)}{i:List (List ae×ar)},fx m Wm i->(Wm.map λq=>ae.tup q.1)=i.map λq=>ae.tup q.1
 |_,_,.nil=>rfl
 |_,_,.cons u B=>by rw[cS,cS,G2 B,u.1]
def qT(g:b.calm=aa)(h:b.A.units+20<b3):ia b (.builtin "sorted") ib:=by
 intro R j D m w Wy G H u n;let⟨I,@s,k,e,p⟩:=n;unfold ib at e;split at e
 ·rename_i f;split at e
  ·exact OO g h R j D m w Wy G H u ⟨_,s,k,e,p⟩
  ·let@⟨c,rfl⟩:=zX e;let⟨@v,rfl,⟨W,q,@Wn,rfl,A,E,W⟩⟩:=gy k;exact t7 g h R j D m _ Wy G H u ⟨q,f,Wn,rfl,.inl<|dC.of A,E,c.w,λt Q aW d=>cq.l p aW d⟩
 ·rename_i f;let@⟨c,rfl⟩:=zX e;let⟨@v,rfl,o⟩:=gy k;let⟨q,@Wn,rfl,A,E⟩:=o.i;exact t7 g h R j D m _ Wy G H u ⟨q,f,Wn,rfl,.inr<|cD.of A,E,c.w,λt Q aW d=>cq.l p aW d⟩
 ·rename_i Wm;let@⟨c,rfl⟩:=zX e;let⟨@v,rfl,⟨W,q,@i,rfl,A,E,W⟩⟩:=gy k;rw[G2 E]at c p;exact Lm g h R j D m _ Wy G H u ⟨q,i,rfl,A,c,λt Q aW d=>cq.l p aW d⟩
 ·cases e
def l0(I:List ae):Bool:=(decide (I.length<=1000)&&I.all (λg=>I.all λd=>fa 6 g d)&&(I.all je || I.all mE))
def IZ:l0 I=aa↔qd I:=by
 unfold l0;rw[cy,cy,pQ,fF,e_,e_,e_];constructor
 ·rintro⟨⟨A,E⟩,a⟩;exact⟨⟨A,λg b d c=>e_.mp (E g b) d c⟩,a⟩
 ·rintro⟨⟨A,E⟩,a⟩;exact⟨⟨A,λg b=>e_.mpr λd c=>E g b d c⟩,a⟩
def ku:iZ:=(λI=>match I with
 |[.im (.tup f)]=>if l0 f=aa then Z (.lst<|hy bp f) else Y
 |[.lst f]=>if l0 f=aa then Z (.lst<|hy bp f) else Y
 |_=>Y)
def vD(g:b.calm=aa)(h:b.A.units+20<b3):ia b (.builtin "sorted") ku:=by
 intro R j D m w Wy G H u n;let⟨I,@s,k,e,p⟩:=n;unfold ku at e;split at e
 ·rename_i f;split at e
  ·rename_i c;cases e;let⟨@v,rfl,o⟩:=gy k;let⟨q,@Wn,rfl,A,E⟩:=o.i;exact t7 g h R j D m _ Wy G H u ⟨q,f,Wn,rfl,.inr<|cD.of A,E,IZ.mp c,λt Q aW d=>cq.l p aW d⟩
  ·cases e
 ·rename_i f;split at e
  ·rename_i c;cases e;let⟨@v,rfl,⟨W,q,@Wn,rfl,A,E,W⟩⟩:=gy k;exact t7 g h R j D m _ Wy G H u ⟨q,f,Wn,rfl,.inl<|dC.of A,E,IZ.mp c,λt Q aW d=>cq.l p aW d⟩
  ·cases e
 ·cases e
end
end L2
namespace PySem
open PySem.Sem (wp)
def Sz:vk (.type "list") "keys" = pure Y:=by rw[zY,zv];kernel_rfl
def Vu{Wf:bS}{l:bA}{P:bH}{Wa:ag->au->Prop}{j:au}{g:aj}{w:Array ag}{n:Nat}{G:Option ag->au->Prop}(a:j.heap.get? g=Z {cls:=.type "list",data:=.seq w n})(i:P.handled=Y)(c:∀U WN,(∀d o,j.heap.get? d=Z o->U.get? d=Z o)->G Y {j with heap:=U,toks:=WN}):wpAny (aV Wf l) P (getAttr? (.ref g) "keys") G Wa j:=by
 let⟨k,L,s,WN,Q⟩:=j;have b:∀f,(⟨k,L,s,f,Q⟩:au).TypeIs (.ref g) "list" := λ_=>⟨_,a,rfl⟩;have r:=sub_AttributeError;have t:=A_.lookup;have u:=A_.bind (.ref g);have v:=am_list_getattr_none;unfold getAttr? getAttrBy? getAttrBy;repeat (any_goals (first|assumption|exact b _|((with_reducible show wpAny _ _ (call (ag.builtin "list.__getattribute__") _ _) _ _ _);refine ro A_ (b _) am_entry_list_getattribute (F.args_list_getattribute_2 _ _) (meets_getattribute_miss_list g w n _ "keys" _ Sz (by decide +kernel) ∅) ⟨a,i,λU f e h=>?_⟩)|wp_step))
 let⟨WJ,@x,m⟩:=h.there;show wpAny _ _ (I9 _ _ _ _ _ _ _) _ _ _;unfold I9;have p:∀q,(⟨U,L,s,q,Q⟩:au).TypeIs (.ref e) "AttributeError" := λ_=>⟨_,m,rfl⟩;repeat (any_goals (first|assumption|exact p _|wp_step))
 exact c U _ h.keeps
end PySem
namespace PySem
namespace F
def HK:z3 table "dict.update.loop" = Z bl.«dict.update.loop»:=entryFor_of_tree (by kernel_rfl)
def v5:plainId "dict.update.loop" = aa:=by decide +kernel
end F
end PySem
namespace L2
open Spec PyProof.Rows PySem.W
variable{r:Nat}{V_:List bF}{Wr:Array ag}{B:aj}{j:au}{Wq:Pos}{v n:bF}
theorem zx{Ww W_:Type}{N:Ww->W_->Prop}:∀{b:List Ww}{e:List W_},eP N b e->∀(a:Nat),a<b.length->∃g d,b[a]?=Z g/\e[a]?=Z d/\N g d
 |_,_,.nil,a,c=>by simp at c
 |_,_,.cons u B,0,c=>⟨_,_,rfl,rfl,u⟩
 |_,_,.cons u B,a+1,c=>by
  let⟨g,@d,f,C,h⟩:=zx B a ⇑c;exact⟨g,d,by simpa using f,by simpa using C,h⟩
def jV:List ae->Option (List<|List ae×ae)
 |[]=>Z []
 |.tup [.tup n,s]::u=>(jV u).map λj=>(n,s)::j
 |_=>Y
def Na:∀{f:List ae}{Wk:List (List ae×ae)},jV f=Z Wk->f=Wk.map λq=>.tup [.tup q.1,q.2]:=by
 intro f;induction f with
 |nil=>intro Wk c;cases c;rfl
 |cons g f a=>
  intro Wk c;unfold jV at c;split at c
  ·cases c;rename_i e;cases e
  ·rename_i n s u e;cases e;let⟨@j,b,d⟩:=cU.mp c;cases d;rw[cS,<-a b]
  ·cases c
def hE(Wk:List (List ae×ae)):List (List ae×ae):=(Wk.foldl (λg q=>fs g q.1 q.2) [])
def AZ(m:aG)(v:ar)(q:List ae×ae):Prop:=(∃B g C,v=.ref B/\m B=Z (.tup [.ref g,C])/\iP m q.1 g/\cR m q.2 C)
theorem Hg{m:aG}:∀{Wk:List (List ae×ae)}{Wn:List ar},(∀q∈Wk,ae.keys 7 q.1=aa)->bT m (Wk.map λq=>.tup [.tup q.1,q.2]) Wn->eP (AZ m) Wn Wk
 |[],Wn,_,c=>by rw[show Wn=[] from c];exact .nil
 |q::Wk,Wn,a,c=>by
  let⟨v,@u,rfl,⟨B,@Q,rfl,A,⟨v1,@l,rfl,E,⟨b,@d,rfl,e,f⟩⟩⟩,h⟩:=c;cases (show d=[] from f);let⟨g,@H,rfl,i,j⟩:=E;exact .cons ⟨B,g,b,rfl,A,⟨a q<|.head _,g,H,rfl,i,j⟩,e⟩ (Hg (λp k=>a p<|.tail _ k) h)
section
variable{b:aR}{R:List (aj×bk)}{D:L2.a9}{m:aG}{T:au}
def gY.is{Wm:List (List ae×ar)}{w:List (List ae×aj×ag)}(u:gY m Wm w):∀f∈w,iP m f.1 f.2.1:=by
 intro f b;let⟨a,S,rfl⟩:=mg.mp b;let⟨q,@p,A,E,c,d,W⟩:=zx u a (by rw[eP.length u];exact S);rw[eB S]at E;have E:=Option.some.inj E;subst E;rw[<-c];exact d
def zZ(a:aK b R D m T){y:aj}{c U:a_}{Wm:List (List ae×ar)}{w:List (List ae×aj×ag)}(e:c.DictOfH (e7 b.prog b.w) y w)(i:gY m Wm w)(dj:∀d o,T.heap.get? d=Z o->U.get? d=Z o)(g:∀o,c.get? y=Z o->U.get? y=Z o):U.DictOfH (e7 b.prog b.w) y w:=by
 let⟨o,V_,@W2,A,E,h,j,W,k⟩:=e;have n:aK b R D m {T with heap:=U}:=a.kept (WJ:=T.toks) dj;exact⟨o,V_,W2,g o A,E,h,j,λf p=>n8 (c:=U) n.bg<|i.is f p,k⟩
def Pq(x:aK b R D m T){P:bH}(bi:P.units+20<b3){y gc t:aj}{V7:List ag}{Wn:List ar}{Wk:List (List ae×ae)}{a9:Nat->a_->Prop}{Wb:qn->au->Prop}(z:b1 Wn V7)(am:eP (AZ m) Wn Wk)(f2:Wk.length<=1000)(W:mf b.prog b.w P.in1 gc [gc,t] [gc] V7.length (λa v=>V7[a]?=Z v) a9)(bm:T.heap.get? y=Y)(A:T.heap.get? gc=Y)(E:y≠gc)(bn:y≠t)(fin:∀(j:au) (w:List (List ae×aj×ag)) (Wm:List (List ae×ar)),(∀d o,T.heap.get? d=Z o->j.heap.get? d=Z o)->j.heap.DictOfH (e7 b.prog b.w) y w->gY m Wm w->fx m (hE Wk) Wm->Wm.length<=1000->
   j.gens=T.gens->j.drawn=T.drawn->j.os=T.os->Wb (.ok<|.ret .none) j):
  ∀(k a:Nat) (B:iv) (j:au) (w:List (List ae×aj×ag)) (Wm:List (List ae×ar)),V7.length-a=k->a<=V7.length->a9 a j.heap->(∀d o,T.heap.get? d=Z o->j.heap.get? d=Z o)->
   j.heap.DictOfH (e7 b.prog b.w) y w->gY m Wm w->fx m (hE<|Wk.take a) Wm->Wm.length<=a->j.gens=T.gens->j.drawn=T.drawn->j.os=T.os->
   codeAny (aV b.prog b.w) P (.builtin "dict.update.loop" ⟨[.ref y,.ref gc,.int a B,.none],[]⟩) Wb j:=by
 have f4:V7.length=Wk.length:=by rw[<-z.length,eP.length am]
 intro k;induction k with
 |zero=>
  intro a B j w Wm bs S O dj G i u bv H I L;have ca:a=V7.length:=⋯
  refine kz F.HK ?_;rw[kP F.v5 _];refine aA (m:=h1 (.ref gc)) (W.done j _ _ (ca ▸ O) λU WN keep=>?_);refine aA (m:=bl.Dict.addKeywords y []) (aU<|aU ?_);have s:∀d o,d≠gc->j.heap.get? d=Z o->U.get? d=Z o:=λd o p e=>keep d o ⇑p e;refine fin _ w Wm (λd o e=>s d o (λf=>by rw[f,A]at e;cases e)<|dj d o e) ?_ i (by rw[sP ⋯]at u;exact u) ⋯ H I L;exact zZ x G i (λd o e=>s d o (λf=>by rw[f,A]at e;cases e)<|dj d o e) λo e=>s y o E e
 |succ k cd=>
  intro a B j w Wm bs S O dj G i u bv H I L;have lt:a<V7.length:=⋯
  refine kz F.HK ?_;rw[kP F.v5 _];refine aA (m:=h1 (.ref gc)) (W.item a j _ _ lt O λv U WN ce ch keep=>?_);have s:∀d o,d≠gc->j.heap.get? d=Z o->U.get? d=Z o:=λd o p e=>keep d o ⇑p e;let⟨C,@h,ci,cl,⟨q,g,@an,rfl,co,ap,cr⟩⟩:=zx am a (by rw[z.length];exact lt);let⟨@J,as,cs⟩:=z.get ci;rw[ce]at as;cases as;cases cs;have M:∀d o,T.heap.get? d=Z o->U.get? d=Z o:=λd o e=>s d o (λf=>by rw[f,A]at e;cases e) (dj d o e);have a1:aK b R D m {T with heap:=U}:=x.kept (WJ:=T.toks) M;have db:=zZ x G i M λo e=>s y o E e;let@⟨_,⟨@Wl,ds,⟨@o,a2,dL,⟨@r,eq⟩⟩⟩⟩:=a1.bg _ _ co;let⟨f8,@al,rfl,ev,ex⟩:=tX ds;cases ev;show wpAny (aV b.prog b.w) P.in1 (holding [.ref q] _ >>= λ_=>again _) _ _ _;refine aA (fK<|aA<|tC ?_);unfold bl.Dict.pairItems;refine aA (wpAny_typeOf (s:={j with heap:=U,toks:=WN}) (⟨o,a2,(Prod.mk.inj dL).1⟩:au.TypeIs {j with heap:=U,toks:=WN} (.ref q) "tuple") ?_);rw[aJ ∅];refine aA (i2 (s:={j with heap:=U,toks:=WN}) a2 eq<|aU ?_);show wpAny (aV b.prog b.w) P.in1 (holding [.ref g,al]<|dictSet y (.ref g) al) _ _ _;refine fK (D4 (s:={j with heap:=U,toks:=WN}) (k:=h.1) (knd:=e7 b.prog b.w) (r5 bi) (n8 (c:=U) a1.bg ap) db (λfd fn c0=>?_) (by
   have:=eP.length i;exact fu (show w.length<=1000 by lia) ∅))
  have bd:∀d o,d≠y->U.get? d=Z o->fd.get? d=Z o:=λd o p e=>(c0.2 d p).trans e;have fr:=i.put h.1 (d:=g) (C:=an) (J:=al) ap ex;have f0:Wk.take (a+1)=Wk.take a++[h]:=by
   have be:=(gk.mp cl);rw[IM be.1,be.2]
  have f1:fx m (hE<|Wk.take<|a+1) (iH Wm h.1 an):=by
   rw[f0];unfold hE;rw[zc];exact fx.put cr u
  refine aU ⟨kG F.v5 _,cd (a+1) 0 _ _ _ ⋯ lt (W.frame _ _ _ ch λd p o e=>bd d o (λf=>by
    subst f;rcases cg.mp p with f|p
    ·exact E f
    ·exact bn (cM.mp p)) e) (λd o e=>bd d o (λf=>by rw[f,bm]at e;cases e)<|M d o e) fn fr f1 ?_ H I L⟩
  unfold iH;split
  ·rw[aZ];lia
  ·simp;lia
def R9(q:b.calm=aa)(ch:b.A.units+30<b3):fl b (.type "dict") (λw m G=>∃(t:aj) (Wn:List ar) (Wk:List (List ae×ae)),w=[.ref t]/\m t=Z (.lst Wn)/\eP (AZ m) Wn Wk/\Wk.length<=1000/\
  ∀(s:aj) (Wm:List (List ae×ar)),m s=Y->fx m (hE Wk) Wm->G (.ref s) (upd m s<|.aH Wm)):=by
 intro R j D m w Wy G H u c;let⟨t,Wn,@Wk,rfl,L,M,O,p⟩:=c;let⟨@J,rfl,S⟩:=iS u;cases S;let@⟨z,⟨Wl,@r,T,e⟩⟩:=H.bg t _ L;have x:t<j.heap.objs.size:=cu e;refine GQ (Q₁:=λB C=>B=.ref j.heap.objs.size/\C={j with heap:=j.heap.push {cls:=.type "dict",data:=.dict #[]} }) PySem.F.kt_called_dict (PySem.F.kt_typeCall_dict_1 _) PySem.F.entry_dict_init (kt_code_dict_new _ ⟨rfl,rfl⟩) ?_;rintro B C ⟨rfl,rfl⟩;have al:(j.heap.push {cls:=.type "dict",data:=.dict #[]}).DictOfH (e7 b.prog b.w) j.heap.objs.size []:=a_.DictOfH.new j.heap;have E:au.TypeIs {j with heap:=j.heap.push {cls:=.type "dict",data:=.dict #[]} } (.ref j.heap.objs.size) "dict" := ⟨_,d4 _ rfl,rfl⟩;have f:(j.heap.push {cls:=.type "dict",data:=.dict #[]}).get? t=Z {cls:=.type "list",data:=.seq Wl.toArray r}:=cv _ e;refine⟨E,PySem.F.args_dict_init_2 _ _,?_⟩;unfold bl.«dict.__init__»;refine aA ?_;unfold bl.Dict.selfAndRest;refine aA (DN E ?_);show wpAny _ _ (pure (j.heap.objs.size,[ag.ref t])) _ _ _;refine aU ?_;show wpAny _ _ (bl.Dict.updateFrom "dict.__init__" j.heap.objs.size (.ref t) [] .none) _ _ _;unfold bl.Dict.updateFrom;refine aA (wpAny_typeOf (⟨_,f,rfl⟩:au.TypeIs {j with heap:=j.heap.push {cls:=.type "dict",data:=.dict #[]} } (.ref t) "list") ?_);rw[aJ ∅];refine aA (Vu (j:={j with heap:=j.heap.push {cls:=.type "dict",data:=.dict #[]} }) f (H.ok.hd q) λA WN WD=>?_);rw[aJ (show (Y:Option ag).isNone=aa from rfl)];refine aA (m:=rule _) (ki ?_);have I:A.IsList t Wl.toArray:=⟨_,WD _ _ f,rfl,r,rfl⟩;refine aA (tr (s:={j with heap:=A,toks:=WN}) I ?_);have uM:j.heap.objs.size<A.objs.size:=cu (WD _ _<|d4 _ rfl);have dj:∀d o,j.heap.get? d=Z o->(A.push {cls:=.type "list_iterator",data:=.fields #[.ref t,.int 0 0]}).get? d=Z o:=λd o g=>cv _ (WD d o<|cv _ g);refine aU ⟨kG PySem.F.v5 _,?_⟩;have am:(A.push {cls:=.type "list_iterator",data:=.fields #[.ref t,.int 0 0]}).DictOfH (e7 b.prog b.w) j.heap.objs.size []:=zZ H (Wm:=[]) al .nil dj λo an=>cv _ (WD _ _ an);have ap:t≠A.objs.size:=dP (pC x uM);refine Pq H (P:=b.A.in1) (by show b.A.units+1+20<b3;lia) (y:=j.heap.objs.size) (gc:=A.objs.size) (t:=t) (a9:=λa c=>c.IsListIter A.objs.size t a/\c.IsList t Wl.toArray) T M O ?_ (As<|bb _) (As<|oJ uM) (dP uM) (oL x)
  (λV9 w Wm as a1 a2 bd cl h i n=>?_) Wl.length 0 0 _ [] [] rfl (f7 _) ?_ dj am .nil .nil (bb _) rfl rfl rfl
 ·have W:=mf.list (prog:=b.prog) (w:=b.w) (A:=b.A.in1.in1) (H.ok.hd q) A.objs.size t ap Wl.toArray;have be:(λ(a:Nat) (v:ag)=>Wl.toArray[a]?=Z v)=λa v=>Wl[a]?=Z v:=by
   funext a v;rw[A8]
  rw[be,cV]at W;exact W
 ·let⟨U,bi,bm,WJ,bn⟩:=V9;have h:bi=j.gens:=h;have i:bm=j.drawn:=i;have n:bn=j.os:=n;subst h i n;have yx:m j.heap.objs.size=Y:=H.bg.fresh (bb _);let⟨o,V_,@W2,bs,bv,ca,cd,V,ce⟩:=a1;refine⟨rfl,.ref j.heap.objs.size,_,H.laid (o:=.aH Wm) (U:=U) (WJ:=WJ) as (bb _) ⟨fu (show Wm.length<=1000 by lia) ∅,AK.mpr<|g6<|dP H.big,w,a2.keeps λd Wn g=>GV g yx,o,V_,W2,bs,bv,ca,cd,ce⟩,rfl,p _ Wm yx bd⟩
 ·exact⟨⟨_,d4 _ rfl,rfl,rfl⟩,I.push _⟩
@[simp] def js:iZ:=λI=>match I with
 |[.lst f]=>(jV f).bind λWk=>if (Wk.all λq=>ae.keys 7 q.1)=aa/\Wk.length<=1000 then Z (.aH<|hE Wk) else Y
 |_=>Y
def rK(d:b.calm=aa)(h:b.A.units+30<b3):ia b (.type "dict") js:=by
 refine (R9 d h).imp λw m G i=>?_;let⟨I,@s,k,e,p⟩:=i;unfold js at e;split at e
 ·rename_i f;let⟨@Wk,l,a⟩:=bZ.mp e;split at a
  ·rename_i c;cases a;let⟨@v,rfl,⟨W,q,@Wn,rfl,A,E,W⟩⟩:=gy k;rw[Na l]at E;refine⟨q,Wn,Wk,rfl,A,Hg (λp n=>e_.mp c.1 p n) E,c.2,λs Wm hd o=>?_⟩;have j:df m (upd m s<|.aH Wm):=(df.refl m).upd hd;exact p _ _ [s] j ⟨s,Wm,rfl,fB,o.mono j.tupS.tup,rfl⟩ (e9 _ _) λg r=>by rw[cM.mp r];exact hd
  ·cases a
 ·cases e
end
section
variable{b:aR}
def Pb(WN t:cj):cj:=(λD m G=>∀q,m q=Y->WN D (upd m q<|.aH []) λf Wh=>t D Wh λC Ws=>∃d n,f=.ref d/\iP Ws n d/\Ws q=Z (.aH [])/\G (.ref q) (upd Ws q<|.aH [(n,C)]))
def Me{WN t:cj}(ap:b.A.units+20<b3)(u:bU b n WN)(x:bU b v t):bU b (.Dict [Z n] [v] Wq) (Pb WN t):=by
 intro R j D m G H p;have y:=H.bg.fresh (bb j.heap.objs.size);have z:=H.laid (g:=j.heap.objs.size) (o:=.aH []) (U:=j.heap.push {cls:=.type "dict",data:=.dict #[]}) (WJ:=j.toks) (λ_ W p=>cv _ p) (bb _) (B3 j.heap H.big);refine wpAny_Dict_any rfl rfl ↥0 ↥0 ?_;refine pairTrees_cons_walk (b6 (u R _ D _ _ z<|p _ y) λJ B ⟨f,Wh,F,I,L⟩=>b6 (x R B D Wh _ F L) λas M ⟨C,Ws,a,N,d,h,W7,e,c,O⟩=>pairTrees_nil_walk ?_);subst W7;cases I;let@⟨k,Q,⟨@w,i,S⟩⟩:=Ax a.bg c;cases i;unfold storeAll;rw[vN];refine aA (aA (D4 (k:=h) (knd:=e7 b.prog b.w) (show b.A.units+10<b3 by lia) (n8 a.bg e) S (λU T c0=>aU ?_)<|f7 _));refine aU ⟨.ref j.heap.objs.size,_,?_,rfl,O⟩;let⟨q,V_,@W2,r,E,al,am,W,an⟩:=T;refine yE (j:=M) a (by rw[c];exact True.intro) c0 ⟨q,r⟩ ⟨(show 1<=sizeLine by decide),Q,_,gY.keeps (gY.put (Wm:=[]) (w:=[]) .nil h (d:=d) e N) λa2 Wn s=>?_,q,V_,W2,r,E,al,am,an⟩;rw[dI (Gv s c<|λk=>nomatch k)];exact s
@[simp] def wz(a b:aF ai):aF ai:=λy=>(a y).bind λq=>(b q.2).bind λp=>match q.1,p.1 with
 |.im (.tup n),.im s=>if ae.keys 7 n=aa then Z (.aH [(n,s)],p.2) else Y
 |_,_=>Y
def xH{z B:aF ai}(Q:b.A.units+20<b3)(R:cx b n z)(S:cx b v B):cx b (.Dict [Z n] [v] Wq) (wz z B):=by
 refine eQ (Me Q R S) λD m G ⟨y,N,u,Wv,O,ao,T,p⟩ q l=>?_;let⟨@⟨WY,We⟩,A,E⟩:=bZ.mp T;let⟨@⟨WZ,WO⟩,al,i⟩:=bZ.mp E;have j:df m (L2.upd m q<|.aH []):=(df.refl m).upd l;have F:q∉N:=λa=>by let⟨@o,e,W⟩:=O.chg q a;rw[l]at e;cases e
 refine⟨y,N,WY,We,O.mono j.tupS λg W o e=>j g o e,ao,A,λf Wh Wx bi am WC r=>?_⟩;have an:=dD.mp r.ao;refine⟨We,Wx,WZ,WO,am,an.1,al,λC Ws WE cf ap WW k=>?_⟩;dsimp only at i;split at i
 ·rename_i s bm;split at i
  ·rename_i as;cases i;let@⟨a1,rfl⟩:=WC;let@⟨a2,rfl⟩:=WW;rw[cO]at r k;have t:=r.seq k;have H:Wh q=Z (.aH []):=r.keep q _ fB F;have I:q∉Wx:=λa=>by
    rcases r.sub q a with c|c
    ·exact F c
    ·rw[fB]at c;cases c
   have x:Ws q=Z (.aH []):=k.keep q _ H I;have L:q∉WE:=λa=>by
    rcases k.sub q a with c|c
    ·exact I c
    ·rw[H]at c;cases c
   let⟨d,@w,rfl,WD,WR⟩:=(show cR Ws (.tup s) f from a1.mono k.tup.tup);refine⟨d,s,rfl,⟨as,d,w,rfl,WD,WR⟩,x,?_⟩;have kB:ha Ws (L2.upd Ws q<|.aH [(s,C)]):=ha.of (λg w e=>by
    have:g≠q:=λa=>by subst a;rw[x]at e;cases e
    rw[dI this];exact e) λg o J e=>by
    have:g≠q:=λa=>by subst a;rw[x]at e;cases e
    rw[dI this];exact e
   refine p _ _ WE [q] (ap.mono kB λg h o e=>by
    have ne:g≠q:=λa=>by subst a;exact L h
    rw[dI ne];exact e) ⟨q,[(s,C)],rfl,fB,.cons ⟨rfl,a2.mono kB.tup⟩ .nil,rfl⟩ ?_
   refine⟨λg o e h=>?_,λg h=>?_,?_,?_,λg o e=>?_⟩
   ·have:g≠q:=λa=>by subst a;rw[l]at e;cases e
    rw[dI this];exact t.keep g o (by rw[dI this];exact e) h
   ·rcases dw.mp h with c|c
    ·rcases t.sub g c with U|U
     ·exact .inl U
     ·by_cases e:g=q
      ·exact .inr (e ▸ l)
      ·rw[dI e]at U;exact .inr U
    ·exact .inr (by rw[cM.mp c];exact l)
   ·exact dD.mpr ⟨k.ao,e9 _ _,λg h d bd e=>L (by rw[cM.mp bd]at e;rw[<-e];exact h)⟩
   ·exact (j.tupS.trans t.tup).trans kB
   ·by_cases a:g=q
    ·exact⟨_,by rw[a];exact fB⟩
    ·let⟨@M,be⟩:=t.grow g o (by rw[dI a];exact e);exact⟨M,by rw[dI a];exact be⟩
  ·cases i
 ·cases i
end
def NC:String->bl:=((⟨_,rfl⟩:{x:String->bl // x "max" = bl.«max» }).1)
def QM:String->m7->bl:=((⟨_,rfl⟩:{x:String->m7->bl // x "max" .Gt=bl.«max.loop» }).1)
section
variable{Wf:bS}{l:bA}{P:bH}{Wa:ag->au->Prop}{j:au}
def HL{t m:String}{WV:m7}(p:(toString t++toString ".loop" : String)=m)(T:builtinKind t=Y)(al:plainId t=aa)(am:z3 table t=Z (NC t))(an:∀g d:ag,argsOk t ⟨[g,d],[]⟩)(a:plainId m=aa)(r:z3 table m=Z (QM t WV)){g d:ag}{n:Bool}{G:ag->au->Prop}(ap:P.handled=Y)(as:∀V9:au,(∀h o,j.heap.get? h=Z o->V9.heap.get? h=Z o)->∀(G:ag->au->Prop) (Wa:ag->au->Prop),G (.bool n) V9->wpAny (aV Wf l) P.in1 (oG WV d g) G Wa V9)(c:∀U WN,(∀h o,j.heap.get? h=Z o->U.get? h=Z o)->G (if n=aa then d else g) {j with heap:=U,toks:=WN}):wpAny (aV Wf l) P (call (.builtin t) [g,d]) G Wa j:=by
 refine call_function_tree T al am (an _ _) ?_;show wpAny _ P.in1 (bl.Builtins.bindParams t ["key","default"] 0 ⟨[],[]⟩ >>= _) _ _ j;refine aA (ta (show bl.Builtins.bindParams t ["key","default"] 0 ⟨[],[]⟩=pure [Y,Y] from rfl) ?_);show wpAny _ P.in1 (yy [g,d] >>= _) _ _ j;refine aA (hD ?_);have B:(j.heap.push {cls:=.type "tuple",data:=.seq #[g,d]}).IsTuple j.heap.objs.size #[g,d]:=⟨_,d4 _ rfl,rfl,0,rfl⟩;refine aA (wpAny_pyIter_tuple B<|aA<|hD ?_);have q:(j.heap.push {cls:=.type "tuple",data:=.seq #[g,d]}).objs.size=j.heap.objs.size+1:=oy ..;have W:=mf.tuple (prog:=Wf) (w:=l) (A:=P.in1) ap (j.heap.push {cls:=.type "tuple",data:=.seq #[g,d]}).objs.size j.heap.objs.size (by rw[q];exact dP (pL _)) #[g,d];rw[p];refine aU ⟨kG a _,?_⟩;have s:((j.heap.push {cls:=.type "tuple",data:=.seq #[g,d]}).push {cls:=.type "tuple_iterator",data:=.fields #[.ref j.heap.objs.size,.int 0 0]}).IsTupleIter (j.heap.push {cls:=.type "tuple",data:=.seq #[g,d]}).objs.size j.heap.objs.size 0:=⟨_,d4 _ rfl,rfl,rfl⟩;have C:=B.push {cls:=.type "tuple_iterator",data:=.fields #[.ref j.heap.objs.size,.int 0 0]};have u:((j.heap.push {cls:=.type "tuple",data:=.seq #[g,d]}).push {cls:=.type "tuple_iterator",data:=.fields #[.ref j.heap.objs.size,.int 0 0]}).objs.size=j.heap.objs.size+2:=by rw[oy,q]
 have dj:∀h o,j.heap.get? h=Z o->((j.heap.push {cls:=.type "tuple",data:=.seq #[g,d]}).push {cls:=.type "tuple_iterator",data:=.fields #[.ref j.heap.objs.size,.int 0 0]}).get? h=Z o:=λh o e=>cv _ (cv _ e);rw[q]at W s;rw[q,u];generalize ca:((j.heap.push {cls:=.type "tuple",data:=.seq #[g,d]}).push {cls:=.type "tuple_iterator",data:=.fields #[.ref j.heap.objs.size,.int 0 0]})=g2 at s C u dj ⊢;have D:(g2.push {cls:=.type "list",data:=.seq ([]:List ag).toArray}).get? (j.heap.objs.size+2)=Z {cls:=.type "list",data:=.seq ([]:List ag).toArray}:=by rw[<-u];exact d4 _ rfl
 have w:j.heap.objs.size+2∉[j.heap.objs.size+1]:=by simp
 have F:∀h∈[j.heap.objs.size+1,j.heap.objs.size],j.heap.objs.size+2≠h:=λh b f=>by
  simp only[cg,pa,h6]at b;rcases b with e|e
  ·rw[e]at f;exact absurd f (oL<|pL _)
  ·rw[e]at f;exact absurd f (oL (EY ∅))
 have i:∀h o,j.heap.get? h=Z o->h∉[j.heap.objs.size+1]/\h≠j.heap.objs.size+2:=λh o e=>by
  have lt:=cu e;refine⟨λf=>?_,dP<|gm lt<|nM _ _⟩;rw[cM.mp f]at lt;exact lN _ (Nat.lt_of_succ_lt lt)
 have fin:∀(U:a_) (WN:Nat) (k:ag) (H:Nat),(∀h o,j.heap.get? h=Z o->U.get? h=Z o)->U.get? (j.heap.objs.size+2)=Z {cls:=.type "list",dict:=Y,data:=.seq #[k,k] H,slots:=#[]}->
   U.IsTupleIter (j.heap.objs.size+1) j.heap.objs.size 2/\U.IsTuple j.heap.objs.size #[g,d]->k=(if n=aa then d else g)->
   codeAny (aV Wf l) P (.builtin m ⟨[.ref (j.heap.objs.size+1),.none,.ref<|j.heap.objs.size+2],[]⟩) (wants G Wa) {j with heap:=U,toks:=WN}:=by
  intro U WN k H WD I O vB;refine kz r ?_;rw[kP a _];show wpAny _ P.in1 (qq (.ref<|j.heap.objs.size+2) >>= _) _ _ _;refine aA (i2 (s:={j with heap:=U,toks:=WN}) I rfl ?_);show wpAny _ P.in1 (tryCatch (h1<|.ref<|j.heap.objs.size+1) _ >>= _) _ _ _;refine aA (tC<|W.done {j with heap:=U,toks:=WN} _ _ O λE a1 J=>?_);have a2:=J _ _ w I;show wpAny _ P.in1 (updateSeq (j.heap.objs.size+2) (λ_=>#[]) >>= _) _ _ _;refine aA (Bi a2 rfl<|aA<|n3<|aU ?_);show G k _;rw[vB];exact c _ a1 λh o e=>(lP _ _<|g6 (i h o e).2).trans (J h o (i h o e).1 (WD h o e))
 refine kz r ?_;rw[kP a _];show wpAny _ P.in1 (qq (.ref<|j.heap.objs.size+2) >>= _) _ _ _;refine aA (i2 (s:={j with heap:=g2.push {cls:=.type "list",data:=.seq ([]:List ag).toArray} }) D rfl ?_);show wpAny _ P.in1 (tryCatch (h1<|.ref<|j.heap.objs.size+1) _ >>= _) _ _ _;refine aA (tC (W.item 0 {j with heap:=g2.push {cls:=.type "list",data:=.seq ([]:List ag).toArray} } _ _ ↥0 ⟨let ⟨o,bd,be⟩:=s;⟨o,cv _ bd,be⟩,C.push _⟩ λv A cd x bi WD=>?_));cases x;have L:=WD _ _ w D;show wpAny _ P.in1 (updateSeq (j.heap.objs.size+2) (λ_=>#[g,g]) >>= _) _ _ _;refine aA (Bi L rfl ?_);rw[p];refine aU ⟨kG a _,kz r ?_⟩;have M:=pJ (bk.mapSeq<|λ_=>(#[g,g]:Array ag)) L rfl;have bm:=W.frame _ _ (A.update (j.heap.objs.size+2)<|bk.mapSeq<|λ_=>(#[g,g]:Array ag)) bi λh b o e=>(lP _ _<|F h b).trans e;have bn:∀h o,j.heap.get? h=Z o->(A.update (j.heap.objs.size+2)<|bk.mapSeq<|λ_=>(#[g,g]:Array ag)).get? h=Z o:=λh o e=>(lP _ _<|g6 (i h o e).2).trans (WD h o (i h o e).1 (cv _<|dj h o e));rw[kP a _];show wpAny _ P.in1 (qq (.ref<|j.heap.objs.size+2) >>= _) _ _ _;refine aA (i2 M rfl ?_);show wpAny _ P.in1 (tryCatch (h1<|.ref<|j.heap.objs.size+1) _ >>= _) _ _ _;refine aA (tC (W.item 1 _ _ _ ↥0 bm λv bs N x Q R=>?_));cases x;have y:=R _ _ w M;have z:∀h o,j.heap.get? h=Z o->bs.get? h=Z o:=λh o e=>R h o (i h o e).1 (bn h o e);show wpAny _ P.in1 (tryCatch (holding [d,d]<|oG WV d g >>= _) _ >>= _) _ _ _;refine aA (tC<|fK<|aA<|as _ z _ _ ?_);refine aA (fK<|m6 ?_);refine aA (n3<|aU ?_);cases S:n with
 |true=>
  simp only[iu];refine aA (Bi y rfl<|aA<|n3 ?_);rw[p];have bv:=pJ (bk.mapSeq<|λ_=>(#[d,d]:Array ag)) y rfl;refine aU ⟨kG a _,fin _ N d _ (λh o e=>(lP _ _<|g6 (i h o e).2).trans<|z h o e) bv (W.frame _ _ _ Q λh b o e=>(lP _ _<|F h b).trans e) (by rw[S];rfl)⟩
 |false=>
  simp only[hJ,gf];refine aA (n3 ?_);rw[p];exact aU ⟨kG a _,fin _ N g _ z y Q (by rw[S];rfl)⟩
end
section
variable{Wf:bS}{l:bA}{P:bH}{Wa:ag->au->Prop}{j:au}{g d:ag}{n:Bool}{G:ag->au->Prop}
def P7(a:P.handled=Y)(b:∀V9:au,(∀h o,j.heap.get? h=Z o->V9.heap.get? h=Z o)->∀(G:ag->au->Prop) (Wa:ag->au->Prop),G (.bool n) V9->wpAny (aV Wf l) P.in1 (oG .Gt d g) G Wa V9)(c:∀U WN,(∀h o,j.heap.get? h=Z o->U.get? h=Z o)->G (if n=aa then d else g) {j with heap:=U,toks:=WN}):wpAny (aV Wf l) P (call (.builtin "max") [g,d]) G Wa j:=
 HL ∅ F.kind_max F.plain_max F.entry_max F.args_max2 F.plain_max_loop F.entry_max_loop a b c
def Ti(a:P.handled=Y)(b:∀V9:au,(∀h o,j.heap.get? h=Z o->V9.heap.get? h=Z o)->∀(G:ag->au->Prop) (Wa:ag->au->Prop),G (.bool n) V9->wpAny (aV Wf l) P.in1 (oG .Lt d g) G Wa V9)(c:∀U WN,(∀h o,j.heap.get? h=Z o->U.get? h=Z o)->G (if n=aa then d else g) {j with heap:=U,toks:=WN}):wpAny (aV Wf l) P (call (.builtin "min") [g,d]) G Wa j:=
 HL ∅ F.kind_min F.plain_min F.entry_min F.args_min2 F.plain_min_loop F.entry_min_loop a b c
end
def x7(P:bH)(j:au)(C f:ag)(n:Bool):Prop:=(∀(Wf:bS) (l:bA) (Wa:ag->au->Prop) (G:ag->au->Prop),G (.bool n) j->wpAny (aV Wf l) P (oG .Gt C f) G Wa j)
section
open PySem.SeqAt
open PySem.AutoSeq1 (wpAny_loadPart')
open PySem.MeetsSeq PySem.MeetsSeq2 PySem.MeetsSeq3
def L_(t d:aj)(Wr b:Array ag)(r y:Nat)(z B:Option aj)(aO D:Array (Option ag))(Wk:List (Bool×Bool))(R:Wk.length=min Wr.size b.size):
  Meets (bl.«tuple.__gt__» ⟨[.ref t,.ref d],[]⟩)
   (λP Wb j=>j.heap.get? t=Z {cls:=.type "tuple",dict:=z,data:=.seq Wr r,slots:=aO}/\j.heap.get? d=Z {cls:=.type "tuple",dict:=B,data:=.seq b y,slots:=D}/\
    (∀i (A:i<Wr.size) (E:i<b.size) (o:i<Wk.length),EqAt P.in1 j Wr[i] b[i] (Wk[i]).1/\((Wk[i]).1=aw->x7 P.in1 j Wr[i] b[i] (Wk[i]).2))/\
    Wb (.ok<|.ret<|.bool<|i1 (decide (b.size<Wr.size)) Wk) j):=
 .of_wp λWf l P Wb j c=>by
  let⟨k,L,s,WN,Q⟩:=j;let@⟨F,G,H,c⟩:=c;have S:=A7;have q:(Wr.toList.zip b.toList).length=min Wr.size b.size:=by simp
  wp_walk using wpAny_loadPart' F,wpAny_loadPart' G,ot _ (λdx d V9=>d.1=Y/\V9=⟨k,L,s,WN,Q⟩/\∃a,dx=(Wr.toList.zip b.toList).drop a/\
   Wb (.ok<|.ret<|.bool<|i1 (decide (b.size<Wr.size))<|Wk.drop a) ⟨k,L,s,WN,Q⟩) _
  case turn=>
   rintro⟨C,f⟩ dx d V9 ⟨p,rfl,a,g,h⟩;have u:a<(Wr.toList.zip b.toList).length:=by
    rcases gv a (Wr.toList.zip b.toList).length with U|U
    ·exact U
    ·rw[og U]at g;cases g
   have T:a<min Wr.size b.size:=q ▸ u;have A:a<Wr.size:=⋯
   have E:a<b.size:=⋯
   have o:a<Wk.length:=⋯
   rw[kr u]at g;injection g with v I;have J:C=Wr[a]:=by have:=congrArg Prod.fst v;simpa using this
   have M:f=b[a]:=by have:=congrArg Prod.snd v;simpa using this
   subst J M;rw[kr o]at h;let@⟨w,x⟩:=H a A E o;generalize Wk[a]=N at h w x;let⟨e,n⟩:=N;refine aA (w Wf l _ _ ?_);cases e with
   |true=>
    have m:Wb (.ok<|.ret<|.bool<|i1 (decide (b.size<Wr.size))<|Wk.drop<|a+1) ⟨k,L,s,WN,Q⟩:=h
    wp_walk
    exact⟨rfl,rfl,a+1,I,m⟩
   |false=>
    have m:Wb (.ok<|.ret<|.bool n) ⟨k,L,s,WN,Q⟩:=h;have O:=x rfl Wf l
    wp_walk using O
    exact⟨_,rfl,by simpa using m⟩
  case fin=>
   rintro⟨dY,dH⟩ V9 ⟨p,rfl,a,g,h⟩;simp only at p;subst p;have al:min Wr.size b.size<=a:=by
    rcases gv a (Wr.toList.zip b.toList).length with U|U
    ·rw[kr U]at g;cases g
    ·exact q ▸ U
   rw[og ⋯]at h;have m:Wb (.ok<|.ret<|.bool<|decide (b.size<Wr.size)) ⟨k,L,s,WN,Q⟩:=h
   wp_walk
   exact⟨_,rfl,by simpa [bl.Tuple.tupleCompareSizes] using m⟩
  case h=>
   exact⟨rfl,rfl,0,rfl,by simpa using c⟩
end
def lM(I V_:List ae):List (Bool×Bool):=((I.zip V_).map λq=>(cT q.1 q.2,bp q.2 q.1))
def KL(g d:ae):ae.beq g d=ae.beq d g:=by
 rw[k6,ae.beq_iff,ae.beq_iff];exact⟨λc=>c.symm,λc=>c.symm⟩
theorem Cg:∀{r:Nat}{I V_:List ae},gz r I V_=aa->i1 (decide (V_.length<I.length)) (lM I V_)=g_ V_ I
 |_,[],[],_=>rfl
 |r,g::u,d::B,c=>by
  rw[gz,cy]at c;show (if cT g d=aa then i1 (decide (B.length+1<u.length+1)) (lM u B) else bp d g)=g_ (d::B) (g::u);rw[g_,(pN c.1).2.2,<-Cg c.2,KL,mM.mpr y_]
 |_,[],_::_,_=>rfl
 |_,_::_,[],_=>rfl
def F9{P:bH}{a i:Int}{J v:ag}(b:eg j.heap (.int a) J)(c:eg j.heap (.int i) v):x7 P j J v (bp (.int i)<|.int a):=by
 let⟨@B,rfl⟩:=b;let⟨@WJ,rfl⟩:=c;intro Wf l Wa G p;rw[bp]at p;exact (UX p:wpAny (aV Wf l) P (ey .Gt (.int a B)<|.int i WJ) G Wa j)
def Kl(r:Nat):∀{P:bH}{f C:ae}{J v:ag},fa r f C=aa->P.units+r+2<b3->eg j.heap f J->eg j.heap C v->x7 P j J v (bp C f):=by
 induction r with
 |zero=>
  intro P f C J v c H b h;rcases sU c with ⟨a,i,rfl,rfl⟩|⟨k,_,_,e,_⟩
  ·exact F9 b h
  ·cases e
 |succ r L=>
  intro P f C J v c H b h;rcases sU c with ⟨a,i,rfl,rfl⟩|⟨k,I,V_,e,rfl,rfl,c⟩
  ·exact F9 b h
  cases e;let⟨g,o,Wl,@k,rfl,A,E,m,n⟩:=b;let⟨d,M,y,@O,rfl,q,s,t,u⟩:=h;let⟨cls,Q,data,aO⟩:=o;let⟨ap,R,as,S⟩:=M;simp only at E m s t;subst E m s t;have a8:I.length=Wl.size:=by rw[n.length,eb]
  have bz:V_.length=y.size:=by rw[u.length,eb]
  intro Wf l Wa G p;rw[bp,<-Cg c,a8,bz]at p;have T:(lM I V_).length=min Wl.size y.size:=by rw[lM,aZ,ox,a8,bz]
  refine CO (op:=.Gt) ⟨_,A,rfl⟩ ⟨_,q,rfl⟩ PySem.F.slot_tuple_gt PySem.F.entry_tuple_gt (PySem.F.args_tuple_gt_2 _ _) (L_ g d Wl y k O Q R aO S (lM I V_) T)
   ⟨A,q,λi U al am=>?_,show ag.bool (i1 (decide (y.size<Wl.size))<|lM I V_)≠ag.notImplemented/\G (.bool<|i1 (decide (y.size<Wl.size))<|lM I V_) j from ⟨(λf=>nomatch f),p⟩⟩ ⋯;let⟨@WY,w,x⟩:=n.get (i:=i) (v:=Wl[i]) (by rw[fD];simp[U]);let⟨@WZ,z,B⟩:=u.get (i:=i) (v:=y[i]) (by rw[fD];simp[al]);have lk:=Ay c w z;have D:=pN lk;have an:(lM I V_)[i]=(cT WY WZ,bp WZ WY):=by
   have:(lM I V_)[i]?=Z (cT WY WZ,bp WZ WY):=by
    rw[lM,fp,(uI (z:=(WY,WZ))).mpr ⟨w,z⟩];rfl
   rw[eB am]at this;exact Option.some.inj this
  rw[an];exact⟨j9 r D.1 D.2.1 (by show P.units+1+r+1<b3;lia) x B,λ_=>L lk (by show P.units+1+r+2<b3;lia) x B⟩
section
variable{b:aR}
def RU(f:b.calm=aa)(i:b.A.units+20<b3):fl b (.builtin "max") (λw m G=>∃(s e:ae) (v J:ar),w=[v,J]/\fa 6 e s=aa/\cR m s v/\cR m e J/\G (if bp s e=aa then J else v) m):=by
 intro R j D m w Wy G H u c;let⟨s,e,v,@J,rfl,lk,A,E,p⟩:=c;let⟨k,@q,rfl,a,d⟩:=tX u;refine P7 (n:=bp s e) (H.ok.hd f) (λV9 n G Wa h=>?_) λU WN n=>⟨if bp s e=aa then J else v,m,H.kept n,?_,p⟩
 ·exact Kl 6 lk (by show b.A.units+1+6+2<b3;lia) ((E.fT H.bg d).keep λg o W W e W W=>n g o e) ((A.fT H.bg a).keep λg o W W e W W=>n g o e) b.prog b.w Wa G h
 ·split
  ·exact d
  ·exact a
def Qb(f:b.calm=aa)(i:b.A.units+20<b3):fl b (.builtin "min") (λw m G=>∃(s e:ae) (v J:ar),w=[v,J]/\fa 6 e s=aa/\cR m s v/\cR m e J/\G (if bp e s=aa then J else v) m):=by
 intro R j D m w Wy G H u c;let⟨s,e,v,@J,rfl,lk,A,E,p⟩:=c;let⟨k,@q,rfl,a,d⟩:=tX u;refine Ti (n:=bp e s) (H.ok.hd f) (λV9 n G Wa h=>?_) λU WN n=>⟨if bp e s=aa then J else v,m,H.kept n,?_,p⟩
 ·exact Ai 6 lk (by show b.A.units+1+6+2<b3;lia) ((E.fT H.bg d).keep λg o W W e W W=>n g o e) ((A.fT H.bg a).keep λg o W W e W W=>n g o e) b.prog b.w Wa G h
 ·split
  ·exact d
  ·exact a
def ts:iZ:=(λI=>match I with
 |[.im (.int a),.im<|.int i]=>AV [.im (.int a),.im<|.int i]
 |[.im (.tup g),.im<|.tup d]=>if fa 6 (.tup d) (.tup g)=aa then Z (.im<|if bp (.tup g) (.tup d)=aa then .tup d else .tup g) else Y
 |_=>Y)
def td:iZ:=(λI=>match I with
 |[.im (.int a),.im<|.int i]=>z6 [.im (.int a),.im<|.int i]
 |[.im (.tup g),.im<|.tup d]=>if fa 6 (.tup d) (.tup g)=aa then Z (.im<|if bp (.tup d) (.tup g)=aa then .tup d else .tup g) else Y
 |_=>Y)
def UY(c:b.calm=aa)(h:b.A.units+20<b3):ia b (.builtin "max") ts:=by
 intro R j D m w Wy G H u k;let⟨I,@s,f,e,p⟩:=k;unfold ts at e;split at e
 ·exact QD c R j D m w Wy G H u ⟨_,s,f,e,p⟩
 ·split at e
  ·rename_i g d lk;cases e;let⟨v,@J,rfl,A,E⟩:=Bu f;refine RU c h R j D m _ Wy G H u ⟨_,_,v,J,rfl,lk,A,E,cq.i p ?_⟩;split
   ·exact E
   ·exact A
  ·cases e
 ·cases e
def NP(c:b.calm=aa)(h:b.A.units+20<b3):ia b (.builtin "min") td:=by
 intro R j D m w Wy G H u k;let⟨I,@s,f,e,p⟩:=k;unfold td at e;split at e
 ·exact Oh c R j D m w Wy G H u ⟨_,s,f,e,p⟩
 ·split at e
  ·rename_i g d lk;cases e;let⟨v,@J,rfl,A,E⟩:=Bu f;refine Qb c h R j D m _ Wy G H u ⟨_,_,v,J,rfl,lk,A,E,cq.i p ?_⟩;split
   ·exact E
   ·exact A
  ·cases e
 ·cases e
end
mutual
def uC:ae->r9
 |.int a=>.int a
 |.ay d=>.bool d
 |.str f=>.str f
 |.tup I=>.tuple (tf I)
 |_=>.none
def tf:List ae->List r9
 |[]=>[]
 |s::u=>uC s::tf u
end
mutual
theorem Ri{c:a_}:∀{r:Nat}{s:ae}{J:ag},ae.bI r s=aa->eg c s J->Reads c J (uC s) []
 |_,.a6,J,_,e=>by cases (show J=.none from e);exact .none
 |_,.ay d,J,_,e=>by cases (show J=.bool d from e);exact .bool d
 |_,.int a,J,_,e=>by let⟨@B,rfl⟩:=e;exact .int a B
 |_,.str f,J,_,e=>by let⟨@B,rfl⟩:=e;exact .str f B
 |r+1,.tup I,J,n,e=>by
  let⟨g,o,Wr,@k,rfl,A,E,b,h⟩:=e;exact .tuple A E b (DM (r:=r) n h)
 |0,.tup I,J,n,e=>by cases n
 |r,.fn g,J,n,e=>by cases r<;>cases n
 |r,.aW g,J,n,e=>by cases r<;>cases n
 |r,.fd,J,n,e=>by cases r<;>cases n
theorem DM{c:a_}:∀{r:Nat}{I:List ae}{Wy:List ag},ae.de r I=aa->el c I Wy->ReadsAll c Wy (tf I) []
 |_,[],Wy,_,e=>by rw[show Wy=[] from e];exact .nil
 |r,s::I,Wy,n,e=>by
  let⟨v,@u,rfl,A,E⟩:=e;rw[ae.de,cy]at n;exact .cons (Ri n.1 A) (DM n.2 E)
end
mutual
theorem Pa:∀s:ae,r9.hasDict (uC s)=aw
 |.a6=>rfl
 |.ay _=>rfl
 |.int _=>rfl
 |.str _=>rfl
 |.fn _=>rfl
 |.aW _=>rfl
 |.fd=>rfl
 |.tup I=>FZ I
theorem FZ:∀I:List ae,r9.hasDictAll (tf I)=aw
 |[]=>rfl
 |s::u=>by
  show (r9.hasDict (uC s) || PyData.hasDictAll (tf u))=aw;rw[Pa s,FZ u];rfl
end
section
variable{Wf:bS}{l:bA}{P:bH}{Wa:ag->au->Prop}{j:au}
theorem JS{it B:aj}{Wr:Array ag}(d:B≠it):∀(r a:Nat) (j:au) (G:List ag->au->Prop),j.heap.IsListIter it B a->j.heap.IsList B Wr->a+r<=Wr.size->
  (∀U,U.IsListIter it B (a+r)->a_.SameBut it j.heap U->G ((Wr.toList.drop a).take r) {j with heap:=U})->wpAny (aV Wf l) P (draw (.ref it) r) G Wa j
 |0,a,j,G,b,_,_,c=>by
  show wpAny _ _ (pure []) G Wa j;exact aU ⇑(c j.heap b (a_.SameBut.refl ..))
 |r+1,a,j,G,b,br,n,c=>by
  have e:a<Wr.size:=⋯
  show wpAny _ _ (h1 (.ref it) >>= _) G Wa j;refine aA (Hc b br (x:=Wr[a]) (by simp[e]) λo h g=>?_);refine aA (fK (JS d r (a+1) _ _ h (br.extBut g.extBut d) ⋯ λi k m=>aU ?_));have hd:Wr.toList.drop a=Wr[a]::Wr.toList.drop (a+1):=by simp[kr,e]
  have:=c i (by rw[show a+(r+1)=a+1+r by lia];exact k) (g.trans m);rw[hd,xX]at this;exact this
def Md{G:List ag->au->Prop}(f:P.handled=Y)(br:j.heap.IsList B Wr)(g:∀U,a_.ExtBut j.heap.objs.size j.heap U->G Wr.toList {j with heap:=U}):wpAny (aV Wf l) P (unpackItems (.ref B) Wr.size Y) G Wa j:=by
 have a:B≠j.heap.objs.size:=by let⟨@o,h,W⟩:=br;exact dP (cu h)
 unfold unpackItems;refine aA ?_
 ·unfold notIterableAtAll;refine aA (od br.typeIs F.slot_list_iter.lookup ?_);refine aU ?_;simp only[hJ,gf];refine aA (fK<|tr br ?_);refine aA (fK (JS a Wr.size 0 _ _ ⟨_,d4 _ rfl,rfl,rfl⟩ (br.push _) ⋯ λi k b=>?_));have m:List.take Wr.size (List.drop 0 Wr.toList)=Wr.toList:=by
   rw[l_];exact sP ↥0
  rw[m];rw[aP ↥0];have n:i.IsList B Wr:=(br.push _).extBut b.extBut a;refine aA (fK (CJ f k n ↥0 λp q=>?_));simp only[Option.isSome_none,hJ,gf];refine aU (g p λd o c e=>q d o c<|b.extBut d o c<|cv _ e)
def LQ{Wc:fE}{a:List bF}{b}{G:Unit->au->Prop}(d:P.handled=Y)(br:j.heap.IsList B Wr)(e:(f3 a Wc).length=Wr.size)(f:(f3 a Wc).findIdx? (·.1)=Y)(c:∀U,a_.ExtBut j.heap.objs.size j.heap U->wpAny (aV Wf l) P (DI ((f3 a Wc).map (·.2)) Wr.toList) G Wa {j with heap:=U}):
  wpAny (aV Wf l) P (jA (.Tuple a b Wq) Wc<|.ref B) G Wa j:=by
 rw[assign_Tuple];refine aA (uK ?_);unfold unpack;rw[e,f];exact aA (fK<|Md d br c)
end
section
variable{b:aR}
def UJ(V8:Φ)(r:Nat)(B:kn):hl:=(λv D m G=>∃g w,v=.ref g/\dC V8 m g w/\w.length=r/\B w D m G)
variable{n:Nat}
def PT{B:kn}(h:b.calm=aa)(c:pn b V_ B)(i:(f3 V_ b.env).length=r:=by rfl)(k:(f3 V_ b.env).findIdx? (·.1)=Y:=by rfl):ks b (.Tuple V_ n Wq) (UJ b.K r B):=by
 intro R j D m v J G H u a;let⟨g,@w,l,p,q,a⟩:=a;subst l;cases u;let⟨@Wl,f,br,x⟩:=H.list p;refine LQ (H.ok.hd h) br.isList (by simp[i,<-q,f.length]) k λU s=>?_;have t:aK b R D m {j with heap:=U}:=H.kept (WJ:=j.toks) λd o e=>s d o (dP<|cu e) e;exact c R _ D m w _ G t ⇑f a
@[simp] def vS(r:Nat)(c:List ai->bc->Option bc):gu:=λs y=>match s with
 |.lst is=>if is.length=r then c (is.map .im) y else Y
 |_=>Y
def J5{WK:List Nat}{c:List ai->bc->Option bc}(i:b.calm=aa)(Wd:tg b WK V_ c)(k:(f3 V_ b.env).length=r:=by rfl)(l:(f3 V_ b.env).findIdx? (·.1)=Y:=by rfl):ix b WK (.Tuple V_ n Wq) (vS r c):=by
 refine xo (PT i Wd k l) λv D m G q=>?_;let⟨y,N,s,Wb,@Wv,O,WG,ao,a,p⟩:=q;unfold vS at a;split at a
 ·rename_i is;split at a
  ·rename_i t;let⟨g,@w,rfl,A,E,rfl⟩:=WG;have u:=dD.mp ao;refine⟨g,w,rfl,dC.of A,by rw[<-E.length];exact t,y,N,_,[],Wv,O,A3 E,by rw[cO];exact u.1,a,λx V6 WS W8 z j=>p x V6 WS W8 z ?_⟩;rw[cO]at j;exact⟨λd o e f=>j.keep d o e λh=>f<|ed _ h,λd f=>(j.sub d f).imp (λh=>ed _ h) id,j.ao,j.tup,j.grow⟩
  ·cases a
 ·cases a
end
end L2
namespace G
open L2
variable{WQ W5 W6 I R WU WW WC P WI:Option ai}{l k:Int}{h d g:Int×Int}{n:List ae}{Wm:List (List ae×ae)}{Wg:List (Int×Int)}{c:ai}{r:Nat}
def pM:bJ:=((bV 2<|aB hP (af<|aB b8 (af<|aB b8 (af<|aB jL (ab 2)<|af<|aD<|.int 69621)<|af<|aB hP (ab 3)<|af<|aD<|.int 2147483587)<|af<|aD<|.int 13)<|af<|aD<|.int 2305843009213693951))
def GU:bJ:=((bj (bV 2<|aB b8 (af<|aD<|.int 7)<|af<|aB jL (af<|aD<|.int 7919)<|ab 1)<|bj (gh (b2<|af<|cZ (ab 0) di<|c6<|aD<|.int 63) (a0 3) G.pM)<|bj (bV 3<|yK (aY<|aB qY (af<|bo cF<|ah (ab 0) ax)<|af<|aD<|.int 0) (aB bD (ab 0)<|af<|aB hP (ab 1)<|af<|bo cF<|ah (ab 0) ax)<|aD<|.int 0)<|bj (bV 4<|aB jL (af<|aB jL (af<|aB tS (af<|aD<|.int 10)<|af<|aD<|.int 60)<|af<|aB tS (af<|aD<|.int 10)<|af<|aD<|.int 60)<|af<|aB tS (af<|aD<|.int 10)<|af<|aD<|.int 60)<|cA<|eG<|ah (af<|aB jL (af<|aB hP (ab 3)<|ab 4)<|af<|bo vInt<|ah (af<|aB CI (ab 3)<|af<|aB tS (af<|aD<|.int 10)<|af<|aD<|.int 18) ax)<|ah (ab 2)<|ah (af<|aD<|.int 0) ax))
def o6:dd:=(dp 2 5 [0,1] GU)
def zh:bJ:=((bj (dJ (aY<|aB qY (af<|aB bD (ab 0)<|af<|aD<|.int 0)<|af<|aD<|.int 0) (bj (bV 2<|aB hP (af<|aB bD (ab 0)<|af<|aD<|.int 0)<|ab 1)<|bj (ih (aB nG (af<|aB bD (ab 0)<|af<|aD<|.int 0)<|ab 1)<|kc 0 (aD<|.int 0) pP)<|cA<|d2 2) ep)<|bj (ih (aB b8 (af<|aB bD (ab 0)<|af<|aD<|.int 2)<|af<|aD<|.int 1)<|kc 0 (aD<|.int 2) pP)<|bj (bV 3<|aB hP (af<|aB jL (af<|aB b8 (af<|aB bD (ab 0)<|af<|aD<|.int 1)<|af<|aB jL (af<|aB bD (ab 0)<|af<|aD<|.int 2)<|af<|aD<|.int 104729)<|af<|aD<|.int 48271)<|af<|aD<|.int 2305843009213693951)<|bj (ih (aB hP (af<|aB jL (ab 3)<|af<|aB b8 (af<|aB hP (ab 3)<|af<|aD<|.int 1009)<|af<|aD<|.int 69621)<|af<|aD<|.int 2305843009213693951)<|kc 0 (aD<|.int 1) pP)<|cA<|aB hP (af<|aB nG (af<|aB bD (ab 0)<|af<|aD<|.int 1)<|af<|aD<|.int 1000003)<|ab 1))
def fP:dd:=(dp 2 4 [0,1] zh)
def Hj:bJ:=((cA<|eG<|ah (af<|cQ<|ah (af<|aB sL (af<|aB bD (ab 0)<|af<|aD<|.int 0)<|af<|aD<|.int 1)<|ah (af<|aB bD (ab 0)<|af<|aD<|.int 1) ax)<|ah (af<|cQ<|ah (af<|aB bD (ab 0)<|af<|aD<|.int 0)<|ah (af<|aB sL (af<|aB bD (ab 0)<|af<|aD<|.int 1)<|af<|aD<|.int 1) ax)<|ah (af<|cQ<|ah (af<|aB bD (ab 0)<|af<|aD<|.int 0)<|ah (af<|aB b8 (af<|aB bD (ab 0)<|af<|aD<|.int 1)<|af<|aD<|.int 1) ax)<|ah (af<|cQ<|ah (af<|aB b8 (af<|aB bD (ab 0)<|af<|aD<|.int 0)<|af<|aD<|.int 1)<|ah (af<|aB bD (ab 0)<|af<|aD<|.int 1) ax) ax))
def kj:dd:=(dp 1 1 [0] Hj)
def uH:aF ai:=((cQ<|ah (ab 0)<|ah (af<|aD<|.ay aa) ax))
def ph:bJ:=((dJ (ec (aY<|aB eX (ab 5)<|ab 2)<|aY<|aB eH (ab 5)<|ab 3) (bj (ih (aD<|.ay aa)<|kc 3 (d2 5) hZ)<|jd<|g8 hV 4 km<|ah (ab 5) ax) ep))
def yI:aF Bool:=((aY<|aB gd (ab 4)<|af<|eG ax))
def AX:bJ:=((gh (b2<|af<|a7 1 G.kj<|ah (af<|g8 hV 4 tY ax) ax) (a0 5) G.ph))
def Fh:bJ:=((bj (bV 2<|bo js<|ah (af<|b4 1 [] (b2<|ab 0) (a0 0) cB G.uH) ax)<|bj (bV 3<|wz (d2 1)<|aD<|.ay aa)<|bj (bV 4<|eG<|ah (ab 1) ax)<|bj (jn G.yI G.AX 1000000)<|cA<|bo h9<|ah (af<|bo ib<|ah (ab 3) ax) ax))
def t6:dd:=(dp 2 6 [0,1] Fh)
def vf:bJ:=((bj (bV 4<|aB bD (af<|a7 1 G.kj<|ah (af<|aB bD (ab 2)<|af<|a7 2 G.fP<|ah (ab 0)<|ah (af<|bo cF<|ah (ab 2) ax) ax) ax)<|af<|a7 2 G.fP<|ah (ab 0)<|ah (af<|aD<|.int 4) ax)<|dJ (ec (aY<|aB eH (ab 4)<|ab 2)<|ec (aY<|i3 gQ gQ (af<|aD<|.int 0) (af<|aB bD (ab 4)<|af<|aD<|.int 0)<|af<|aD<|.int 24)<|aY<|i3 gQ gQ (af<|aD<|.int 0) (af<|aB bD (ab 4)<|af<|aD<|.int 1)<|af<|aD<|.int 24) (jd<|g8 hV 2 km<|ah (ab 4) ax) ep))
def Ih:bJ:=((bj (bV 2<|eG<|ah (af<|cQ<|ah (af<|aD<|.int 12)<|ah (af<|aD<|.int 12) ax) ax)<|bj (gh (ip<|ah (af<|a7 2 G.fP<|ah (ab 0)<|ah (ab 1) ax) ax) (a0 3) G.vf)<|cA<|d2 2))
def qt:dd:=(dp 2 5 [0,1] Ih)
def zm:aF ai:=((cQ<|ah (af<|aB nG (ab 0)<|ab 1)<|ah (af<|aB hP (ab 0)<|ab 1) ax))
def qN:bJ:=((jd<|g8 hV 5 sa<|ah (af<|a7 2 G.fP<|ah (ab 0)<|ah (af<|bo cF<|ah (ab 5) ax) ax) ax))
def x1:aF ai:=((d2 0))
def vo:aF Bool:=((aY<|aB dZ (af<|aB jL (af<|aB hP (af<|aB bD (ab 0)<|af<|aD<|.int 0)<|af<|aD<|.int 2)<|af<|aB hP (af<|aB hP (af<|aB bD (ab 0)<|af<|aD<|.int 1)<|af<|aD<|.int 3)<|af<|aD<|.int 2)<|af<|aD<|.int 0))
def oT:aF ai:=((aB bD (af<|eG<|ah (af<|aD<|.int 0)<|ah (af<|aD<|.int 0)<|ah (af<|aD<|.int 6)<|ah (af<|aD<|.int 3) ax)<|af<|a7 2 G.fP<|ah (ab 1)<|ah (af<|aD<|.int 4) ax))
def vl:aF ai:=((cQ<|ah (af<|aB b8 (af<|aB bD (ab 0)<|af<|aD<|.int 0)<|ab 1)<|ah (af<|aB b8 (af<|aB bD (ab 0)<|af<|aD<|.int 1)<|ab 2) ax))
def FJ:bJ:=((bj (bV 2<|a7 2 G.fP<|ah (ab 0)<|ah (af<|aD<|.int 6) ax)<|bj (bV 3<|aB b8 (af<|aD<|.int 1)<|af<|a7 2 G.fP<|ah (ab 0)<|ah (af<|aD<|.int 7) ax)<|bj (bV 4<|aB b8 (af<|aD<|.int 1)<|af<|a7 2 G.fP<|ah (ab 0)<|ah (af<|bo ts<|ah (af<|aD<|.int 1)<|ah (af<|bo td<|ah (af<|aD<|.int 7)<|ah (af<|aB nG (ab 1)<|ab 3) ax) ax) ax)<|bj (bV 5<|b4 1 [3] (ip<|ah (af<|aB jL (ab 4)<|ab 3) ax) (a0 0) cB G.zm)<|bj (dJ (eT (aY<|aB dZ (ab 2)<|af<|aD<|.int 1)<|aY<|aB dZ (ab 2)<|af<|aD<|.int 2) (gh (ip<|ah (af<|a7 2 G.fP<|ah (ab 0)<|ah (af<|aB b8 (af<|aD<|.int 1)<|af<|aB nG (af<|bo cF<|ah (ab 5) ax)<|af<|aD<|.int 2) ax) ax) (a0 6) G.qN)<|dJ (aY<|aB dZ (ab 2)<|af<|aD<|.int 3) (bV 5<|b4 1 [] (b2<|ab 5) (a0 0) G.vo G.x1)<|dJ (aY<|aB qY (ab 2)<|af<|aD<|.int 3) (bV 5<|a7 2 G.qt<|ah (ab 0)<|ah (ab 1) ax) ep)<|bj (bV 7<|a7 2 G.t6<|ah (ab 5)<|ah (af<|aB bD (ab 5)<|af<|a7 2 G.fP<|ah (ab 0)<|ah (af<|bo cF<|ah (ab 5) ax) ax) ax)<|bj (ih (b4 1 [0] (ip<|ah (af<|aD<|.int 2) ax) (a0 0) cB G.oT)<|vS 2<|eu (a0 8)<|eu (a0 9) hM)<|cA<|bo h9<|ah (af<|b4 1 [8,9] (b2<|ab 7) (a0 0) cB G.vl) ax))
def pD:dd:=(dp 2 10 [0,1] FJ)
def X(q:Int×Int):ae:=(.tup [.int q.1,.int q.2])
abbrev av(Wk:List (Int×Int)):ai:=.im (.tup<|Wk.map X)
abbrev aS(Wk:List (Int×Int)):ai:=.lst (Wk.map X)
abbrev pB(s j B:Int):ai:=.lst [.int s,.int j,.int B]
def ew(r:Nat)(c:ai):Prop:=(∃s j B,c=pB s j B/\0<=s/\0<=j/\j<2^62/\0<=B/\B+r<2^40)
def ew.mono{k:Nat}(f:ew r c)(e:k<=r):ew k c:=by
 let⟨s,j,@B,rfl,A,E,a,b,d⟩:=f;exact⟨s,j,B,rfl,A,E,a,b,⋯⟩
def ew.lst(f:ew r c):∃p,c=.lst p:=by
 let⟨s,j,@B,rfl,W⟩:=f;exact⟨_,rfl⟩
def ik(f:ew (r+1) c)(b:0<k)(g:k<1073741824):∃v U,fP [c,aC k]=Z (aC v,[U,aC k])/\0<=v/\v<k/\ew r U:=by
 let⟨s,j,@B,rfl,A,E,h,i,y⟩:=f;have z:∀s:Int,dv [ae.int s,.int j,.int B] 0=Z (.int s):=λs=>rfl;have C:¬ k=0:=⋯
 by_cases hd:0<s
 ·refine⟨s%k,pB (s/k) j B,?_,l5 _ ⋯,nc _ b,s/k,j,B,rfl,Fg A ⋯,E,h,i,⋯⟩;have d:dv [ae.int s,.int j,.int B] 0=Z (.int s):=rfl;simp -implicitDefEqProofs [fP,zh,hd,b,g,d,kK]
 ·obtain⟨a,l⟩:∃a:Int,a=(j+(B+1)*104729)*48271%2305843009213693951:=⟨_,rfl⟩;obtain⟨V9,e⟩:∃V9:Int,V9=a*(a%1009+69621)%2305843009213693951:=⟨_,rfl⟩;have m:0<=V9:=by rw[e];exact l5 _ ∅
  have n:V9<2^62:=by
   rw[e];have:=nc (a*(a%1009+69621)) (show (0:Int)<2305843009213693951 by decide);lia
  have o:iB (B+1) 104729=aa:=o3 ∅ ∅;have p:iB (j+(B+1)*104729) 48271=aa:=o3 ∅ ∅;have q:iB a (a%1009+69621)=aa:=by
   have D:=l5 a (show (1009:Int)≠0 by decide);have F:=nc a (show (0:Int)<1009 by decide);exact o3 ⋯ ⋯
  refine⟨V9/1000003%k,pB s V9<|B+1,?_,l5 _ ⋯,nc _ b,s,V9,B+1,rfl,A,m,n,⋯,⋯⟩;have d:dv [ae.int s,.int j,.int B] 0=Z (.int s):=rfl;have t:dv [ae.int s,.int j,.int B] 2=Z (.int B):=rfl;have u:dv [ae.int s,.int j,.int<|B+1] 1=Z (.int j):=rfl;have w:dv [ae.int s,.int j,.int<|B+1] 2=Z (.int<|B+1):=rfl;have x:dv [ae.int s,.int V9,.int<|B+1] 1=Z (.int V9):=rfl;simp -implicitDefEqProofs [fP,zh,hd,b,g,d,t,u,w,x,kK,o,p,q,<-l,<-e]
theorem De:∀(w:List Int) (P WC WQ WI:Option ai) (j:Int),0<=j->j<2^62->∃b V9,0<=V9/\V9<2^62/\d5 (a0 3) pM (w.map .int) [P,WC,Z<|aC j,WQ,WI]=Z (.bf,[P,WC,Z<|aC V9,b,WI])
 |[],P,WC,WQ,WI,j,d,A=>⟨WQ,j,d,A,rfl⟩
 |f::w,P,WC,WQ,WI,j,d,A=>by
  obtain⟨a,c⟩:∃a:Int,a=(j*69621+f%2147483587+13)%2305843009213693951:=⟨_,rfl⟩;have e:0<=a:=by rw[c];exact l5 _ ∅
  have g:a<2^62:=by
   rw[c];have:=nc (j*69621+f%2147483587+13) (show (0:Int)<2305843009213693951 by decide);lia
  let⟨b,@V9,h,i,k⟩:=De w P WC (Z<|aC f) WI a e g;refine⟨b,V9,h,i,?_⟩;have l:iB j 69621=aa:=o3 ∅ ∅;rw[cS,d5];dsimp only;rw[show a0 3 (.im<|.int f) [P,WC,Z<|aC j,WQ,WI]=Z [P,WC,Z<|aC j,Z<|aC f,WI] from rfl];show (pM _).bind _=_;rw[show pM [P,WC,Z<|aC j,Z<|aC f,WI]=Z (.bf,[P,WC,Z<|aC a,Z<|aC f,WI]) by simp -implicitDefEqProofs [pM,l,<-c]];exact k
def Kf{Wu:List Int}{n:Int}(B:0<=n)(C:n<1000):∃c,o6 [.c_ (Wu.map .int),aC n]=Z (c,[.c_ (Wu.map .int),aC n])/\ew 1000000 c:=by
 obtain⟨w,g⟩:∃w,bO (Wu.map ae.int) Y (Z 63)=w.map .int:=⟨bO Wu Y<|Z 63,pb _ _ _ _⟩;let⟨WQ,@j,T,k,l⟩:=De w (Z<|.c_<|Wu.map .int) (Z<|aC n) Y Y (7+7919*n) ⋯ ⋯;have m:iB 7919 n=aa:=NX ∅ ∅;have p:iB (10^60) (10^60)=aa:=by decide +kernel
 have W4:iB (10^60*10^60) (10^60)=aa:=by decide +kernel
 have q:∀f h:Int,iB f (if 10^18<=h then 1 else 0)=aa:=λf h=>o3 (by split<;>decide) (by split<;>decide);have d:(10:Nat)<2^64:=by decide
 have r:(0:Int)<10^60*10^60*10^60:=by decide
 have Q:∀h:Int,ew 1000000 (pB (h%(10^60*10^60*10^60)*(if 10^18<=h then 1 else 0)) j 0):=λh=>by
  have A:=l5 h (show (10^60*10^60*10^60:Int)≠0 by decide);refine⟨_,_,_,rfl,?_,T,k,jR 0,by decide⟩;split
  ·rw[HC];exact A
  ·rw[Int.mul_zero];exact jR 0
 have s:bV 2 (aB b8 (af<|aD<|.int 7)<|af<|aB jL (af<|aD<|.int 7919)<|ab 1) [Z (.c_<|Wu.map .int),Z<|aC n,Y,Y,Y]=Z (.bf,[Z (.c_<|Wu.map .int),Z<|aC n,Z<|aC<|7+7919*n,Y,Y]):=by
  simp -implicitDefEqProofs [m]
 have t:gh (b2<|af<|cZ (ab 0) di<|c6<|aD<|.int 63) (a0 3) G.pM [Z (.c_<|Wu.map .int),Z<|aC n,Z<|aC<|7+7919*n,Y,Y]=Z (.bf,[Z (.c_<|Wu.map .int),Z<|aC n,Z<|aC j,WQ,Y]):=
  (vV (o:=Y) (w:=w.map .int) (We:=[Z (.c_<|Wu.map .int),Z<|aC n,Z<|aC<|7+7919*n,Y,Y]) (by simp -implicitDefEqProofs [g]) l).trans rfl;have dx:∀h:Int,bV 3 (yK (aY<|aB qY (af<|bo cF<|ah (ab 0) ax)<|af<|aD<|.int 0) (aB bD (ab 0)<|af<|aB hP (ab 1)<|af<|bo cF<|ah (ab 0) ax)<|aD<|.int 0) [Z (.c_<|Wu.map .int),Z<|aC n,Z<|aC j,WQ,Y]=Z (.bf,[Z (.c_<|Wu.map .int),Z<|aC n,Z<|aC j,Z<|aC h,Y])->
   ∃c,o6 [.c_ (Wu.map .int),aC n]=Z (c,[.c_ (Wu.map .int),aC n])/\ew 1000000 c:=λh a=>by
  refine⟨_,?_,Q h⟩;unfold o6 GU;refine wa [Z (.c_<|Wu.map .int),Z<|aC n,Z<|aC j,Z<|aC h,Z<|aC<|10^60*10^60*10^60] rfl ((iq s).trans<|(iq t).trans<|(iq a).trans<|(iq (We:=[Z (.c_<|Wu.map .int),Z<|aC n,Z<|aC j,Z<|aC h,Z<|aC<|10^60*10^60*10^60]) ?_).trans ?_) rfl
  ·simp -implicitDefEqProofs [p,W4,d,-Int.reducePow,-Nat.reducePow]
  ·simp -implicitDefEqProofs [q,d,r,-Int.reducePow,-Nat.reducePow]
 by_cases u:0<(Wu.length:Int)
 ·obtain⟨i,b⟩:∃i:Int,i=n%(Wu.length:Int):=⟨_,rfl⟩;have v:0<=i:=by rw[b];exact l5 _ ⋯
  have D:i<Wu.length:=by rw[b];exact nc _ u
  obtain⟨h,a⟩:∃h,Wu[i.toNat]?=Z h:=⟨Wu[i.toNat]'⋯,by simp⟩;have x:dv (Wu.map ae.int) i=Z (.int h):=lr v (by rw[fp,a];rfl);refine dx h ?_;have y:0<Wu.length:=⋯
  simp -implicitDefEqProofs [y,<-b,x]
 ·refine dx 0 ?_;have e:Wu=[]:=List.length_eq_zero_iff.mp ⋯;subst e;simp -implicitDefEqProofs
def c7(q:Int×Int):List (Int×Int):=([(q.1-1,q.2),(q.1,q.2-1),(q.1,q.2+1),(q.1+1,q.2)])
def tQ(q:Int×Int):kj [.im (X q)]=Z (aS<|c7 q,[.im (X q)]):=by
 have a:dv [ae.int q.1,.int q.2] 0=Z (.int q.1):=rfl;have b:dv [ae.int q.1,.int q.2] 1=Z (.int q.2):=rfl;simp -implicitDefEqProofs [kj,Hj,X,c7,a,b]
def cX(q:Int×Int):List ae:=([.int q.1,.int q.2])
def p1(q:Int×Int):X q=.tup (cX q):=rfl
def oF(c:cX g=cX d):g=d:=by
 unfold cX at c;simp at c;exact E0 c.1 c.2
def H7(c:X g=X d):g=d:=by
 rw[p1,p1]at c;exact oF (by injection c)
def nY(q:Int×Int):ae.keys 7 (cX q)=aa:=rfl
def mQ:ae->Int×Int
 |.tup [.int g,.int d]=>(g,d)
 |_=>(0,0)
def u4(q:Int×Int):mQ (X q)=q:=rfl
def mI(q:Int×Int):ae.bI 8 (X q)=aa:=rfl
theorem nX:∀Wk:List (Int×Int),ae.de 8 (Wk.map X)=aa
 |[]=>rfl
 |q::u=>by rw[cS,ae.de,mI,nX u];rfl
def tO(g d:Int×Int):cT (X g) (X d)=decide (g=d):=by
 show ((g.1==d.1)&&((g.2==d.2)&&aa))=_;let⟨a,b⟩:=g;let⟨dY,dH⟩:=d;by_cases A:a=dY<;>by_cases E:b=dH<;>simp[A,E]
def xD(Wk:List (Int×Int))(h:Int×Int):((Wk.map X).any λf=>cT f<|X h)=decide (h∈Wk):=by
 rw[zp,k6,pR,fF];constructor
 ·rintro⟨f,a,e⟩;have:decide (f=h)=aa:=by rw[<-tO];exact e
  rw[<-hh this];exact a
 ·intro c;refine⟨h,c,?_⟩;show cT (X h) (X h)=aa;rw[tO];exact c1 rfl
theorem E9:∀(t:List ae) (Wg:List (Int×Int)),(∀f∈t,f∈Wg.map X)->t=(t.map mQ).map X
 |[],_,_=>rfl
 |f::t,Wg,c=>by
  let⟨@q,W,e⟩:=cn.mp (c f<|.head _);rw[cS,cS,<-E9 t Wg λC a=>c C<|.tail _ a,<-e,u4]
def BD{t:List ae}(c:t.Perm (Wg.map X)):∃a:List (Int×Int),a.Perm Wg/\t=a.map X:=by
 refine⟨t.map mQ,?_,E9 t Wg λf b=>c.mem_iff.mp b⟩;have:=yF mQ c;rw[fc]at this;have e:(mQ ∘ X:Int×Int->Int×Int)=id:=funext u4;rw[e,mG]at this;exact this
def w4(ao:Wg.Nodup)(a:Wg.length<=1000):oW (Wg.map X):=by
 refine⟨⟨by rw[aZ];exact a,λg b d c=>?_,?_⟩,.inl λs hd=>?_⟩
 ·let⟨@f,W,rfl⟩:=cn.mp b;let⟨@C,W,rfl⟩:=cn.mp c;rfl
 ·exact Ph X (λg d r e=>r<|H7 e) ao
 ·let⟨@f,W,rfl⟩:=cn.mp hd;rfl
def tp:(eC Wm n).isSome=Wm.any λq=>decide (q.1=n):=by
 unfold eC;rw[wk,List.isSome_find?]
def Ky{a:List ae}{s:ae}:((fs Wm n s).any λq=>decide (q.1=a))=((Wm.any λq=>decide (q.1=a)) || decide (n=a)):=by
 unfold fs;split
 ·rename_i c;have e:((Wm.map λb=>if b.1=n then (b.1,s) else b).any λq=>decide (q.1=a))=Wm.any λq=>decide (q.1=a):=by
   rw[zp];congr 1;funext q;show decide ((if q.1=n then (q.1,s) else q).1=a)=_;split<;>rfl
  rw[e];by_cases d:n=a
  ·subst d;rw[c];rfl
  ·rw[cW d,Bool.or_false]
 ·rw[List.any_append];simp
theorem DB:∀(Wk a:List (List ae×ae)) (n:List ae),((Wk.foldl (λg q=>fs g q.1 q.2) a).any λq=>decide (q.1=n))=((a.any λq=>decide (q.1=n)) || Wk.any λq=>decide (q.1=n))
 |[],a,n=>by simp
 |q::Wk,a,n=>by
  rw[h4,DB Wk _ n,Ky,nZ,Bool.or_assoc]
def a4(Wg:List (Int×Int)):List (List ae×ae):=(Wg.map λh=>(cX h,.ay aa))
def wZ(Wg:List (Int×Int))(h:Int×Int):((a4 Wg).any λq=>decide (q.1=cX h))=decide (h∈Wg):=by
 unfold a4;rw[zp,k6,pR,fF];constructor
 ·rintro⟨f,a,e⟩;have:cX f=cX h:=hh e;rw[<-oF this];exact a
 ·intro c;exact⟨h,c,c1 rfl⟩
def Vz(aq:List (Int×Int))(h:Int×Int):(eC (hE<|a4 aq)<|cX h).isSome=decide (h∈aq):=by
 rw[tp];unfold hE;rw[DB,wZ];rfl
def AG(Wg:List (Int×Int))(h:Int×Int):(eC (a4 Wg)<|cX h).isSome=decide (h∈Wg):=by rw[tp,wZ]
def EO(c:h∉Wg):fs (a4 Wg) (cX h) (.ay aa)=a4 (Wg++[h]):=by
 unfold fs;rw[aP (by rw[wZ];simpa using c)];unfold a4;rw[d9];rfl
def Gz(aq:List (Int×Int)):jV (aq.map λh=>.tup [X h,.ay aa])=Z (a4 aq):=by
 induction aq with
 |nil=>rfl
 |cons h u a=>
  rw[cS,p1,jV,a];rfl
def yR(Wg:List (Int×Int)):((a4 Wg).map λq=>ae.tup q.1)=Wg.map X:=by
 unfold a4;rw[fc];rfl
def BZ(Wg:List (Int×Int)):((a4 Wg).all λq=>ae.keys 7 q.1)=aa:=by
 unfold a4;rw[uT,e_];intro h W;rfl
def kd(aq Wg:List (Int×Int)):Nat:=(aq.countP λh=>decide (h∉Wg))
def JW{aq Wg:List (Int×Int)}(A:h∈aq)(E:h∉Wg):kd aq (Wg++[h])<kd aq Wg:=by
 unfold kd;refine A4 (λf b e=>?_) ⟨h,A,c1 E,cW λa=>a<|ej _<|.head _⟩;exact c1 λa=>hh e (ed _ a)
def zN{Ww:Type}{H:List Ww}(c:H≠[]):∃a l,H=a++[l]:=⟨H.dropLast,H.getLast c,(List.dropLast_concat_getLast c).symm⟩
def z8(q:Int×Int):dv [ae.int q.1,.int q.2] 0=Z (.int q.1):=rfl
def nq(q:Int×Int):dv [ae.int q.1,.int q.2] 1=Z (.int q.2):=rfl
def oO{aq:List (Int×Int)}{a:Int}(b:0<=a)(c:aq[a.toNat]?=Z h):dv (aq.map X) a=Z (X h):=lr b (by rw[fp,c];rfl)
def wj(Wk:List (Int×Int))(h:Int×Int):fe (X h) (aS Wk)=Z (decide (h∈Wk)):=by
 rw[JK,mI,nX,xD];rfl
def Hl(Wk:List (Int×Int))(h:Int×Int):fe (X h) (av Wk)=Z (decide (h∈Wk)):=by
 rw[Rd,mI,nX,xD];rfl
def jO(h:Int×Int):Prop:=(0<=h.1/\h.1<25/\0<=h.2/\h.2<25)
def Nv{aq:List (Int×Int)}{n:Option ai}(m:ew (r+2) c)(p:aq≠[])(T:aq.length<=500)(Wd:∀h∈aq,jO h):
  ∃U g v,vf [Z c,Z<|aC k,Z<|aS aq,n,WI]=Z (.bf,[Z U,Z<|aC k,Z<|aS g,n,v])/\ew r U/\g≠[]/\g.length<=aq.length+1/\∀h∈g,jO h:=by
 have al:=lp.mpr p;let⟨t,@A,w,x,am,Wh⟩:=ik (r:=r+1) (k:=(aq.length:Int)) m ⋯ ⋯;obtain⟨h,b⟩:∃h,aq[t.toNat]?=Z h:=⟨aq[t.toNat]'⋯,by simp⟩;let⟨j,@E,B,dY,dH,Ws⟩:=ik (r:=r) (k:=4) Wh ⋯ ⋯;obtain⟨o,D⟩:∃o,(c7 h)[j.toNat]?=Z o:=⟨(c7 h)[j.toNat]'(by show j.toNat<4;lia),by simp⟩;have F:=oO x b;have H:=oO dY D;have I:=tQ h;let⟨@J,rfl⟩:=m.lst;let⟨@an,rfl⟩:=Wh.lst;let⟨@f,rfl⟩:=Ws.lst;have l:bV 4 (aB bD (af<|a7 1 G.kj<|ah (af<|aB bD (ab 2)<|af<|a7 2 G.fP<|ah (ab 0)<|ah (af<|bo cF<|ah (ab 2) ax) ax) ax)<|af<|a7 2 G.fP<|ah (ab 0)<|ah (af<|aD<|.int 4) ax) [Z (.lst J),Z<|aC k,Z<|aS aq,n,WI]=Z (.bf,[Z (.lst f),Z<|aC k,Z<|aS aq,n,Z<|.im<|X o]):=by
  simp -implicitDefEqProofs [w,F,I,B,H]
 have L:=wj aq o;have M:=z8 o;have N:=nq o;obtain⟨y,e⟩:∃y:bc,y=[Z (.lst f),Z<|aC k,Z<|aS aq,n,Z<|.im<|X o]:=⟨_,rfl⟩;rw[<-e]at l;have O:aY (aB eH (ab 4)<|ab 2) y=Z (!decide (o∈aq),y):=by
  rw[e];show (((fe (X o)<|aS aq).map λu=>ai.im<|.ay<|!u).map λs=>(s,[Z (.lst f),Z<|aC k,Z<|aS aq,n,Z<|.im<|X o])).bind (λq=>(pd q.1).map λd=>(d,q.2))=_;rw[L];rfl
 have P:aY (i3 gQ gQ (af<|aD<|.int 0) (af<|aB bD (ab 4)<|af<|aD<|.int 0)<|af<|aD<|.int 24) y=Z (decide (0<=o.1)&&decide (o.1<=24),y):=by
  rw[e];by_cases a:0<=o.1<;>simp -implicitDefEqProofs [X,M,a]
 have Q:aY (i3 gQ gQ (af<|aD<|.int 0) (af<|aB bD (ab 4)<|af<|aD<|.int 1)<|af<|aD<|.int 24) y=Z (decide (0<=o.2)&&decide (o.2<=24),y):=by
  rw[e];by_cases a:0<=o.2<;>simp -implicitDefEqProofs [X,N,a]
 have fin:∀d:Bool,d=(!decide (o∈aq)&&((decide (0<=o.1)&&decide (o.1<=24))&&(decide (0<=o.2)&&decide (o.2<=24))))->
   ec (aY<|aB eH (ab 4)<|ab 2) (ec (aY<|i3 gQ gQ (af<|aD<|.int 0) (af<|aB bD (ab 4)<|af<|aD<|.int 0)<|af<|aD<|.int 24)<|aY<|i3 gQ gQ (af<|aD<|.int 0) (af<|aB bD (ab 4)<|af<|aD<|.int 1)<|af<|aD<|.int 24) y=Z (d,y):=by
  intro d R;rw[R];simp -implicitDefEqProofs only[ec,O,P,Q,rP];generalize (decide (0<=o.1)&&decide (o.1<=24))=C;generalize (decide (0<=o.2)&&decide (o.2<=24))=a;cases decide (o∈aq)<;>cases C<;>rfl
 unfold vf;by_cases i:o∉aq/\0<=o.1/\o.1<=24/\0<=o.2/\o.2<=24
 ·have br:=fin aa (by simp[i]);refine⟨.lst f,aq++[o],Z<|.im<|X o,(iq l).trans<|(I1 br).trans ?_,Ws,by simp,by simp,λh b=>?_⟩
  ·have bz:aq.length<100000:=⋯
   rw[e];simp -implicitDefEqProofs [hV,bz]
  ·rcases dw.mp b with b|b
   ·exact Wd h b
   ·rw[cM.mp b];exact⟨i.2.1,⋯,i.2.2.2.1,⋯⟩
 ·have S:=fin aw (by
   cases a:(!decide (o∈aq)&&((decide (0<=o.1)&&decide (o.1<=24))&&(decide (0<=o.2)&&decide (o.2<=24)))) with
   |false=>rfl
   |true=>
    simp at a;exact absurd ⟨a.1,a.2.1.1,a.2.1.2,a.2.2.1,a.2.2.2⟩ i)
  exact⟨.lst f,aq,Z<|.im<|X o,(iq l).trans ((I3 S).trans (by rw[e];rfl)),Ws,p,⋯,Wd⟩
def Ou(a i:Int):ts [.im (.int a),.im<|.int i]=Z (.im<|.int<|if i>a then i else a):=rfl
def KG(a i:Int):td [.im (.int a),.im<|.int i]=Z (.im<|.int<|if i<a then i else a):=rfl
theorem Fc{Ww W_:Type}(x:Ww->W_):∀(t:List Ww) (n:Nat),(t.map x).eraseIdx n=(t.eraseIdx n).map x
 |[],_=>rfl
 |_::_,0=>rfl
 |g::t,n+1=>by simp[Fc x t n]
def mX(l:Int)(r:Nat):List (Int×Int):=((range r).map λ(n:Nat)=>((0+(n:Int))/l,(0+(n:Int))%l))
def JZ(l:Int)(r:Nat):(mX l r).length=r:=by rw[mX,aZ,hR]
def L8(a:0<l)(f:l<=7)(g:(r:Int)<=7*l):∀h∈mX l r,jO h:=by
 intro h b;let⟨n,c,rfl⟩:=cn.mp b;have:=fI.mp c;have d:0<=(0+(n:Int))/l:=Fg ⋯ ⋯;have i:(0+(n:Int))/l<7:=Int.ediv_lt_of_lt_mul a ⋯;have e:=l5 (0+(n:Int)) (show l≠0 by lia);have j:=nc (0+(n:Int)) a;exact⟨d,by show (0+(n:Int))/l<25;lia,e,by show (0+(n:Int))%l<25;lia⟩
def MB{a:Int}(c:0<l)(d:l<=7)(e:0<a)(f:a<=7):
  bV 5 (b4 1 [3] (ip<|ah (af<|aB jL (ab 4)<|ab 3) ax) (a0 0) cB G.zm) [P,WC,WW,Z<|aC l,Z<|aC a,WU,R,I,W6,W5]=Z (.bf,[P,WC,WW,Z<|aC l,Z<|aC a,Z<|aS<|mX l (a*l).toNat,R,I,W6,W5]):=by
 obtain⟨r,b⟩:∃r:Int,r=a*l:=⟨_,rfl⟩;have i:0<r:=by rw[b];exact B_ e c
 have j:r<=49:=by
  rw[b];have:=Iz f d ⋯ ⋯;lia
 have g:oi r:=⟨⋯,⋯⟩;have mk:iB a l=aa:=o3 ⋯ ⋯;rw[<-b];refine (BG (s:=aS (mX l r.toNat)) (We:=[P,WC,WW,Z<|aC l,Z<|aC a,WU,R,I,W6,W5]) ?_ (show 5<10 by decide)).trans rfl;refine (o8 (w:=hb 0 r.toNat) (o:=Y) (We:=[P,WC,WW,Z<|aC l,Z<|aC a,WU,R,I,W6,W5]) ?_ (fR _ (λ(n:Nat)=>X ((0+(n:Int))/l,(0+(n:Int))%l)) _ (λn k=>?_) (by rw[hR];lia))).trans ?_
 ·simp -implicitDefEqProofs [mk,<-b,g]
 ·have h:l<1073741824:=⋯
  exact⟨[Z (aC<|0+(n:Int)),Z<|aC l],_,[Z (aC<|0+(n:Int)),Z<|aC l],rfl,rfl,by simp -implicitDefEqProofs [zm,c,h,X],rfl⟩
 ·show Z (ai.lst _,_)=Z (ai.lst<|(mX l r.toNat).map X,_);unfold mX;rw[fc];rfl
def OM(v:Nat){c:ai}{aq:List (Int×Int)}{R:Option ai}(m:ew (r+200) c)(N:v<aq.length)(O:aq.length<=100)(Wd:∀h∈aq,jO h):
  ∃U e o,d5 (a0 6) qN (hb 0 v) [Z c,WC,WW,WQ,WI,Z<|aS aq,R,I,W6,W5]=Z (.bf,[Z U,WC,WW,WQ,WI,Z<|aS e,o,I,W6,W5])/\ew r U/\e≠[]/\e.length<=aq.length/\∀h∈e,jO h:=by
 let⟨@Wv,p,⟨E,b,@q,rfl,Ws,g,s⟩⟩:=vI (WL:=a0 6) (d:=qN) (w:=hb 0 v) (λa y=>∃c b R,y=[Z c,WC,WW,WQ,WI,Z<|aS b,R,I,W6,W5]/\ew (r+200-a) c/\b.length+a=aq.length/\∀h∈b,jO h) (y:=[Z c,WC,WW,WQ,WI,Z<|aS aq,R,I,W6,W5]) ⟨c,aq,R,rfl,m,rfl,Wd⟩
  (λa f y t u=>by
   let⟨c,b,@R,rfl,j,WY,x⟩:=u;have S:a<v:=by
    have:=(gk.mp t).1
    rwa [hb,aZ,hR]at this
   let⟨l,@A,z,B,C,Wh⟩:=ik (r:=r+200-(a+1)) (k:=(b.length:Int)) (j.mono ⋯) ⋯ ⋯;obtain⟨h,i⟩:∃h,b[l.toNat]?=Z h:=⟨b[l.toNat]'⋯,by simp⟩;let⟨@D,rfl⟩:=j.lst;let⟨@n,rfl⟩:=Wh.lst;refine⟨[Z (.lst D),WC,WW,WQ,WI,Z<|aS b,Z<|.im f,I,W6,W5],.bf,[Z (.lst n),WC,WW,WQ,WI,Z<|aS<|b.eraseIdx l.toNat,Z<|.im f,I,W6,W5],rfl,?_,.inl rfl,.lst n,b.eraseIdx l.toNat,_,rfl,Wh,?_,λh i=>x h<|List.mem_of_mem_eraseIdx i⟩
   ·have F:(b.map X)[l.toNat]?=Z (X h):=by rw[fp,i];rfl
    have G:(0<=l/\l<((b.map X).length:Int)):=⟨B,by rw[aZ];exact C⟩;have H:=Fc X b l.toNat;have J:sa (aS b) [aC l]=Z (.im<|X h,aS<|b.eraseIdx l.toNat):=by
     show (if 0<=l/\l<((b.map X).length:Int) then _ else Y)=_;rw[aJ G,F,H];rfl
    simp -implicitDefEqProofs [qN,hV,z,J,-sa]
   ·rw[List.length_eraseIdx,aJ ⋯];lia)
 have L:(hb 0 v).length=v:=by rw[hb,aZ,hR]
 rw[L]at Ws g;exact⟨E,b,q,p,Ws.mono ⋯,λM=>by rw[M]at g;simp at g;lia,⋯,s⟩
def ru(h:Int×Int):Bool:=(decide (h.1%2*(h.2%3%2)=0))
def Nr{aq:List (Int×Int)}(c:aq.length<=1000):
  bV 5 (b4 1 [] (b2<|ab 5) (a0 0) G.vo G.x1) [P,WC,WW,WQ,WI,Z<|aS aq,R,I,W6,W5]=Z (.bf,[P,WC,WW,WQ,WI,Z<|aS<|aq.filter ru,R,I,W6,W5]):=by
 refine (BG (s:=aS (aq.filter ru)) (We:=[P,WC,WW,WQ,WI,Z<|aS aq,R,I,W6,W5]) ?_ (show 5<10 by decide)).trans rfl;refine (o8 (w:=aq.map X) (o:=Z (5,aS aq)) (We:=[P,WC,WW,WQ,WI,Z .dS,R,I,W6,W5]) rfl (mm _ ru X _ _ (λh d=>?_) (by rw[gB];lia))).trans rfl;have a:=z8 h;have b:=nq h;have mk:iB (h.1%2) (h.2%3%2)=aa:=by
  have:=l5 (h.2%3) (show (2:Int)≠0 by decide);have:=nc (h.2%3) (show (0:Int)<2 by decide);exact o3 ⋯ ⋯
 refine⟨[Z (.im<|X h)],[Z (.im<|X h)],rfl,?_,λ_=>rfl,λ_=>⟨[Z (.im<|X h)],rfl,rfl⟩⟩;simp -implicitDefEqProofs [vo,X,a,b,mk,ru];rfl
def Sq(c:0<r):(0,0)∈mX l r:=by
 refine cn.mpr ⟨0,fI.mpr c,?_⟩;show ((0:Int)/l,(0:Int)%l)=_;rw[Int.zero_ediv,Int.zero_emod]
def mid:bJ:=((dJ (eT (aY<|aB dZ (ab 2)<|af<|aD<|.int 1)<|aY<|aB dZ (ab 2)<|af<|aD<|.int 2) (gh (ip<|ah (af<|a7 2 G.fP<|ah (ab 0)<|ah (af<|aB b8 (af<|aD<|.int 1)<|af<|aB nG (af<|bo cF<|ah (ab 5) ax)<|af<|aD<|.int 2) ax) ax) (a0 6) G.qN)<|dJ (aY<|aB dZ (ab 2)<|af<|aD<|.int 3) (bV 5<|b4 1 [] (b2<|ab 5) (a0 0) G.vo G.x1)<|dJ (aY<|aB qY (ab 2)<|af<|aD<|.int 3) (bV 5<|a7 2 G.qt<|ah (ab 0)<|ah (ab 1) ax) ep))
def Gn(m:ew (r+1) c):∃(j:Int) (U:ai),oT [P,Z c]=Z (aC j,[P,Z U])/\0<=j/\j<7/\ew r U:=by
 let⟨v,@A,a,f,g,Wh⟩:=ik (r:=r) (k:=4) m ⋯ ⋯;let⟨@h,rfl⟩:=m.lst;let⟨@b,rfl⟩:=Wh.lst;have d:v=0\/v=1\/v=2\/v=3:=⋯
 obtain⟨j,Wd,T,e⟩:∃j:Int,dv [ae.int 0,.int 0,.int 6,.int 3] v=Z (.int j)/\0<=j/\j<7:=by
  rcases d with rfl|rfl|rfl|rfl
  ·exact⟨0,rfl,by decide,by decide⟩
  ·exact⟨0,rfl,by decide,by decide⟩
  ·exact⟨6,rfl,by decide,by decide⟩
  ·exact⟨3,rfl,by decide,by decide⟩
 exact⟨j,.lst b,by simp -implicitDefEqProofs [oT,a,Wd],T,e,Wh⟩
def T_(m:ew (r+2) c):∃(j B:Int) (U:ai),ih (b4 1 [0] (ip<|ah (af<|aD<|.int 2) ax) (a0 0) cB G.oT) (vS 2<|eu (a0 8)<|eu (a0 9) hM) [Z c,WC,WW,WQ,WI,WU,R,I,W6,W5]=Z (.bf,[Z U,WC,WW,WQ,WI,WU,R,I,Z<|aC j,Z<|aC B])/\(0<=j/\j<7/\0<=B/\B<7)/\ew r U:=by
 let⟨j,@A,a,T,b,Wh⟩:=Gn (r:=r+1) (P:=Z (aC 0)) m;let⟨B,@E,d,e,f,Ws⟩:=Gn (r:=r) (P:=Z (aC 1)) Wh;refine⟨j,B,E,?_,⟨T,b,e,f⟩,Ws⟩;have fm:h8 1 (a0 0) cB oT [.int 0,.int 1] [] [Z c]=Z ([.int j,.int B],[Z E]):=by
  show (oT [Z (aC 0),Z c]).bind _=_;rw[a];show (oT [Z (aC 1),Z A]).bind _=_;rw[d];rfl
 have g:=o8 (WH:=[0]) (H:=ip (ah (af<|aD<|.int 2) ax)) (y:=[Z c,WC,WW,WQ,WI,WU,R,I,W6,W5]) (We:=[Z c,WC,WW,WQ,WI,WU,R,I,W6,W5]) (o:=Y) (w:=[.int 0,.int 1]) rfl fm;unfold ih;rw[g];rfl
def RS{a:List (Int×Int)}{j B:Int}(e:a.length<=1000):
  bo h9 (ah (af<|b4 1 [8,9] (b2<|ab 7) (a0 0) cB G.vl) ax) [P,WC,WW,WQ,WI,WU,R,Z<|av a,Z<|aC j,Z<|aC B]=Z (av<|a.map λh=>(h.1+j,h.2+B),[P,WC,WW,WQ,WI,WU,R,Z<|av a,Z<|aC j,Z<|aC B]):=by
 have b:b4 1 [8,9] (b2<|ab 7) (a0 0) cB G.vl [P,WC,WW,WQ,WI,WU,R,Z<|av a,Z<|aC j,Z<|aC B]=Z (aS<|a.map λh=>(h.1+j,h.2+B),[P,WC,WW,WQ,WI,WU,R,Z<|av a,Z<|aC j,Z<|aC B]):=by
  refine (o8 (w:=a.map X) (o:=Y) (We:=[P,WC,WW,WQ,WI,WU,R,Z<|av a,Z<|aC j,Z<|aC B]) rfl (fR _ (λh=>X (h.1+j,h.2+B)) _ (λh f=>?_) ⋯)).trans ?_
  ·have c:=z8 h;have d:=nq h;exact⟨[Z (.im<|X h),Z<|aC j,Z<|aC B],_,[Z (.im<|X h),Z<|aC j,Z<|aC B],rfl,rfl,by simp -implicitDefEqProofs [vl,X,c,d],rfl⟩
  ·show Z (ai.lst _,_)=Z (ai.lst<|(a.map λh=>(h.1+j,h.2+B)).map X,_);rw[fc];rfl
 simp -implicitDefEqProofs only[bo,ah,af,b,rP,tI,Gl,Lv,Tz,Tq,h9,kq]
end G
namespace L2
open Spec PyProof.Rows PySem.W
variable{V8:Φ}{T:bS}{l:bA}
end L2
namespace L2
open Spec PyProof.Rows PySem.W
def Rw(y:bc)(a:Nat)(I:List ae):Bool:=(match y[a]? with
 |some (Z<|.lst C)=>decide (C=I)
 |_=>aw)
def FE:ai->ai
 |.im (.aW f)=>.c_ f
 |s=>s
@[simp] theorem VP(f:List ae):FE (.im<|.aW f)=.c_ f:=rfl
@[simp] theorem VI(f:List ae):FE (.im<|.tup f)=.im (.tup f):=rfl
end L2
namespace L2
section
variable{y We WO:bc}
variable{s:ai}
def gI{L:aF ai}(c:L y=Z (s,We)):af L y=Z (.cC s,We):=by unfold af;rw[c];rfl
variable{f:bX}
def lB{L:aF bX}{c:aF (List bX)}{w:List bX}(a:L y=Z (f,We))(b:c We=Z (w,WO)):ah L c y=Z (f::w,WO):=by unfold ah;rw[a];show (c We).map _=_;rw[b];rfl
def mu{WV:ai->ai->Option ai}{Xc W9:aF bX}{C:bX}{WY WZ:ai}(a:Xc y=Z (f,We))(b:W9 We=Z (C,WO))(c:dQ WO f=Z WY)(d:dQ WO C=Z WZ)(e:WV WY WZ=Z s):aB WV Xc W9 y=Z (s,WO):=by
 unfold aB;rw[a];show (W9 We).bind _=_;rw[b];show (dQ WO f).bind _=_;rw[c];show (dQ WO C).bind _=_;rw[d];show (WV WY WZ).map _=_;rw[e];rfl
variable{L:aF (List bX)}{r:Nat}{Q:List bX}{I J:List ai}
def Qe{z:dd}{u:ai}(a:L y=Z (Q,We))(b:Q.length=r)(c:gr Q We=Z (I,WO))(d:z I=Z (u,J)):a7 r z L y=Z (u,jU Q J WO):=by
 unfold a7;rw[a];show (if Q.length=r then _ else _)=_;rw[aJ b];show (gr Q We).bind _=_;rw[c];show (z I).map _=_;rw[d];rfl
def vv{WV:List ai->Option ai}(a:L y=Z (Q,We))(b:hr We Q=Z I)(c:WV I=Z s):bo WV L y=Z (s,We):=by
 unfold bo;rw[a];show (hr We Q).bind _=_;rw[b];show (WV I).map _=_;rw[c];rfl
variable{d:Bool}
def wm{L:aF ai}(e:L y=Z (.im<|.ay d,We)):aY L y=Z (d,We):=by unfold aY;rw[e];rfl
def ma{L:aF Bool}(e:L y=Z (d,We)):dT L y=Z (!d,We):=by unfold dT;rw[e];rfl
def r2{L:aF bX}(e:L y=Z (f,We))(a:dQ We f=Z s)(b:qg s=Z d):dN L y=Z (d,We):=by
 unfold dN;rw[e];show (dQ We f).bind _=_;rw[a];show (qg s).map _=_;rw[b];rfl
def tb{L:aF ai}{c:gu}(e:L y=Z (s,We))(a:c s We=Z WO):ih L c y=Z (.bf,WO):=by unfold ih;rw[e];show (c s We).map _=_;rw[a];rfl
def nQ{L:aF ai}(e:L y=Z (s,We)):jd L y=Z (.bf,We):=by unfold jd;rw[e];rfl
variable{F:bc}{a:Nat}
def nj{ty:ai->Bool}{a4:ai->List ai->Option (ai×ai)}{b h u c:ai}(d:y[a]?=Z (Z b))(e:ty b=aa)(f:L y=Z (Q,We))(g:gr Q We=Z (I,WO))(i:WO[a]?=Z (Z h))(j:a4 h I=Z (u,c))(n:WO.set a (Z c)=F):g8 ty a a4 L y=Z (u,F):=by
 subst n;unfold g8;rw[d];show (if ty b=aa then _ else _)=_;rw[aJ e,f];show (gr Q We).bind _=_;rw[g];show (match WO[a]? with|some (Z h)=>_|_=>Y)=_;rw[i];show (a4 h I).map _=_;rw[j];rfl
def sE(a:L y=Z (Q,We))(b:gr Q We=Z (I,WO))(c:I.length<=100000)(n:wN I=s):cQ L y=Z (s,WO):=by
 unfold cQ;rw[a];show (gr Q We).bind _=_;rw[b];show (if _ then _ else _)=_;rw[aJ c,n]
def qk(a:L y=Z (Q,We))(b:gr Q We=Z (I,WO))(c:I.length<=100000)(n:va I=s):eG L y=Z (s,WO):=by
 unfold eG;rw[a];show (gr Q We).bind _=_;rw[b];show (if _ then _ else _)=_;rw[aJ c,n]
def rf{f:List ae}{s:ae}(c:f.length<100000):km (.lst f) [.im s]=Z (.im .a6,.lst<|f++[s]):=aJ c
def mO(a i:Int):dZ (.im<|.int a) (.im<|.int i)=Z (.im<|.ay<|decide (a=i)):=by
 show Z (ai.im<|.ay<|a==i)=_;by_cases c:a=i<;>simp[c]
variable{i:Int}
def UN{a:Int}(c:0<i):hP (.im<|.int a) (.im<|.int i)=Z (.im<|.int<|a%i):=aJ (c1 c)
variable{u:Option (nW×bc)}{d:bJ}{h:aF Bool}
theorem gD{g:bJ}(e:h y=Z (aa,We))(c:g We=u):dJ h g d y=u:=(I1 e).trans c
theorem eD{g:bJ}(e:h y=Z (aw,We))(c:d We=u):dJ h g d y=u:=(I3 e).trans c
theorem bE{L c:bJ}(e:L y=Z (.bf,We))(n:c We=u):bj L c y=u:=(iq e).trans n
theorem hO{L:aF ai}(e:L y=Z (s,We))(c:a<We.length)(n:We.set a (Z s)=WO):bV a L y=Z (.bf,WO):=(BG e c).trans (by rw[n])
variable{w:List ae}{WL:gu}{o:Option (Nat×ai)}
theorem iE{L:kZ}{aW:nW}(e:L y=Z ((w,o),We))(c:d5 WL d w We=Z (aW,WO))(n:m8 o WO=F):gh L WL d y=Z (aW,F):=(vV e c).trans (by rw[n])
theorem fz{own:Nat}{WH:List Nat}{H:kZ}{e:aF ai}{a:bc}{I:List ae}(A:H y=Z ((w,o),We))(E:h8 own WL h e w [] (kN WH We)=Z (I,a))(n:m8 o (j5 WH a We)=F):b4 own WH H WL h e y=Z (.lst I,F):=(o8 A E).trans (by rw[n])
variable{d g:aF Bool}
def lK(e:g y=Z (aa,We)):eT g d y=Z (aa,We):=by unfold eT;rw[e];rfl
variable{u:Option (Bool×bc)}
def c9(e:g y=Z (aw,We))(c:d We=u):eT g d y=u:=by unfold eT;rw[e];exact c
def f_(e:g y=Z (aa,We))(c:d We=u):ec g d y=u:=by unfold ec;rw[e];exact c
def jD(e:g y=Z (aw,We)):ec g d y=Z (aw,We):=by unfold ec;rw[e];rfl
def jh{L:aF Bool}{d:Bool}(e:L y=Z (d,We)):fZ L y=Z (.im<|.ay d,We):=by unfold fZ;rw[e];rfl
variable{u:ai}
def cw{z:dd}(a:L y=Z (Q,We))(b:Q.length=r)(c:gr Q We=Z (I,WO))(d:z I=Z (u,J))(n:jU Q J WO=F):a7 r z L y=Z (u,F):=by rw[<-n];exact Qe a b c d
def jg{L:aF Bool}(e:L y=Z (aa,We)):dT L y=Z (aw,We):=ma e
def Er{L:aF Bool}(e:L y=Z (aw,We)):dT L y=Z (aa,We):=ma e
def rM{f C:List ae}(a:L y=Z (Q,We))(b:hr We Q=Z [.im (.tup f),.im<|.tup C]):jS L y=Z ((gP f C,Y),We):=by
 unfold jS;rw[a];show (hr We Q).bind _=_;rw[b];rfl
def ft{L:aF bX}{t c:aF (Option Int)}{M S:Option Int}{a:ai}(b:L y=Z (f,We))(d:t We=Z (M,WO))(e:c WO=Z (S,F))(g:dQ F f=Z s)(h:lS s M S=Z a):cZ L t c y=Z (a,F):=by
 unfold cZ;rw[b];show (t We).bind _=_;rw[d];show (c WO).bind _=_;rw[e];show (dQ F f).bind _=_;rw[g];show (lS s M S).map _=_;rw[h];rfl
def U_(a:L y=Z (Q,We))(b:hr We Q=Z [.im (.int i)])(c:oi i):ip L y=Z ((hb 0 i.toNat,Y),We):=by
 unfold ip;rw[a];show (hr We Q).bind _=_;rw[b];show (if oi i then _ else _)=_;rw[aJ c]
def dk{k:Nat}{WK:List Nat}{L:bJ}(a:I.length=r)(e:L (I.map Z++List.replicate (k-r) Y)=Z (.eI u,y))(b:j7 WK I y 0=J):dp r k WK L I=Z (u,J):=wa y a e b
end
section
variable{y We:bc}
variable{s:ai}
def aN{L:aF ai}(c:L y=Z (s,y)):af L y=Z (.cC s,y):=gI c
variable{L:aF bX}{f:bX}
def a5{c:aF (List bX)}{w:List bX}(a:L y=Z (f,y))(b:c y=Z (w,y)):ah L c y=Z (f::w,y):=lB a b
variable{WV:ai->ai->Option ai}{Xc W9:aF bX}{C:bX}{WY WZ:ai}
def b0(a:Xc y=Z (f,y))(b:W9 y=Z (C,y))(c:dQ y f=Z WY)(d:dQ y C=Z WZ)(e:WV WY WZ=Z s):aB WV Xc W9 y=Z (s,y):=mu a b c d e
def d0(a:WV WY WZ=Z s)(b:Xc y=Z (f,y):=by rfl)(c:W9 y=Z (C,y):=by rfl)(d:dQ y f=Z WY:=by rfl)(e:dQ y C=Z WZ:=by rfl):aB WV Xc W9 y=Z (s,y):=mu b c d e a
def cL{WV:List ai->Option ai}{L:aF (List bX)}{Q:List bX}{I:List ai}(a:L y=Z (Q,y))(b:hr y Q=Z I)(c:WV I=Z s):bo WV L y=Z (s,y):=vv a b c
variable{d:Bool}
def cm{L:aF ai}(e:L y=Z (.im<|.ay d,y)):aY L y=Z (d,y):=wm e
def hW(e:L y=Z (f,y))(a:dQ y f=Z s)(b:qg s=Z d):dN L y=Z (d,y):=r2 e a b
def Q9{t c:aF (Option Int)}{M S:Option Int}{a:ai}(b:L y=Z (f,y))(d:t y=Z (M,y))(e:c y=Z (S,y))(g:dQ y f=Z s)(h:lS s M S=Z a):cZ L t c y=Z (a,y):=ft b d e g h
def jx{a:Nat}{L:aF ai}(e:L y=Z (s,y))(c:a<y.length)(n:y.set a (Z s)=We):bV a L y=Z (.bf,We):=hO e c n
end
end L2
namespace G
open L2
def eM{r k:Nat}(c:Nat.ble (r+1) k=aa):r<k:=ie c
abbrev aL:=Int×Int
variable{d:aL}{Wg:List aL}
inductive ez (aq:List aL) (j:aL):aL->Prop
 | self:ez aq j j
 | step {g d:aL}:ez aq j g->d∈aq->d∈c7 g->ez aq j d
def mi(aq:List aL):Prop:=(aq.Pairwise λg d=>bp (X g) (X d)=aa)
def A6(ao:Wg.Nodup)(a:Wg.length<=1000):∃aq:List aL,h2 (Wg.map X)=Z (aS aq)/\aq.Perm Wg/\mi aq:=by
 have o:=w4 ao a;let⟨aq,A,E⟩:=BD (ju<|Wg.map X);refine⟨aq,?_,A,?_⟩
 ·unfold h2;rw[aJ (rh.mpr o),E]
 ·have:=sM o.ord.ao o.ord.j1;rw[E]at this;exact kH.mp this
structure nx(aq:List aL)(d:aL)(Wg H:List aL)(l:aL)(Wu:List aL):Prop where
 ao:Wg.Nodup
 tD:d∈Wg
 con:∀h∈Wg,ez aq d h
 ei:Wg.length+kd aq Wg<=aq.length+1
 wl:H.length<=Wg.length
 fV:∀h∈H,h∈Wg
 cl:∀h∈Wg,h∉H->∀s∈c7 h,s∈aq->s∈Wg\/(h=l/\s∈Wu)
abbrev ic(P:Option ai)(aq:List aL)(d:aL)(Wg H:List aL)(WU:Option ai):bc:=[P,Z<|.im<|X d,Z<|.aH<|hE<|a4 aq,Z<|.aH<|a4 Wg,Z<|aS H,WU]
def Nd{aq:List aL}{h l:aL}{H Wu:List aL}{P:Option ai}(v:aq.length<=500)(j:l∈Wg)(p:h∈c7 l)(T:nx aq d Wg H l (h::Wu)):
  ∃k n,ph (ic P aq d Wg H<|Z<|.im<|X h)=Z (.bf,ic P aq d k n<|Z<|.im<|X h)/\nx aq d k n l Wu/\l∈k/\2*kd aq k+n.length<=2*kd aq Wg+H.length:=by
 have b:(eC (hE<|a4 aq)<|cX h).isSome=decide (h∈aq):=Vz aq h;have m:(eC (a4 Wg)<|cX h).isSome=decide (h∈Wg):=AG Wg h;have o:=nY h;have w:=T.ei;have x:=T.wl;by_cases A:h∈aq
 ·by_cases E:h∈Wg
  ·refine⟨Wg,H,?_,⟨T.ao,T.tD,T.con,T.ei,T.wl,T.fV,λf a g s hd i=>?_⟩,j,bb _⟩
   ·rw[c1 A]at b;rw[c1 E]at m;simp -implicitDefEqProofs [ph,p1,o,b,m]
   ·rcases T.cl f a g s hd i with c|⟨c,U⟩
    ·exact .inl c
    ·rcases cg.mp U with rfl|U
     ·exact .inl E
     ·exact .inr ⟨c,U⟩
  ·rw[c1 A]at b;rw[cW E]at m;have J:=JW A E;refine⟨Wg++[h],H++[h],?_,⟨?_,ed _ T.tD,λf a=>?_,?_,by simp;exact T.wl,λf a=>?_,λf a g s hd i=>?_⟩,ed _ j,by simp;lia⟩
   ·have q:=EO E;have a8:(a4 Wg).length<100000:=by unfold a4;rw[aZ];lia
    have bz:H.length<100000:=⋯
    simp -implicitDefEqProofs [ph,p1,o,b,m,q,a8,bz,hV]
   ·exact dD.mpr ⟨T.ao,e9 _ _,λf a C r e=>E (by rw[cM.mp r]at e;rw[<-e];exact a)⟩
   ·rcases dw.mp a with a|a
    ·exact T.con f a
    ·rw[cM.mp a];exact .step (T.con l j) A p
   ·rw[b_,eO];lia
   ·rcases dw.mp a with a|a
    ·exact ed _ (T.fV f a)
    ·exact ej _ a
   ·have t:f∈Wg:=by
     rcases dw.mp a with a|a
     ·exact a
     ·exact absurd (ej _ a) g
    rcases T.cl f t (λu=>g<|ed _ u) s hd i with c|⟨c,U⟩
    ·exact .inl (ed _ c)
    ·rcases cg.mp U with rfl|U
     ·exact .inl (ej _<|.head _)
     ·exact .inr ⟨c,U⟩
 ·refine⟨Wg,H,?_,⟨T.ao,T.tD,T.con,T.ei,T.wl,T.fV,λf a g s hd i=>?_⟩,j,bb _⟩
  ·rw[cW A]at b;simp -implicitDefEqProofs [ph,p1,o,b]
  ·rcases T.cl f a g s hd i with c|⟨c,U⟩
   ·exact .inl c
   ·rcases cg.mp U with rfl|U
    ·exact absurd i A
    ·exact .inr ⟨c,U⟩
theorem I4{aq:List aL}{d l:aL}{P:Option ai}(c:aq.length<=500):∀(Wu:List aL) {Wg H:List aL} (WU:Option ai),l∈Wg->(∀h∈Wu,h∈c7 l)->nx aq d Wg H l Wu->
  ∃a b g,d5 (a0 5) ph (Wu.map X) (ic P aq d Wg H WU)=Z (.bf,ic P aq d a b g)/\nx aq d a b l []/\2*kd aq a+b.length<=2*kd aq Wg+H.length
 |[],Wg,H,WU,_,_,T=>⟨Wg,H,WU,rfl,T,bb _⟩
 |h::Wu,Wg,H,WU,i,e,T=>by
  let⟨WD,t,j,k,m,n⟩:=Nd (h:=h) (P:=P) c i (e h<|.head _) T;let⟨WR,o,WW,p,q,r⟩:=I4 c Wu (Z<|.im<|X h) m (λf s=>e f<|.tail _ s) k;refine⟨WR,o,WW,?_,q,fu r n⟩;rw[cS,d5];dsimp only;rw[show a0 5 (.im<|X h) (ic P aq d Wg H WU)=Z (ic P aq d Wg H<|Z<|.im<|X h) from rfl];show (ph _).bind _=_;rw[j];exact p
def Je(f:ai)(aq:List aL):Prop:=(f=aS aq\/f=av aq)
def Dv{aq:List aL}{f:ai}(t:Je f aq)(C:aq.length<=500):∃i:List aL,t6 [f,.im<|X d]=Z (av i,[f,.im<|X d])/\mi i/\(∀k,k∈i↔ez aq d k)/\i.length<=aq.length+1/\i.Nodup:=by
 have v:∀h∈aq,∃We WO F,a0 0 (.im<|X h) (List.replicate 1 Y++kN [] [Z f,Z<|.im<|X d,Y,Y,Y,Y])=Z We/\cB We=Z (aa,WO)/\uH WO=Z (.im<|.tup [X h,.ay aa],F)/\F.drop 1=[]:=λh W=>⟨[Z (.im<|X h)],_,[Z (.im<|X h)],rfl,rfl,rfl,rfl⟩;have D:b4 1 [] (b2<|ab 0) (a0 0) cB G.uH [Z f,Z<|.im<|X d,Y,Y,Y,Y]=Z (.lst<|aq.map λh=>.tup [X h,.ay aa],[Z f,Z<|.im<|X d,Y,Y,Y,Y]):=by
  rcases t with rfl|rfl
  ·exact (o8 (w:=aq.map X) (o:=Z (0,aS aq)) (We:=[Z .dS,Z<|.im<|X d,Y,Y,Y,Y]) rfl (fR _ (λh=>.tup [X h,.ay aa]) _ v ⋯)).trans rfl
  ·exact (o8 (w:=aq.map X) (o:=Y) (We:=[Z (av aq),Z<|.im<|X d,Y,Y,Y,Y]) rfl (fR _ (λh=>.tup [X h,.ay aa]) _ v ⋯)).trans rfl
 have n:((a4 aq).all λq=>ae.keys 7 q.1)=aa/\(a4 aq).length<=1000:=⟨BZ aq,by unfold a4;rw[aZ];lia⟩;have E:bV 2 (bo js<|ah (af<|b4 1 [] (b2<|ab 0) (a0 0) cB G.uH) ax) [Z f,Z<|.im<|X d,Y,Y,Y,Y]=Z (.bf,[Z f,Z<|.im<|X d,Z<|.aH<|hE<|a4 aq,Y,Y,Y]):=by
  refine jx (s:=.aH (hE<|a4 aq)) (cL (a5 (aN D) rfl) rfl ?_) (eM rfl) rfl;simp -implicitDefEqProofs only[rP,tI,js,Gz,n.1,n.2,and_self,iu]
 have x:nx aq d [d] [d] d []:=⟨e9 _ _,.head _,λh a=>by rw[cM.mp a];exact .self,by
  have:aq.countP (λh=>decide (h∉[d]))<=aq.length:=List.countP_le_length;show 1+kd aq [d]<=aq.length+1;unfold kd;lia,bb _,λh a=>a,λh a m=>absurd a m⟩
 let⟨Wv,I,⟨Wg,l,WU,rfl,T⟩⟩:=ps (h:=yI) (d:=AX) (λk y=>∃Wg H l WU,y=ic (Z f) aq d Wg H WU/\nx aq d Wg H l []/\2*kd aq Wg+H.length<=k) (λy=>∃Wg l WU,y=ic (Z f) aq d Wg [] WU/\nx aq d Wg [] l [])
  (λk y J=>by
   let⟨Wg,H,L,WU,rfl,T,n⟩:=J;by_cases A:H=[]
   ·subst A;exact⟨aw,ic (Z f) aq d Wg [] WU,rfl,(λj=>by cases j),λ_=>⟨Wg,L,WU,rfl,T⟩⟩
   ·let⟨b,l,rfl⟩:=zN A;have p:yI (ic (Z f) aq d Wg (b++[l]) WU)=Z (aa,ic (Z f) aq d Wg (b++[l]) WU):=by
     have M:=nX (b++[l]);have m:fh ((b++[l]).map X) []=aw:=by
      cases b with
      |nil=>rfl
      |cons g u=>rfl
     have N:gd (aS<|b++[l]) (.lst [])=Z (.im<|.ay aa):=by
      simp only[gd,M,m];rfl
     exact cm (d0 N)
    refine⟨aa,_,p,λ_=>?_,(λj=>by cases j)⟩;have O:nx aq d Wg b l (c7 l):=⟨T.ao,T.tD,T.con,T.ei,by have:=T.wl;simp at this;lia,λh a=>T.fV h<|ed _ a,λh a m s hd Q=>by
     by_cases B:h=l
     ·subst B;exact .inr ⟨rfl,hd⟩
     ·rcases T.cl h a (λj=>(dw.mp j).elim m λj=>B<|cM.mp j) s hd Q with c|⟨_,c⟩
      ·exact .inl c
      ·cases c⟩
    let⟨WR,r,WW,R,S,an⟩:=I4 (P:=Z f) C (c7 l) WU (T.fV l<|ej _<|.head _) (λh a=>a) O;refine⟨.bf,ic (Z f) aq d WR r WW,?_,.inl rfl,2*kd aq WR+r.length,?_,WR,r,l,WW,rfl,S,bb _⟩
    ·unfold AX;refine iE (o:=Y) (w:=(c7 l).map X) (We:=ic (Z f) aq d Wg b WU) ?_ R rfl;have U:((b++[l]).map X).getLast?=Z (X l):=by simp
     have hd:((b++[l]).map X).dropLast=b.map X:=by simp
     have e:=tQ l;simp -implicitDefEqProofs only[b2,af,a7,ah,g8,List.getElem?_cons_zero,List.getElem?_cons_succ,hV,iu,Gl,rP,RA,tY,U,hd,tI,NL,dm,gB,e];simp -implicitDefEqProofs [e,kq]
    ·simp at n;lia) 1000000 _ (ic (Z f) aq d [d] [d] Y) ⟨[d],[d],d,Y,rfl,x,bb _⟩ (by
    have:=x.ei;simp;simp at this;lia)
 let⟨i,al,WT,up⟩:=A6 T.ao (by have:=T.ei;lia);refine⟨i,?_,up,λk=>WT.mem_iff.trans ⟨T.con k,λc=>?_⟩,by rw[WT.length_eq];have:=T.ei;lia,WT.nodup_iff.mpr T.ao⟩
 ·have Wd:ib [.aH (a4 Wg)]=Z (aS i):=by
   show h2 ((a4 Wg).map λq=>.tup q.1)=Z (aS i);rw[yR];exact al
  unfold t6 Fh;exact dk (y:=ic (Z f) aq d Wg [] WU) rfl (bE E<|bE (We:=[Z f,Z<|.im<|X d,Z<|.aH<|hE<|a4 aq,Z<|.aH<|a4 [d],Y,Y]) rfl<|bE (We:=ic (Z f) aq d [d] [d] Y) rfl<|bE I<|eJ<|cL (a5 (aN<|cL (a5 rfl rfl) rfl Wd) rfl) rfl rfl) (by rcases t with rfl|rfl<;>rfl)
 ·induction c with
  |self=>exact T.tD
  |step _ p hd am=>
   rcases T.cl _ am (λj=>nomatch j) _ hd p with c|⟨_,c⟩
   ·exact c
   ·cases c
end G
namespace L2
open Spec PyProof.Rows
variable{T:List ae->aj->Prop}{l:bA}{W2 r a k:Nat}{o:bk}{g f:aj}{Wg:List (List ae)}{G:Bool->au->Prop}{n:List ae}{j:au}{V_:Array (Int×ag)}{WG:Array (Option Nat)}{Ww:Type}{Wd:List Int}{c:a_}{b:Bool}{B:aX}{w:Array Nat}
abbrev kJ(w:Array Nat):Prop:=w.toList.Pairwise (· < ·)
def uj(u:kJ w){a n:Nat}{s:Nat}(c:a<n)(d:n<w.size):w.getD a s<w.getD n s:=by
 have S:a<w.size:=pC c d;have e:∀k (b:k<w.size),w.getD k s=w.toList[k]'⇑b:=λk b=>by simp[Array.getD,b]
 rw[e a S,e n d];exact oE.mp u a n _ _ c
theorem zu(w:Array Nat)(u:kJ w)(i:Nat):∀(fuel M S:Nat),S-M<=fuel->M<=S->S<=w.size->(∀a,a<M->w.getD a i<i)->(∀a,S<=a->a<w.size->i<=w.getD a i)->
  (aX.below.go w i fuel M S<=w.size/\(∀a,a<aX.below.go w i fuel M S->w.getD a i<i)/\∀a,aX.below.go w i fuel M S<=a->a<w.size->i<=w.getD a i)
 |0,M,S,A,E,f,g,d=>by
  have e:M=S:=⋯
  subst e;exact⟨f,g,d⟩
 |fuel+1,M,S,A,E,f,g,d=>by
  unfold aX.below.go;by_cases c:M<S
  ·rw[aJ c];dsimp only;by_cases b:w.getD ((M+S)/2) i<i
   ·rw[aJ b];refine zu w u i fuel _ _ ⋯ ⋯ f (λa h=>?_) d;rcases gv a ((M+S)/2) with U|U
    ·exact pC (uj u U ⋯) b
    ·have:a=(M+S)/2:=⋯
     rw[this];exact b
   ·rw[aP b];refine zu w u i fuel _ _ ⋯ ⋯ ⋯ g (λa h j=>?_);rcases gv ((M+S)/2) a with U|U
    ·exact oJ (uh (xq.mp b)<|uj u U j)
    ·have:a=(M+S)/2:=⋯
     rw[this];exact xq.mp b
  ·rw[aP c];have e:M=S:=⋯
   subst e;exact⟨f,g,d⟩
def B6(u:kJ w)(i:Nat):aX.below w i<=w.size/\(∀a,a<aX.below w i->w.getD a i<i)/\∀a,aX.below w i<=a->a<w.size->i<=w.getD a i:=
 zu w u i w.size 0 w.size ⋯ ⋯ ⋯ (λa c=>absurd c<|vH _) λa c U=>absurd U ⋯
def BH(u:kJ w){a i:Nat}(c:w[a]?=Z i):aX.below w i=a:=by
 let@⟨g,d,h⟩:=B6 u i;let⟨@S,e⟩:=qV.mp c;have b:w.getD a i=i:=by simp[Array.getD,S,e]
 rcases oN (aX.below w i) a with A|A|A
 ·have E:=h _ (bb _) (pC A S);have f:=uj u (s:=i) A S;omega
 ·exact A
 ·have:=d a A;omega
def OJ(u:kJ w){i:Nat}(c:¬ (w[aX.below w i]?=Z i)):kJ (aX.insertAt w (aX.below w i) i):=by
 let@⟨g,d,h⟩:=B6 u i;unfold kJ;rw[HU];refine EJ.mpr ⟨FD (rS _ _) u,gL.mpr ⟨λC a=>?_,FD (u_ _ _) u⟩,λf m C a=>?_⟩
 ·let⟨n,b,rfl⟩:=mg.mp a;rw[qh];have Wd:aX.below w i+n<w.size:=by simp at b;lia
  have A:=h (aX.below w i+n) (nM _ _) Wd;have e:w.getD (aX.below w i+n) i=w.toList[aX.below w i+n]:=by simp[Array.getD,Wd]
  rw[e]at A;refine Nat.lt_of_le_of_ne A λj=>?_;rcases Jl n with h0|h0
  ·subst h0;apply c;rw[qV];exact⟨⋯,by simpa using j.symm⟩
  ·have E:=uj u (s:=i) (EY (n:=aX.below w i) h0) Wd;have o:=h (aX.below w i) (bb _) ⋯;rw[e]at E;exact absurd j (dP<|uh o E)
 ·let⟨n,b,rfl⟩:=mg.mp m;rw[vO];have p:n<aX.below w i:=by simp at b;lia
  have Wd:n<w.size:=⋯
  have A:=d n p;have e:w.getD n i=w.toList[n]:=by simp[Array.getD,Wd]
  rw[e]at A;rcases cg.mp a with rfl|a
  ·exact A
  ·let⟨k,q,rfl⟩:=mg.mp a;rw[qh];have l:aX.below w i+k<w.size:=by simp at q;lia
   have E:=h (aX.below w i+k) (nM _ _) l;have t:w.getD (aX.below w i+k) i=w.toList[aX.below w i+k]:=by simp[Array.getD,l]
   rw[t]at E;exact gm A E
structure lz(B:aX)(led:Bool):Prop where
 rise:kJ B.place
 q0:B.dummies=#[]
 led:B.led=led
def lz.Pw(c:lz B b)(d:Bool):lz {B with plain:=d} b:=⟨c.rise,c.q0,c.led⟩
def Dz(i:Nat):aX.has #[] i=aw:=rfl
def PF(hd:B.dummies=#[])(i:Nat):(∃a,B.slot i=.live a)\/(B.slot i=.empty/\¬ (B.place[aX.below B.place i]?=Z i)):=by
 unfold aX.slot;dsimp only;by_cases c:(B.place[aX.below B.place i]? == Z i)=aa
 ·rw[aJ c];exact .inl ⟨_,rfl⟩
 ·rw[aP c,hd,Dz];exact .inr ⟨rfl,λe=>c (by rw[e];exact my _)⟩
def lz.put(c:lz B b){i:Nat}(a:¬ (B.place[aX.below B.place i]?=Z i)):lz (B.put i).1 b:=by
 refine⟨OJ c.rise a,?_,c.led⟩;show (if aX.has B.dummies i=aa then _ else B.dummies)=#[];rw[c.q0,Dz];rfl
def OQ{j m n:Nat}{p:Bool}{Wd:Array Int}{o:Array Nat}(e:aX.laid j m n b p Wd=Z (B,o)):lz B b:=by
 unfold aX.laid at e;cases c:aX.layClean j Wd with
 |none=>rw[c]at e;cases e
 |some WG=>
  rw[c]at e;cases e;refine⟨?_,rfl,rfl⟩;show (List.map (λf:Nat×Nat=>f.1)<|List.filterMap (λi=>Option.map (λf=>(i,f))<|WG.getD i Y)<|range<|j+1).Pairwise (· < ·);rw[List.map_filterMap];refine RI _ (R:=(· < ·)) (λg d q f a C h=>?_) yY;cases k:WG.getD g Y with
  |none=>rw[k]at a;cases a
  |some J=>
   cases l:WG.getD d Y with
   |none=>rw[l]at h;cases h
   |some v=>
    rw[k]at a;rw[l]at h;cases a;cases h;exact q
def rt(k:Nat)(q:aX.Probe):aX.Probe:=(
 if q.more>0 then {q with j:=q.j+1,more:=q.more-1} else
 {q with j:=(aX.leap k q.i q.perturb).1,more:=aX.runEnd k (aX.leap k q.i q.perturb).1-(aX.leap k q.i q.perturb).1,i:=(aX.leap k q.i q.perturb).1,perturb:=(aX.leap k q.i q.perturb).2})
def q6(k a t:Nat):aX.Probe:=({j:=a,more:=aX.runEnd k a-a,i:=a,perturb:=t,dummy:=Y})
def cI(k:Nat)(c:Int):Nat->aX.Probe
 |0=>q6 k (aX.bits c%(k+1)) (aX.bits c)
 |n+1=>rt k (cI k c n)
def dE(k:Nat)(c:Int):Nat->Nat×Nat
 |0=>(aX.bits c%(k+1),aX.bits c)
 |p+1=>aX.leap k (dE k c p).1 (dE k c p).2
theorem yD(k:Nat)(c:Int):∀n,(cI k c n).dummy=Y
 |0=>rfl
 |n+1=>by
  rw[cI,rt];split
  ·exact yD k c n
  ·exact yD k c n
def Ot(k a:Nat):aX.runEnd k a-a<=9:=by
 unfold aX.runEnd;split<;>lia
theorem qG{k:Nat}{c:Int}{n a t:Nat}(e:cI k c n=q6 k a t):∀u,u<=aX.runEnd k a-a->cI k c (n+u)={q6 k a t with j:=a+u,more:=aX.runEnd k a-a-u}
 |0,_=>e
 |u+1,b=>by
  show rt k (cI k c<|n+u)=_;rw[qG e u ⋯,rt,aJ (show aX.runEnd k a-a-u>0 by lia)];rfl
def Uh{c:Int}{n t:Nat}(e:cI k c n=q6 k a t):cI k c (n+(aX.runEnd k a-a)+1)=q6 k (aX.leap k a t).1 (aX.leap k a t).2:=by
 show rt k (cI k c<|n+(aX.runEnd k a-a))=_;rw[qG e _ (bb _),rt,aP (show ¬ (aX.runEnd k a-a-(aX.runEnd k a-a)>0) by lia)];rfl
def gW(k:Nat)(c:Int):Nat->Nat
 |0=>0
 |p+1=>gW k c p+(aX.runEnd k (dE k c p).1-(dE k c p).1)+1
theorem pS(k:Nat)(c:Int):∀p,cI k c (gW k c p)=q6 k (dE k c p).1 (dE k c p).2
 |0=>rfl
 |p+1=>Uh (pS k c p)
theorem Gy(k:Nat)(c:Int):∀p,gW k c p<=10*p
 |0=>bb _
 |p+1=>by
  have:=Gy k c p;have:=Ot k (dE k c p).1;show gW k c p+_+1<=_;lia
theorem II(k:Nat)(c:Int):∀n,∃p u,n=gW k c p+u/\u<=aX.runEnd k (dE k c p).1-(dE k c p).1
 |0=>⟨0,0,rfl,f7 _⟩
 |n+1=>by
  let⟨p,@u,e,b⟩:=II k c n;by_cases a:u+1<=aX.runEnd k (dE k c p).1-(dE k c p).1
  ·exact⟨p,u+1,⋯,a⟩
  ·exact⟨p+1,0,by show _=gW k c p+_+1+0;lia,f7 _⟩
def j0(k:Nat):Nat->Nat->Nat
 |0,f=>f
 |n+1,f=>(j0 k n f*5+1)%(k+1)
theorem sJ(k:Nat)(g f:Nat):∀d,j0 k (g+d) f=j0 k d (j0 k g f)
 |0=>rfl
 |d+1=>by
  show (j0 k (g+d) f*5+1)%(k+1)=_;rw[sJ k g f d];rfl
def v9(k:Nat):Nat->Nat->Nat->Nat
 |0,_,a=>a
 |n+1,f,a=>v9 k n ((f*5+1)%(k+1)) (a ||| 2^f)
def LK(k n f:Nat):j0 k n ((f*5+1)%(k+1))=j0 k (n+1) f:=by
 rw[sz n 1,sJ];rfl
theorem BM{k:Nat}:∀{r f C a:Nat},(v9 k r f a).testBit C=aa->a.testBit C=aa\/∃n,n<r/\j0 k n f=C
 |0,_,_,_,c=>.inl c
 |r+1,f,C,a,c=>by
  rcases BM (r:=r) c with c|⟨n,A,E⟩
  ·rw[Nat.testBit_or,pQ]at c;rcases c with c|c
   ·exact .inl c
   ·rw[Nat.testBit_two_pow,fF]at c;exact .inr ⟨0,z4 _,c⟩
  ·exact .inr ⟨n+1,Nat.succ_lt_succ A,by rw[<-LK];exact E⟩
def ys(k:Nat):Bool:=(beq (v9 k (k+1) 0 0) (2^(k+1)-1)&&beq (j0 k (k+1) 0) 0)
def Kt(h:ys k=aa){g f:Nat}(d:g<=k)(e:f<=k):∃n,n<=k/\j0 k n g=f:=by
 rw[ys,cy]at h;have i:=Jt h.2;have all:∀C,C<=k->∃n,n<k+1/\j0 k n 0=C:=λC j=>by
  have p:(v9 k (k+1) 0 0).testBit C=aa:=by
   rw[Jt h.1,Nat.testBit_two_pow_sub_one];exact c1 (Cu j)
  rcases BM p with c|c
  ·rw[Nat.zero_testBit]at c;cases c
  ·exact c
 let⟨@a,A,rfl⟩:=all g d;let⟨@b,E,rfl⟩:=all f e;rcases gv b a with c|c
 ·refine⟨b+(k+1-a),by omega,?_⟩;rw[<-sJ,show a+(b+(k+1-a))=(k+1)+b by omega,sJ,i]
 ·refine⟨b-a,by omega,?_⟩;rw[<-sJ,show a+(b-a)=b by omega]
def jt(k:Nat):Prop:=(k=7\/k=31\/k=127\/k=511)
def jt.Se(L:jt k):ys k=aa:=by
 rcases L with rfl|rfl|rfl|rfl<;>decide +kernel
def QL(c:Int):aX.bits c<2^64:=by
 unfold aX.bits;have A:=l5 c (show (2^64:Int)≠0 by decide);have E:=nc c (show (0:Int)<2^64 by decide);lia
theorem EL(k:Nat)(c:Int):∀p,(dE k c p).2=aX.bits c/32^p
 |0=>by rw[Nat.pow_zero,Nat.div_one];rfl
 |p+1=>by
  show (dE k c p).2/32=_;rw[EL k c p,Nat.div_div_eq_div_mul];rfl
theorem zk(k:Nat)(c:Int):∀p,(dE k c p).1<=k
 |0=>tV (EC _<|z4 _)
 |p+1=>tV (EC _<|z4 _)
theorem IF(k:Nat)(c:Int):∀n,dE k c (13+n)=(j0 k n (dE k c 13).1,0)
 |0=>by
  have e:(dE k c 13).2=0:=by
   rw[EL];exact Nat.div_eq_of_lt (pC (QL c) ∅)
  show dE k c 13=((dE k c 13).1,0);rw[<-e]
 |n+1=>by
  show aX.leap k (dE k c<|13+n).1 (dE k c<|13+n).2=_;rw[IF k c n];show ((j0 k n (dE k c 13).1*5+1+0/32)%(k+1),0/32)=_;rw[Nat.zero_div,AR];rfl
def IU(L:jt k)(c:Int){f:Nat}(a:f<=k):∃p,p+1<aX.turns k/\(dE k c p).1=f:=by
 let⟨@n,A,E⟩:=Kt L.Se (zk k c 13) a;exact⟨13+n,by unfold aX.turns;lia,by rw[IF];exact E⟩
def OT(L:jt k)(c:Int){f:Nat}(a:f<=k):∃n,n<10*aX.turns k/\(cI k c n).j=f:=by
 let⟨@p,A,E⟩:=IU L c a;refine⟨gW k c p,by have:=Gy k c p;lia,?_⟩;rw[pS];exact E
def H8(c:a<=k):aX.runEnd k a<=k:=by unfold aX.runEnd;split<;>omega
def GS(k:Nat)(c:Int)(n:Nat):(cI k c n).j<=k:=by
 let⟨p,@u,rfl,a⟩:=II k c n;rw[qG (pS k c p) u a];have:=H8 (zk k c p);have e:aX.runEnd k (dE k c p).1 >= (dE k c p).1:=by unfold aX.runEnd;split<;>lia
 show (dE k c p).1+u<=k;lia
theorem zo{Ww:Type}[DecidableEq Ww]:∀{t k:List Ww},t.Nodup->(∀f∈t,f∈k)->t.length<=k.length
 |[],k,_,_=>f7 _
 |g::t,k,ao,c=>by
  have a:=iw.mp ao;have p:=zo (t:=t) (k:=k.erase g) a.2 λf b=>(HY (λe:f=g=>a.1<|e ▸ b)).mpr (c f<|.tail _ b);have d:=c g (.head _);rw[I_ d]at p;have:=BI d;rw[dm];lia
def mA(k:Nat)(jf:Nat->Prop)(c:Int)(i:Nat):Prop:=(∃n,(cI k c n).j=i/\∀a,a<n->jf (cI k c a).j)
def mA.mono{jf b:Nat->Prop}{c:Int}{i:Nat}(u:mA k jf c i)(a:∀f,jf f->b f):mA k b c i:=let ⟨n,e,g⟩:=u;⟨n,e,λd h=>a _<|g d h⟩
structure p4(B:aX)(Wd:List Int):Prop where
 nu:jt B.mask
 len:B.place.size=Wd.length
 loose:B.place.size*5<B.mask*3
 le:∀i∈B.place.toList,i<=B.mask
 o5:∀q∈B.place.toList.zip Wd,mA B.mask (·∈B.place.toList) q.2 q.1
def jt.pos(L:jt k):7<=k/\k<=511/\k%2=1:=by rcases L with rfl|rfl|rfl|rfl<;>decide
def Nx(u:kJ B.place){i:Nat}(c:i∈B.place.toList):∃a,B.slot i=.live a/\B.place[a]?=Z i:=by
 let⟨a,S,e⟩:=mg.mp c;have b:B.place[a]?=Z i:=by
  rw[<-fD,eB S,e]
 refine⟨a,?_,b⟩;unfold aX.slot;dsimp only;rw[BH u b,b,aJ<|my _]
def KI(hd:B.dummies=#[]){i:Nat}(c:i∉B.place.toList):B.slot i=.empty:=by
 rcases PF hd i with ⟨a,e⟩|⟨e,_⟩
 ·unfold aX.slot at e;dsimp only at e;split at e
  ·next p=>
   have b:=eq_of_beq p;refine absurd ?_ c;rw[<-fD]at b;exact fH b
  ·split at e<;>cases e
 ·exact e
def p4.some(m:p4 B Wd)(c:Int):∃n,n<10*aX.turns B.mask/\(cI B.mask c n).j∉B.place.toList:=by
 have:∃f,f<=B.mask/\f∉B.place.toList:=by
  refine oq λh=>?_;have p:=zo (t:=range (B.mask+1)) (k:=B.place.toList) w5 λf a=>oq λb=>h ⟨f,tV<|fI.mp a,b⟩;rw[hR,eb]at p;have:=m.loose;lia
 let⟨@f,A,E⟩:=this;let⟨@n,WD,WR⟩:=OT m.nu c A;exact⟨n,WD,by rw[WR];exact E⟩
theorem Ct{B:aX}(u:kJ B.place)(hd:B.dummies = #[])(f:Nat -> Int)(c:Int): ∀(fuel b:Nat),(∃n,b <= n /\ n<b+fuel /\ (cI B.mask c n).j ∉ B.place.toList) ->
    ∃WD,b <= WD /\ (∀n,b <= n -> n<WD -> ∃a,B.place[a]? = Z (cI B.mask c n).j /\ f a ≠ c) /\
      ((aX.probe.go B f c fuel (cI B.mask c b)=Z (.empty (cI B.mask c WD).j Y) /\ (cI B.mask c WD).j ∉ B.place.toList) \/
        ∃a,aX.probe.go B f c fuel (cI B.mask c b)=Z (.candidate (cI B.mask c WD).j a<|cI B.mask c<|WD+1) /\ B.slot (cI B.mask c WD).j=.live a /\ B.place[a]? = Z (cI B.mask c WD).j /\ f a=c)
  |0,b,⟨n,g,d,_⟩ => absurd g ⋯
  |fuel+1,b,⟨n,g,d,h⟩ => by
    by_cases k:(cI B.mask c b).j ∈ B.place.toList
    · let⟨@a,l,m⟩:=Nx u k
      by_cases p:f a=c
      · refine ⟨b,bb _,λn A E => absurd A ⋯,.inr ⟨a, ?_,l,m,p⟩⟩
        unfold aX.probe.go;rw [l];dsimp only;rw [aJ (by rw [p]; exact my _)];rfl
      · have ne:n ≠ b:=λe => h (e ▸ k)
        let⟨@WD,A,E,o⟩:=Ct u hd f c fuel (b+1) ⟨n,⋯,⋯,h⟩;have e:aX.probe.go B f c (fuel+1) (cI B.mask c b)=aX.probe.go B f c fuel (cI B.mask c<|b+1):=by
          rw [aX.probe.go,l];dsimp only;rw [aP (by rw [t4]; exact p)];rfl
        refine ⟨WD,⋯,λn r q => ?_,by rw [e]; exact o⟩;rcases gv b n with L|L
        · exact E n L q
        · rw [show n=b by lia]; exact ⟨a,m,p⟩
    · refine ⟨b,bb _,λn A E => absurd A ⋯,.inl ⟨?_,k⟩⟩
      unfold aX.probe.go;rw [KI hd k];dsimp only;rw [yD]
def xE(w:Array Ww)(q:Nat)(f:Ww):(aX.insertAt w q f).toList=w.toList.take q++f::w.toList.drop q:=HU w q f
def rU{t:List Ww}{q:Nat}{f C:Ww}:C∈t.take q++f::t.drop q↔C=f\/C∈t:=by
 constructor
 ·intro c;rcases dw.mp c with c|c
  ·exact .inr (nt c)
  ·rcases cg.mp c with c|c
   ·exact .inl c
   ·exact .inr (lj c)
 ·rintro (rfl|c)
  ·exact ej _ (.head _)
  ·rw[<-gi q t]at c;rcases dw.mp c with c|c
   ·exact ed _ c
   ·exact ej _ (.tail _ c)
def Kc{W_:Type}{g:List Ww}{d:List W_}(b:g.length=d.length)(q:Nat)(f:Ww)(C:W_):(g.take q++f::g.drop q).zip (d.take q++C::d.drop q)=(g.zip d).take q++(f,C)::(g.zip d).drop q:=by
 rw[BK (by rw[gK,gK,b]),yZ];have c:∀(q:Nat) (g:List Ww) (d:List W_),(g.take q).zip (d.take q)=(g.zip d).take q:=λq=>by
  induction q with
  |zero=>intro g d;rfl
  |succ q a=>intro g d;cases g with
   |nil=>rfl
   |cons f g=>cases d with
    |nil=>rfl
    |cons C d=>exact congrArg ((f,C)::·) (a g d)
 have e:∀(q:Nat) (g:List Ww) (d:List W_),(g.drop q).zip (d.drop q)=(g.zip d).drop q:=λq=>by
  induction q with
  |zero=>intro g d;rfl
  |succ q a=>intro g d;cases g with
   |nil=>rfl
   |cons f g=>cases d with
    |nil=>show (g.drop q).zip []=_;rw[C0];rfl
    |cons C d=>exact a g d
 rw[c,e]
def p4.put(m:p4 B Wd){c:Int}{n:Nat}(l:(cI B.mask c n).j∉B.place.toList)(g:∀a,a<n->(cI B.mask c a).j∈B.place.toList):
  (∀i∈(B.put (cI B.mask c n).j).1.place.toList,i<=B.mask)/\∀q∈(B.put (cI B.mask c n).j).1.place.toList.zip (Wd.take (B.put (cI B.mask c n).j).2++c::Wd.drop (B.put (cI B.mask c n).j).2),mA B.mask (·∈(B.put (cI B.mask c n).j).1.place.toList) q.2 q.1:=by
 have e:(B.put (cI B.mask c n).j).1.place.toList=B.place.toList.take (B.put (cI B.mask c n).j).2++(cI B.mask c n).j::B.place.toList.drop (B.put (cI B.mask c n).j).2:=xE _ _ _;rw[e];refine⟨λi d=>?_,λq b=>?_⟩
 ·rcases rU.mp d with rfl|d
  ·exact GS _ _ _
  ·exact m.le i d
 ·rw[Kc (by rw[eb];exact m.len)]at b;rcases rU.mp b with rfl|b
  ·exact⟨n,rfl,λa h=>rU.mpr<|.inr<|g a h⟩
  ·exact (m.o5 q b).mono λf k=>rU.mpr (.inr k)
def md(WG:Array (Option Nat))(i:Nat):Prop:=((WG.getD i<|Z 0).isSome=aa)
theorem Ew{k:Nat}(WG:Array (Option Nat))(c:Int):∀(fuel p:Nat),(∀a,a<gW k c p->md WG (cI k c a).j)->(∃b,p<=b/\b<p+fuel/\¬ md WG (dE k c b).1)->
  ∃i,aX.layClean.free k WG fuel (dE k c p).1 (dE k c p).2=Z i/\i<=k/\¬ md WG i/\mA k (md WG) c i
 |0,p,_,⟨b,g,d,_⟩=>absurd g ⋯
 |fuel+1,p,f,⟨b,g,d,h⟩=>by
  unfold aX.layClean.free;have le:aX.runEnd k (dE k c p).1<=k:=H8 (zk k c p);have Xp:(dE k c p).1<=aX.runEnd k (dE k c p).1:=by unfold aX.runEnd;split<;>lia
  cases m:(range<|aX.runEnd k (dE k c p).1+1-(dE k c p).1).find? (λn=>(WG.getD ((dE k c p).1+n)<|Z 0).isNone) with
  |some n=>
   dsimp only;rw[List.find?_range_eq_some]at m;let@⟨A,E,q⟩:=m;have r:n<aX.runEnd k (dE k c p).1+1-(dE k c p).1:=fI.mp E;refine⟨_,rfl,⋯,?_,gW k c p+n,?_,λa o=>?_⟩
   ·unfold md;intro z;rw[Option.isNone_iff_eq_none]at A;rw[A]at z;cases z
   ·rw[qG (pS k c p) n ⋯]
   ·rcases gv a (gW k c p) with z|z
    ·exact f a z
    ·have e:a=gW k c p+(a-gW k c p):=⋯
     rw[e,qG (pS k c p) (a-gW k c p) ⋯];have:=q (a-gW k c p) ⋯;show (WG.getD ((dE k c p).1+(a-gW k c p))<|Z 0).isSome=aa;cases l:WG.getD ((dE k c p).1+(a-gW k c p)) (Z 0) with
     |none=>rw[l]at this;cases this
     |some _=>rfl
  |none=>
   dsimp only;rw[List.find?_range_eq_none]at m;have jf:∀n,n<aX.runEnd k (dE k c p).1+1-(dE k c p).1->md WG ((dE k c p).1+n):=λn f=>by
    have:=m n f;unfold md;cases l:WG.getD ((dE k c p).1+n) (Z 0) with
    |none=>rw[l]at this;cases this
    |some _=>rfl
   have ne:b≠p:=λe=>h (by rw[e];exact jf 0 ⋯);refine Ew WG c fuel (p+1) (λa o=>?_) ⟨b,⋯,⋯,h⟩;rcases gv a (gW k c p) with z|z
   ·exact f a z
   ·have s:a<gW k c p+(aX.runEnd k (dE k c p).1-(dE k c p).1)+1:=o;have e:a=gW k c p+(a-gW k c p):=⋯
    rw[e,qG (pS k c p) (a-gW k c p) ⋯];exact jf _ ⋯
structure mv(k:Nat)(WG:Array (Option Nat))(Wk:List Nat)(Wd:List Int):Prop where
 size:WG.size=k+1
 len:Wk.length=Wd.length
 ao:Wk.Nodup
 le:∀i∈Wk,i<=k
 own:∀(i n:Nat),WG[i]?=Z (Z n)↔Wk[n]?=Z i
 o5:∀q∈Wk.zip Wd,mA k (·∈Wk) q.2 q.1
def mv.jf{Wk:List Nat}(H:mv k WG Wk Wd){i:Nat}(d:i<=k):md WG i↔i∈Wk:=by
 have c:i<WG.size:=by rw[H.size];lia
 unfold md;rw[show WG.getD i (Z 0)=WG[i] by simp[Array.getD,c]];have e:WG[i]?=Z WG[i]:=pl c;constructor
 ·intro a;let⟨@n,b⟩:=Cs.mp a;rw[b]at e;exact fH ((H.own i n).mp e)
 ·intro a;let⟨@n,b⟩:=vm a;have:=(H.own i n).mpr b;rw[e]at this;rw[Option.some.inj this];rfl
def mv.step{k:Nat}(L:jt k){WG:Array (Option Nat)}{Wk:List Nat}{Wd:List Int}(H:mv k WG Wk Wd)(E:Wd.length<=k)(c:Int):
  ∃i,aX.layClean.free k WG (aX.turns k) (aX.bits c%(k+1)) (aX.bits c)=Z i/\mv k (WG.setIfInBounds i<|Z Wd.length) (Wk++[i]) (Wd++[c]):=by
 have room:∃f,f<=k/\f∉Wk:=by
  refine oq λh=>?_;have p:=zo (t:=range (k+1)) (k:=Wk) w5 λf m=>oq λa=>h ⟨f,tV<|fI.mp m,a⟩;rw[hR,H.len]at p;lia
 let⟨@f,r,x⟩:=room;let⟨@p,F,y⟩:=IU L c r;let⟨@i,z,s,A,B⟩:=Ew (k:=k) WG c (aX.turns k) 0 (λu o=>absurd o<|vH _) ⟨p,f7 _,⋯,by rw[y];exact λa=>x<|(H.jf r).mp a⟩;have v:i∉Wk:=λa=>A ((H.jf s).mpr a);have C:i<WG.size:=by rw[H.size];lia
 refine⟨i,z,by rw[Array.size_setIfInBounds,H.size],by rw[b_,b_,H.len];rfl,?_,?_,λw n=>?_,?_⟩
 ·exact dD.mpr ⟨H.ao,e9 _ _,λg b d D e=>v (by rw[<-cM.mp D,<-e];exact b)⟩
 ·intro g b;rcases dw.mp b with b|b
  ·exact H.le g b
  ·rw[cM.mp b];exact s
 ·rw[Array.getElem?_setIfInBounds];by_cases e:i=w
  ·subst e;rw[aJ rfl,aJ C];constructor
   ·intro a;cases a;rw[<-H.len,kM<|bb _,w2];rfl
   ·intro a;rcases gv n Wk.length with l|l
    ·rw[jN l]at a;exact absurd (fH a) v
    ·rw[kM l]at a;have:n-Wk.length=0:=by
      have:=(gk.mp a).1;rw[eO]at this;lia
     rw[show n=Wd.length by rw[<-H.len];lia]
  ·rw[aP e,H.own w n];rcases gv n Wk.length with l|l
   ·rw[jN l]
   ·rw[kM l,uX l];constructor
    ·intro a;cases a
    ·intro a;have:=fH a;exact absurd (cM.mp this) (λa=>e a.symm)
 ·intro q j;rw[BK H.len]at j;rcases dw.mp j with j|j
  ·exact (H.o5 q j).mono λf m=>ed _ m
  ·rw[yZ,List.zip_nil_left]at j;rw[cM.mp j];let⟨@n,e,g⟩:=B;exact⟨n,e,λu o=>ed _<|(H.jf<|GS _ _ _).mp<|g u o⟩
theorem Ig{k:Nat}(L:jt k):∀(dx Wd:List Int) (WG:Array (Option Nat)) (Wk:List Nat),mv k WG Wk Wd->(Wd++dx).length<=k->
  ∃a b,dx.foldl (λ(j:Option (Array (Option Nat)×Nat)) c=>do
   let (f,n) <-j
   let i <-aX.layClean.free k f (aX.turns k) (aX.bits c%(k+1)) (aX.bits c)
   pure (f.setIfInBounds i<|Z n,n+1)) (Z (WG,Wd.length))=Z (a,(Wd++dx).length)/\mv k a b (Wd++dx)
 |[],Wd,WG,Wk,H,_=>⟨WG,Wk,by rw[cO];rfl,by rw[cO];exact H⟩
 |c::dx,Wd,WG,Wk,H,g=>by
  let⟨@i,e,l⟩:=H.step L (by rw[b_]at g;lia) c;let⟨a,@b,d,h⟩:=Ig L dx (Wd++[c]) _ _ l (by rw[bM];exact g);rw[bM]at d h;refine⟨a,b,?_,h⟩;rw[h4];rw[show (Wd++[c]).length=Wd.length+1 from b_]at d;refine Eq.trans (congrArg (λm=>List.foldl _ m dx) ?_) d;show (aX.layClean.free k WG (aX.turns k) (aX.bits c%(k+1))<|aX.bits c).bind _=_;rw[e];rfl
def zR(L:jt k)(Wd:Array Int)(b:Wd.size<=k):∃WG Wk,aX.layClean k Wd=Z WG/\mv k WG Wk Wd.toList:=by
 have d:mv k (Array.replicate (k+1) Y) [] []:=by
  refine⟨Array.size_replicate,rfl,gU,λ_ c=>(hi c).elim,λi n=>⟨λa=>?_,λa=>?_⟩,λ_ c=>(hi c).elim⟩
  ·have:=(qV.mp a).2;rw[Array.getElem_replicate]at this;cases this
  ·simp at a
 let⟨WG,@Wk,e,H⟩:=Ig L Wd.toList [] _ _ d (by rw[pw,eb];exact b);refine⟨WG,Wk,?_,H⟩;unfold aX.layClean;rw[<-Array.foldl_toList];exact congrArg (Option.map (·.1)) e
def NU{q:Nat×Nat}:q∈(range<|k+1).filterMap (λi=>(WG.getD i Y).map (i,·))↔q.1<=k/\WG[q.1]?=Z (Z q.2):=by
 rw[uO];constructor
 ·rintro⟨i,A,E⟩;let⟨@n,b,rfl⟩:=cU.mp E;refine⟨tV<|fI.mp A,?_⟩;show WG[i]?=Z (Z n);by_cases a:i<WG.size
  ·rw[show WG.getD i Y=WG[i] by simp[Array.getD,a]]at b;rw[pl a,b]
  ·rw[show WG.getD i Y=Y by simp[Array.getD,a]]at b;cases b
 ·rintro⟨A,E⟩;refine⟨q.1,fI.mpr<|Cu A,?_⟩;let⟨@a,e⟩:=qV.mp E;rw[show WG.getD q.1 Y=WG[q.1] by simp[Array.getD,a],e];rfl
theorem Jp{Ww W_:Type}:∀{t:List (Ww×W_)},(t.map (·.1)).Nodup->(∀g∈t,∀d∈t,g.2=d.2->g.1=d.1)->(t.map (·.2)).Nodup
 |[],_,_=>gU
 |f::t,c,a=>by
  rw[cS]at c ⊢;have U:=iw.mp c;refine iw.mpr ⟨λh=>?_,Jp U.2 λg i d j=>a g (.tail _ i) d<|.tail _ j⟩;let⟨@C,b,e⟩:=cn.mp h;have:=a C (.tail _ b) f (.head _) e;exact U.1 (by rw[<-this];exact CT b)
theorem JN{Ww W_ Xs:Type}(x:Ww->W_)(L:Ww->Xs):∀t:List Ww,(t.map x).zip (t.map L)=t.map λf=>(x f,L f)
 |[]=>rfl
 |f::t=>congrArg (_::·) (JN x L t)
def Tr{l:Nat}(L:jt (aX.sizeAbove l-1))(z:V_.size*5<(aX.sizeAbove l-1)*3){b:Bool}(n:B.led=b):
  ∃WJ u,B.relaid (V_.map (·.1)) l=Z (WJ,u)/\u.toList.Perm (range V_.size)/\lz WJ b/\p4 WJ ((u.filterMap (V_[·]?)).toList.map (·.1)):=by
 let⟨WG,@Wk,e,H⟩:=zR L (V_.map (·.1)) (by rw[xY];lia);generalize C:aX.sizeAbove l-1=k at *;have r:B.relaid (V_.map (·.1)) l=Z ({mask:=k,place:=(((range<|k+1).filterMap λi=>(WG.getD i Y).map (i,·)).map (·.1)).toArray,dummies:=#[],finger:=B.finger,led:=B.led,moves:=B.movedTo k,plain:=B.plain},(((range<|k+1).filterMap λi=>(WG.getD i Y).map (i,·)).map (·.2)).toArray):=by
  unfold aX.relaid aX.laid;rw[C,e];rfl
 have j:=λ(q:Nat×Nat)=>NU (k:=k) (WG:=WG) (q:=q);have s:(((range<|k+1).filterMap λi=>(WG.getD i Y).map (i,·)).map (·.1)).Pairwise (· < ·):=by
  have:=(OQ (B:=_) (o:=_) r);exact this.rise
 generalize D:(range<|k+1).filterMap (λi=>(WG.getD i Y).map (i,·))=Wj at r j s;have Wq:∀q∈Wj,Wk[q.2]?=Z q.1:=λq h=>(H.own _ _).mp ((j q).mp h).2;have lt:∀q∈Wj,q.2<V_.size:=λq h=>by
  have:=(gk.mp<|Wq q h).1;rw[H.len,eb,xY]at this;exact this
 have v:(Wj.map (·.1)).Nodup:=s.imp λc=>dP c;have w:(Wj.map (·.2)).Nodup:=Jp v λg F d G e=>by
  have A:=Wq g F;have E:=Wq d G;rw[e]at A;exact Option.some.inj (A.symm.trans E)
 have perm:(Wj.map (·.2)).Perm (range V_.size):=by
  refine (Fi w w5).mpr λf=>?_;rw[fI];constructor
  ·intro c;let⟨@q,h,rfl⟩:=cn.mp c;exact lt q h
  ·intro c;have m:f<Wk.length:=by rw[H.len,eb,xY];exact c
   have A:Wk[f]?=Z Wk[f]:=eB m;exact cn.mpr ⟨(Wk[f],f),(j _).mpr ⟨H.le _<|w9 m,(H.own _ _).mpr A⟩,rfl⟩
 have x:Wj.length=V_.size:=by
  have:=perm.length_eq
  rwa [aZ,hR]at this
 have y:((Wj.map (·.2)).filterMap (V_[·]?)).map (·.1)=Wj.map λq=>(V_.getD q.2 (0,.none)).1:=by
  clear j s Wq v w perm x r D;induction Wj with
  |nil=>rfl
  |cons q Wj I=>
   have h:=lt q (.head _);rw[cS,List.filterMap_cons_some<|pl h,cS,cS,I λp t=>lt p<|.tail _ t];congr 1;simp[Array.getD,h]
 refine⟨_,_,r,?_,⟨?_,rfl,n⟩,⟨L,?_,?_,?_,?_⟩⟩
 ·exact perm
 ·exact s
 ·rw[Ba];show (Wj.map (·.1)).toArray.size=(((Wj.map (·.2)).filterMap (V_[·]?)).map (·.1)).length;rw[y,cV,aZ,aZ]
 ·show (Wj.map (·.1)).toArray.size*5<k*3;rw[cV,aZ,x];exact z
 ·intro i J;let⟨@q,h,rfl⟩:=cn.mp J;exact ((j q).mp h).1
 ·rw[Ba];show ∀q∈(Wj.map (·.1)).zip (((Wj.map (·.2)).filterMap (V_[·]?)).map (·.1)),mA k (·∈Wj.map (·.1)) q.2 q.1;rw[y,JN];intro q h;let⟨@p,t,rfl⟩:=cn.mp h;have A:=Wq p t;have E:((V_.map (·.1)).toList)[p.2]?=Z (V_.getD p.2 (0,.none)).1:=by
   have:=lt p t;rw[fD,Array.getElem?_map,pl this];simp[Array.getD,this]
  have M:(p.1,(V_.getD p.2 (0,.none)).1)∈Wk.zip (V_.map (·.1)).toList:=by
   refine fH (i:=p.2) ?_;rw[uI];exact⟨A,E⟩
  refine (H.o5 _ M).mono λf m=>?_;let⟨@n,N⟩:=vm m;exact cn.mpr ⟨(f,n),(j _).mpr ⟨H.le f m,(H.own _ _).mpr N⟩,rfl⟩
def O8(L:jt k)(A:r*5<k*3)(E:(r+1)*5 >= k*3)(a:r+1<=300):jt (aX.sizeAbove (aX.grown<|r+1)-1)/\(r+1)*5<(aX.sizeAbove (aX.grown<|r+1)-1)*3/\aX.sizeAbove (aX.grown<|r+1)<=512:=by
 rcases L with rfl|rfl|rfl|rfl
 ·rw[show r=4 by lia];exact⟨.inr (.inl ∅),by decide,by decide⟩
 ·rw[show r=18 by lia];exact⟨.inr (.inr (.inl ∅)),by decide,by decide⟩
 ·rw[show r=76 by lia];exact⟨.inr (.inr (.inr ∅)),by decide,by decide⟩
 ·lia
section
variable{Wf:bS}{l:bA}
theorem B9:∀(r:Nat) {P:bH}{Wa:ag->au->Prop}{j:au}{s:ae}{v:ag}{G:Bool->au->Prop},ae.key r s=aa->eg j.heap s v->(∀d,G d j)->wpAny (aV Wf l) P (wO r v) G Wa j
 |r,P,Wa,j,.int a,v,G,_,b,c=>by
  let⟨@B,rfl⟩:=b;rw[show wO r (.int a B)=pure aa from by cases r<;>rfl];exact aU (c _)
 |r,P,Wa,j,.str a,v,G,_,b,c=>by
  let⟨@B,rfl⟩:=b;rw[show wO r (.str a B)=pure aw from by cases r<;>rfl];exact aU (c _)
 |r+1,P,Wa,j,.tup I,v,G,n,b,c=>by
  let⟨g,o,Wr,@k,rfl,h,m,hd,S⟩:=b;have p:j.TypeIs (.ref g) "tuple" := ⟨o,h,m⟩;unfold wO;refine aA (od p sC.lookup ?_);show wpAny _ _ (qq (.ref g) >>= _) _ _ j;refine aA (i2 h hd ?_);refine aA ?_;show wpAny _ _ (forIn Wr _ _) _ _ j;rw[<-vq];rw[ae.key]at n;refine ot _ (λdx u V9=>V9=j/\∃left,ae.keys r left=aa/\el j.heap left dx) _ ?_ ?_ _ _ ⟨rfl,I,n,S⟩
  ·rintro v dx u V9 ⟨rfl,left,f,i⟩;cases left with
   |nil=>cases (show v::dx=[] from i)
   |cons s left=>
    let⟨w,@W3,e,A,q⟩:=i;cases e;rw[ae.keys,cy]at f;refine aA (B9 r f.1 A λd=>?_);cases d
    ·show wpAny _ _ (pure<|ForInStep.done _) _ _ _;exact aU (aU<|c _)
    ·show wpAny _ _ (pure<|ForInStep.yield _) _ _ _;exact aU ⟨rfl,left,f.2,q⟩
  ·rintro⟨t,x⟩ V9 ⟨rfl,W⟩;cases t with
   |none=>exact aU (c _)
   |some d=>exact aU (c _)
 |_,_,_,_,.a6,_,_,n,_,_=>by cases ‹Nat›<;>cases n
 |_,_,_,_,.ay _,_,_,n,_,_=>by cases ‹Nat›<;>cases n
 |_,_,_,_,.fn _,_,_,n,_,_=>by cases ‹Nat›<;>cases n
 |_,_,_,_,.aW _,_,_,n,_,_=>by cases ‹Nat›<;>cases n
 |_,_,_,_,.fd,_,_,n,_,_=>by cases ‹Nat›<;>cases n
 |0,_,_,_,.tup _,_,_,n,_,_=>by cases n
theorem yS:∀(r:Nat) {P:bH}{Wa:ag->au->Prop}{j:au}{s:ae}{v:ag}{G:Bool->au->Prop},ae.key r s=aa->eg j.heap s v->G aw j->wpAny (aV Wf l) P (wy r v) G Wa j
 |r,P,Wa,j,.int a,v,G,_,b,c=>by
  let⟨@B,rfl⟩:=b;rw[show wy r (.int a B)=pure aw from by cases r<;>rfl];exact aU c
 |r,P,Wa,j,.str a,v,G,_,b,c=>by
  let⟨@B,rfl⟩:=b;rw[show wy r (.str a B)=pure aw from by cases r<;>rfl];exact aU c
 |r+1,P,Wa,j,.tup I,v,G,n,b,c=>by
  let⟨g,o,Wr,@k,rfl,h,m,hd,S⟩:=b;have p:j.TypeIs (.ref g) "tuple" := ⟨o,h,m⟩;unfold wy;refine aA (wpAny_typeOf p ?_);dsimp only;rw[aJ (show ("tuple" == "tuple")=aa by decide)];refine aA (aU ?_);simp only[qx,hJ,gf];refine aA (i2 h hd ?_);dsimp only;refine aA ?_;show wpAny _ _ (forIn Wr _ _) _ _ j;rw[<-vq];rw[ae.key]at n;refine ot _ (λdx u V9=>u.1=Y/\V9=j/\∃left,ae.keys r left=aa/\el j.heap left dx) _ ?_ ?_ _ _ ⟨rfl,rfl,I,n,S⟩
  ·rintro v dx u V9 ⟨d,rfl,left,f,i⟩;cases left with
   |nil=>cases (show v::dx=[] from i)
   |cons s left=>
    let⟨t,@W3,e,A,q⟩:=i;cases e;rw[ae.keys,cy]at f;refine aA (yS r f.1 A ?_);simp only[hJ,gf];exact aU ⟨rfl,rfl,left,f.2,q⟩
  ·rintro⟨w,x⟩ V9 ⟨d,rfl,W⟩;simp only at d;subst d;exact aU c
 |_,_,_,_,.a6,_,_,n,_,_=>by cases ‹Nat›<;>cases n
 |_,_,_,_,.ay _,_,_,n,_,_=>by cases ‹Nat›<;>cases n
 |_,_,_,_,.fn _,_,_,n,_,_=>by cases ‹Nat›<;>cases n
 |_,_,_,_,.aW _,_,_,n,_,_=>by cases ‹Nat›<;>cases n
 |_,_,_,_,.fd,_,_,n,_,_=>by cases ‹Nat›<;>cases n
 |0,_,_,_,.tup _,_,_,n,_,_=>by cases n
def Q_{P:bH}{Wa:ag->au->Prop}(b:(e7 Wf l).is j.heap n f){V7:List ag}(g:∀v∈V7,∃d a,v=.ref d/\(e7 Wf l).is j.heap a d)(c:G aw j):
  wpAny (aV Wf l) P (Jk (.ref f) V7) G Wa j:=by
 unfold Jk;refine aA ?_;refine ot _ (λdx u V9=>u.1=Y/\V9=j/\∀v∈dx,∃d a,v=.ref d/\(e7 Wf l).is j.heap a d) _ ?_ ?_ _ _ ⟨rfl,rfl,g⟩
 ·rintro v dx u V9 ⟨h,rfl,i⟩;let⟨d,@a,rfl,e⟩:=i v (.head _);have k:∀v∈dx,∃d a,v=.ref d/\(e7 Wf l).is V9.heap a d:=λv g=>i v (.tail _ g);dsimp only;cases o:(f==d) with
  |true=>
   simp only[E2,iu];exact aU ⟨rfl,rfl,k⟩
  |false=>
   simp only[E1];rw[aP (show ¬ ((EE (ag.ref f)&&EE (ag.ref d))=aa) from λm=>dz m)];refine aA (uY 8 (s:=.tup _) b.1 b.2 ?_);simp only[qx,hJ,gf];refine aA (uY 8 (s:=.tup _) e.1 e.2 ?_);simp only[qx,hJ,gf];refine aA (yS 8 (s:=.tup _) b.1 b.2 ?_);simp only[hJ,gf];refine aA (yS 8 (s:=.tup _) e.1 e.2 ?_);simp only[hJ,gf];exact aU ⟨rfl,rfl,k⟩
 ·rintro⟨p,q⟩ V9 ⟨h,rfl,W⟩;simp only at h;subst h;exact aU c
end
section
variable(l:bA)(T:List ae->aj->Prop)
def Ao(a:List ae×Int×ag):Prop:=(∃d,a.2.2=.ref d/\a.2.1=d8 l (.tup a.1)/\T a.1 d)
structure mB(V_:Array (Int×ag))(B:aX)(b:Bool)(Wg:List (List ae)):Prop where
 tZ:∃Q:List (List ae×Int×ag),Q.map (·.2)=V_.toList/\(Q.map (·.1)).Perm Wg/\∀z∈Q,Ao l T z
 tab:lz B b
 br:p4 B (V_.toList.map (·.1))
 ao:Wg.Nodup
def hH(c:a_)(g:aj)(b:Bool)(Wg:List (List ae)):Prop:=(∃o V_ W2 B,c.get? g=Z o/\o.ExactSet/\o.data=.set V_ W2 B/\mB l T V_ B b Wg)
end
section
variable{Wf:bS}{l:bA}{T:List ae->aj->Prop}{P:bH}{Wa:ag->au->Prop}
def mB.size(y:mB l T V_ B b Wg):B.place.size=V_.size:=by
 rw[y.br.len,aZ,eb]
def mB.fit(y:mB l T V_ B b Wg):B.fits V_.size=aa:=by
 have:=y.br.loose;unfold aX.fits aX.fill;rw[y.tab.q0,y.size,cy,t4,fF];rw[y.size]at this;exact⟨rfl,by show V_.size+0<=_;lia⟩
def mB.num(y:mB l T V_ B b Wg):V_.size=Wg.length:=by
 let⟨@Q,A,E,W⟩:=y.tZ;rw[<-E.length_eq,aZ,<-eb,<-A,aZ]
def G8(u:kJ w){a b i:Nat}(g:w[a]?=Z i)(d:w[b]?=Z i):a=b:=by
 rw[<-BH u g,<-BH u d]
def Ng{aF:ig}{h:Bool}{k:er Bool}{J u:er Ww}{G:Ww->au->Prop}(A:∀a:Bool->au->Prop,a aw j->wpAny aF P k a Wa j)(E:wpAny aF P u G Wa j):
  wpAny aF P (if h=aa then (do let d <-k;if d=aa then J else u) else u) G Wa j:=by
 cases h
 ·rw[aP dz];exact E
 ·rw[aJ rfl];refine aA (A _ ?_);rw[aP dz];exact E
theorem F8{g f:aj}{n:List ae}{b:Bool}{Wg:List (List ae)}{o:bk}{V_:Array (Int×ag)}{W2:Nat}{B:aX}{j:au}{G:SetFound->au->Prop}{Q:List (List ae×Int×ag)}(ca:P.units+20<b3)(H:j.heap.get? g=Z o)(hd:o.data=.set V_ W2 B)(y:mB l T V_ B b Wg)(I:(e7 Wf l).is j.heap n f)(J:∀p d,T p d->(e7 Wf l).is j.heap p d)(x:Q.map (·.2)=V_.toList)(M:(Q.map (·.1)).Perm Wg)(N:∀z∈Q,Ao l T z)(as:n∈Wg->G (.there Y) j)(a1:n∉Wg->∀R,(cI B.mask (d8 l<|.tup n) R).j∉B.place.toList->(∀c,c<R->(cI B.mask (d8 l<|.tup n) c).j∈B.place.toList)->G (.free (cI B.mask (d8 l<|.tup n) R).j aw) j){r:Nat}(C:(cI B.mask (d8 l<|.tup n) r).j∉B.place.toList)(cd:r<10*aX.turns B.mask):
  ∀(fuel h:Nat) (O:Option aX.Probe),O.getD (B.probeStart<|d8 l<|.tup n)=cI B.mask (d8 l<|.tup n) h->r<h+fuel->(∀c,c<h->(cI B.mask (d8 l<|.tup n) c).j∈B.place.toList)->
   (∀(a c:Nat),c<h->B.place[a]?=Z (cI B.mask (d8 l<|.tup n) c).j->(Q.map (·.1))[a]?≠Z n)->
   wpAny (aV Wf l) P (HN g (.ref f) (d8 l<|.tup n) aa fuel O) G Wa j
 |0,h,O,_,ce,D,_=>by
  refine absurd (D r ⋯) C
 |fuel+1,h,O,ch,ce,D,Wd=>by
  have ci:h<=r:=by
   rcases gv r h with z|z
   ·exact absurd (D r z) C
   ·exact z
  have cl:Q.length=V_.size:=by rw[<-eb,<-x,aZ]
  have U:∀(a:Nat) (p:List ae),(Q.map (·.1))[a]?=Z p->∃e d,V_[a]?=Z e/\e.2=.ref d/\e.1=d8 l (.tup p)/\(e7 Wf l).is j.heap p d:=λa p k=>by
   let⟨@z,a2,al⟩:=cU.mp (by rw[fp]at k;exact k);let⟨@d,m,s,u⟩:=N z (fH a2);subst al;refine⟨z.2,d,?_,m,s,J _ _ u⟩;rw[<-fD,<-x,fp,a2];rfl
  unfold HN;refine aA (r7 H hd y.fit ?_);dsimp only;rw[aP (by unfold aX.gaveWay;rw[t4];have:=y.br.nu.pos;lia)];rw[ch];unfold aX.probe;let⟨@WD,f0,bd,co⟩:=Ct y.tab.rise y.tab.q0 (λa=>(V_[a]?.map (·.1)).getD 0) (d8 l<|.tup n) (10*aX.turns B.mask) h ⟨r,ci,⋯,C⟩;have jf:∀c,c<WD->(cI B.mask (d8 l<|.tup n) c).j∈B.place.toList:=λc w=>by
   rcases gv c h with z|z
   ·exact D c z
   ·let⟨@a,A,W⟩:=bd c z w;rw[<-fD]at A;exact fH A
  have be:∀(a c:Nat),c<WD->B.place[a]?=Z (cI B.mask (d8 l<|.tup n) c).j->(Q.map (·.1))[a]?≠Z n:=λa c w q k=>by
   rcases gv c h with z|z
   ·exact Wd a c z q k
   ·let⟨@bi,A,E⟩:=bd c z w;have:=G8 y.tab.rise q A;subst this;let⟨e,@d,m,u,s,am⟩:=U a n k;rw[m]at E;exact E s
  generalize bm:aX.probe.go B _ (d8 l<|.tup n) _ (cI B.mask (d8 l<|.tup n) h)=L;rcases co with ⟨e,an⟩|⟨a,e,al,F,f1⟩
  ·cases bm.symm.trans e;refine aU (a1 (λcr=>?_) WD an jf);have cs:=M.mem_iff.mpr cr;let⟨@a,S⟩:=vm cs;let⟨e,@d,m,u,s,am⟩:=U a n S;have t:a<V_.size:=(qV.mp m).1;have q:B.place[a]?=Z (B.place[a]'(by rw[y.size];exact t)):=pl (by rw[y.size];exact t);have db:(B.place[a]'(by rw[y.size];exact t),d8 l<|.tup n)∈B.place.toList.zip (V_.toList.map (·.1)):=by
    refine fH (i:=a) ?_;rw[uI];refine⟨by rw[fD];exact q,?_⟩;rw[fp,fD,m,<-s];rfl
   let⟨@ap,bn,ds⟩:=y.br.o5 _ db;have dL:ap<WD:=by
    rcases oN ap WD with z|z|z
    ·exact z
    ·refine absurd ?_ an;rw[<-z,bn];exact Array.getElem_mem_toList ..
    ·exact absurd (ds WD z) an
   exact be a ap dL (by rw[q,bn]) S
  ·cases bm.symm.trans e;have t:a<Q.length:=by rw[cl,<-y.size];exact (qV.mp F).1
   have bs:(Q.map (·.1))[a]?=Z Q[a].1:=by rw[fp,eB t];rfl
   let⟨eq,@d,m,u,s,am⟩:=U a _ bs;dsimp only;refine Ng (λf2 p=>Q_ I (λv ev=>?_) p) ?_
   ·let⟨@ex,fd,rfl⟩:=cn.mp ev;have bv:ex∈V_.toList:=JJ.mpr (Array.mem_filter.mp<|JJ.mp fd).1;rw[<-x]at bv;let⟨@z,fn,rfl⟩:=cn.mp bv;let⟨@fr,WY,W,WZ⟩:=N z fn;exact⟨fr,z.1,WY,J _ _ WZ⟩
   ·let⟨f4,vB⟩:=eq;cases u;rw[m];dsimp only;refine aA (fK ((e7 Wf l).eqBool (show P.units+10<b3 by lia) am I ?_));refine aA (r7 H hd y.fit ?_);by_cases k:Q[a].1=n
    ·rw[c1 k,aJ<|show (aa&&aa)=aa from rfl];exact aU (as (M.mem_iff.mp (by rw[<-k];exact CT (w9 t))))
    ·rw[cW k,aP ∅];dsimp only;rw[show B.sameMemory B.moves B.mask=Z aa by unfold aX.sameMemory;rw[aJ (my _)]];dsimp only;rw[aJ rfl,al];dsimp only;rw[m];dsimp only;refine aA (wpAny_isSame_ref_self<|aA<|aU ?_);rw[aJ rfl];dsimp only;rw[aP dz];refine F8 ca H hd y I J x M N as a1 C cd fuel (WD+1) _ rfl ⋯ (λc w=>?_) λbi c w q=>?_
     ·rcases gv c WD with z|z
      ·exact jf c z
      ·rw[show c=WD by lia];rw[<-fD]at F;exact fH F
     ·rcases gv c WD with z|z
      ·exact be bi c z q
      ·rw[show c=WD by lia]at q;have:=G8 y.tab.rise q F;subst this;rw[bs];exact λe=>k (Option.some.inj e)
end
def hI(Wg:List (List ae))(n:List ae):List (List ae):=(if n∈Wg then Wg else Wg++[n])
section
variable{Wf:bS}{l:bA}{T:List ae->aj->Prop}{P:bH}{Wa:ag->au->Prop}{j:au}
structure qP(l:bA)(T:List ae->aj->Prop)(V_:Array (Int×ag))(B:aX)(b:Bool)(Wg:List (List ae))(r:Nat):Prop where
 tZ:∃Q:List (List ae×Int×ag),Q.map (·.2)=V_.toList/\(Q.map (·.1)).Perm Wg/\∀z∈Q,Ao l T z
 tab:lz B b
 nu:jt B.mask
 len:B.place.size=V_.size
 le:∀i∈B.place.toList,i<=B.mask
 o5:∀q∈B.place.toList.zip (V_.toList.map (·.1)),mA B.mask (·∈B.place.toList) q.2 q.1
 ao:Wg.Nodup
 iA:V_.size=r+1
 GJ:r*5<B.mask*3
def qP.ei(y:qP l T V_ B b Wg r):B.fits V_.size=aa:=by
 have:=y.GJ;have:=y.nu.pos;unfold aX.fits aX.fill;rw[y.tab.q0,y.len,y.iA,cy,t4,fF];exact⟨rfl,by show r+1+0<=_;lia⟩
def qP.done(y:qP l T V_ B b Wg r)(a:¬ ((r+1)*5 >= B.mask*3)):mB l T V_ B b Wg:=
 ⟨y.tZ,y.tab,⟨y.nu,by rw[y.len,aZ,eb],by rw[y.len,y.iA];lia,y.le,y.o5⟩,y.ao⟩
def Gd{a:Array (Int×ag)}{WJ:aX}(b:c.get? g=Z o)(hd:o.data=.set V_ W2 B):
  (c.update g<|bk.putSet a WJ).get? g=Z {o with data:=.set a (W2+1) WJ}:=by
 have:=pJ (bk.putSet a WJ) b (by rw[putSet_of a WJ hd];rfl);rw[putSet_of a WJ hd]at this;exact this
theorem zB{Ww W_:Type}(x:Ww->W_)(t:List Ww)(k:List W_)(b:t.map x=k):∀is:List Nat,(is.filterMap (t[·]?)).map x=is.filterMap (k[·]?)
 |[]=>rfl
 |a::is=>by
  subst b;rw[pf,pf,fp];cases t[a]? with
  |none=>exact zB x t _ rfl is
  |some f=>exact congrArg (x f::·) (zB x t _ rfl is)
def Cv(t:List Ww):(range t.length).filterMap (t[·]?)=t:=by
 have:=filterMap_getElem?_range t.toArray;simpa using this
def zd{V_ d:Array (Int × ag)}{f:aX}{Wb:Bool -> au -> Prop}(q:j.heap.get? g=Z o)(s:o.ExactSet)(hd:o.data=.set V_ W2 B)(A:V_.size=r)(n:r+1 <= 300)(y:qP l T d f b Wg r)(c : ∀U,a_.SameBut g j.heap U -> hH l T U g b Wg -> Wb aa {j with heap:=U}):
    wpAny (aV Wf l) P (do
        storeSet g d f
        if (!aw&&f.tooFull)=aa then do
            setRelay g (aX.grown<|V_.size+1)
            pure aa
          else pure aa) Wb Wa j:=by
  refine aA (IT q hd ?_ (by rw [y.iA]; exact fu n ∅));have i:=Gd (a:=d) (WJ:=f) q hd;have t:=pH j.heap g (bk.putSet d f);have u:f.tooFull=decide ((r+1)*5 >= f.mask*3):=by
    unfold aX.tooFull aX.fill;rw [y.tab.q0,y.len,y.iA];rfl
  by_cases m:(r+1)*5 >= f.mask*3
  · rw [u,c1 m,aJ<|show (!aw&&aa)=aa from rfl]
    let@⟨C,D,E⟩:=O8 y.nu y.GJ m n;unfold setRelay;refine aA (aA<|r7 i rfl y.ei ?_);dsimp only;rw [A,aP (λp => absurd (gm p E) ∅)];let⟨WJ, @h,F,v,G,H⟩:=Tr (B:=f) (V_:=d) (l:=aX.grown (r+1)) C (by rw [y.iA]; exact D) y.tab.led;rw [F];have w:(h.filterMap (d[·]?)).toList=h.toList.filterMap (d.toList[·]?):=by
      rw [Ba];simp
    have I:(h.filterMap (d[·]?)).toList.Perm d.toList:=by
      rw [w];refine (v.filterMap _).trans ?_;rw [<-eb,Cv]
    have x:(h.filterMap (d[·]?)).size=d.size:=by rw [<-eb,I.length_eq,eb]
    refine aA (m:=if ((h.filterMap (d[·]?)).size != d.size)=aa then _ else _) ?_;rw [x,aP ↥0];refine aU ?_;dsimp only;refine IT i rfl ?_ (by rw [x,y.iA]; exact fu n ∅);refine aU (c _ (t.trans<|pH _ g _) ⟨_,_,_,_,Gd i rfl,s,rfl, ?_,G,H,y.ao⟩);let⟨@Q,z,J,L⟩:=y.tZ;refine ⟨h.toList.filterMap (Q[·]?), ?_, ?_,λp M => ?_⟩
    · rw [w]
      exact zB (·.2) Q _ z _
    · refine (yF _ ?_).trans J
      refine (v.filterMap _).trans ?_;rw [show d.size=Q.length by rw [<-eb, <-z,aZ],Cv]
    · let⟨@a,W,e⟩:=uO.mp M
      exact L p (fH e)
  · rw [u,cW m,aP (show ¬ ((!aw&&aw)=aa) from by decide)]
    refine aU (c _ t ⟨_,_,_,_,i,s,rfl,y.done m⟩)
def Np(J:P.units+20<b3)(Wo:hH l T j.heap g b Wg)(u:(e7 Wf l).is j.heap n f)(L:T n f)(M:∀p d,T p d->(e7 Wf l).is j.heap p d)(N:Wg.length+1<=300)(c:∀d U,a_.SameBut g j.heap U->hH l T U g b (hI Wg n)->G d {j with heap:=U}):
  wpAny (aV Wf l) P (setAddHashed g (.ref f)<|d8 l<|.tup n) G Wa j:=by
 let⟨o,V_,W2,@B,m,r,hd,y⟩:=Wo;have bd:=y;let⟨@Q,A,D,E⟩:=y.tZ;let⟨@be,F,O⟩:=y.br.some (d8 l<|.tup n);have bi:=y.br.nu.pos;unfold setAddHashed setAddHashedIn;refine fK (aA<|r7 m hd y.fit ?_);dsimp only;rw[aP (show ¬ (byScan (ag.ref f) V_=aa) from λh=>dz h)];unfold setSearch;refine aA (F8 J m hd y u M A D E (λt=>?_) (λt k H R=>?_) O F 100000 0 Y rfl (by unfold aX.turns at F;lia) (λS h=>absurd h<|vH _) λa S h=>absurd h<|vH _)
 ·refine aU ?_;have e:j={j with heap:=j.heap}:=by cases j;rfl
  rw[e];refine c _ _ (a_.SameBut.refl g j.heap) ?_;rw[hI,aJ t];exact⟨o,V_,W2,B,m,r,hd,y⟩
 ·dsimp only;refine aA (r7 m hd y.fit ?_);dsimp only;let@⟨al,W4⟩:=y.br.put (c:=d8 l (.tup n)) H R;have am:¬ (B.place[aX.below B.place (cI B.mask (d8 l<|.tup n) k).j]?=Z (cI B.mask (d8 l<|.tup n) k).j):=λh=>H (by rw[<-fD]at h;exact fH h);have an:=y.tab.put am;have v:∀d:Bool,qP l T (aX.insertAt V_ (B.put (cI B.mask (d8 l<|.tup n) k).j).2 (d8 l<|.tup n,.ref f)) { (B.put (cI B.mask (d8 l<|.tup n) k).j).1 with plain:=d} b (Wg++[n]) V_.size:=λd=>by
   have w:(aX.insertAt V_ (B.put (cI B.mask (d8 l<|.tup n) k).j).2 (d8 l<|.tup n,ag.ref f)).toList=_:=xE _ _ _;have ap:(B.put (cI B.mask (d8 l<|.tup n) k).j).1.place.toList=_:=xE _ _ _;have I:(aX.insertAt V_ (B.put (cI B.mask (d8 l<|.tup n) k).j).2 (d8 l<|.tup n,ag.ref f)).size=V_.size+1:=by
    rw[<-eb,w,b_,dm,gK,f9,eb];lia
   refine⟨⟨Q.take (B.put (cI B.mask (d8 l<|.tup n) k).j).2++(n,d8 l<|.tup n,.ref f)::Q.drop (B.put (cI B.mask (d8 l<|.tup n) k).j).2,?_,?_,λh q=>?_⟩,an.Pw d,y.br.nu,?_,al,?_,?_,I,?_⟩
   ·rw[w,<-A,d9,cS,kF,jE]
   ·rw[d9,cS,kF,jE];refine List.perm_middle.trans ?_;rw[gi];exact (D.cons n).trans (dW (l₁:=[n]))
   ·rcases rU.mp q with rfl|q
    ·exact⟨f,rfl,rfl,L⟩
    ·exact E h q
   ·show (B.put (cI B.mask (d8 l<|.tup n) k).j).1.place.size=_;rw[I,<-eb,ap,b_,dm,gK,f9,eb,y.size];lia
   ·rw[w,d9,cS,kF,jE];exact W4
   ·exact dD.mpr ⟨y.ao,e9 _ n,λC as h q=>by cases cM.mp q;exact λe=>t<|e ▸ as⟩
   ·have:=y.br.loose;rw[y.size]at this;exact this
  have x:∀U,a_.SameBut g j.heap U->hH l T U g b (Wg++[n])->G aa {j with heap:=U}:=λU a1 a2=>c aa U a1 (by rw[hI,aP t];exact a2);have z:V_.size+1<=300:=by rw[y.num];exact N
  split
  ·refine aA (B9 8 (s:=.tup n) u.1 u.2 λd=>?_);cases d
   ·exact zd m r hd rfl z (v aw) x
   ·exact zd m r hd rfl z (v _) x
  ·refine aA (aU ?_);exact zd m r hd rfl z (v _) x
end
def lT(l:bA):Bool:=(!l.params.followText "set-order")
def m2(b:Bool):bk:=({cls:=.type "set",dict:=Y,data:=.set #[] 0 (.fresh 0 0 b)})
section
variable{Wf:bS}{l:bA}{P:bH}{Wa:ag->au->Prop}{j:au}
def J6(g:ag){a:ag->au->Prop}(c:a (.ref j.heap.objs.size) {j with heap:=j.heap.push (m2<|lT l)}):
  codeAny (aV Wf l) P (.call (.builtin "set.__new__") ⟨[.type "set",g],[]⟩) (wants a Wa) j:=by
 refine yN ?_;show wpAny _ P.in1 (do E_ "set.__new__" ⟨[.type "set",g],[]⟩;again (.builtin "set.__new__" ⟨[.type "set",g],[]⟩)) _ _ j;refine aA (ta (PySem.F.newCall_set_1 g)<|aU ⟨kG FA _,kz PySem.F.entry_set_new ?_⟩);rw[kP FA _];unfold bl.«set.__new__» bl.Frozenset.newClass;have b:=sub_set_self;let⟨d,L,s,WN,Q⟩:=j;dsimp only
 wp_walk
 refine wpAny_askSetting (aU ?_);dsimp only;simp only[newObj];refine aA (wpAny_alloc<|aU ?_);exact aU c
end
def jZ(val:Nat->List ae):Nat->List (List ae)
 |0=>[]
 |a+1=>hI (jZ val a) (val a)
def hH.fresh(b:Bool):hH l T (c.push<|m2 b) c.objs.size b []:=
 ⟨_,#[],0,_,d4 _ rfl,⟨rfl,rfl,rfl⟩,rfl,⟨[],rfl,.nil,λf a=>(hi a).elim⟩,⟨List.Pairwise.nil,rfl,rfl⟩,⟨.inl rfl,rfl,show 0*5<7*3 by decide,λi d=>(hi d).elim,λq e=>(hi e).elim⟩,gU⟩
def hH.at{U:a_}(Wo:hH l T c g b Wg)(n:∀o,c.get? g=Z o->U.get? g=Z o):hH l T U g b Wg:=by
 let⟨o,V_,W2,@B,a,u⟩:=Wo;exact⟨o,V_,W2,B,n o a,u⟩
section
variable{Wf:bS}{l:bA}{T:List ae->aj->Prop}{P:bH}{Wa:ag->au->Prop}{j:au}
def TA{Wb:qn->au->Prop}{H Wo:aj}{bL C:List aj}{G:Nat->ag->Prop}{a9:Nat->a_->Prop}{i:a_}(bn:P.units+25<b3)(W:mf Wf l P.in1 H bL C r G a9)(I:Wo∉bL)(val:Nat->List ae)(Q:∀a v,G a v->∃d,v=.ref d/\T (val a) d)(L:∀p d,T p d->(e7 Wf l).is i p d)(g:∀d o,i.get? d=Z o->d∉C)(R:∀J Wr k,i.get? Wo=Z J->J.data=.seq Wr k->False)(al:∀a,a<r->(jZ val a).length+1<=300):
  ∀(n a:Nat) (j:au),r-a=n->a<=r->xp i j.heap->a9 a j.heap->hH l T j.heap Wo b (jZ val a)->
   (∀U WN,(∀d o,d≠Wo->d∉C->j.heap.get? d=Z o->U.get? d=Z o)->hH l T U Wo b (jZ val r)->Wb (.ok<|.ret .none) {j with heap:=U,toks:=WN})->
   codeAny (aV Wf l) P (.builtin "set.update.loop" ⟨[.ref Wo,.ref H],[]⟩) Wb j:=by
 have M:Wo∉C:=λc=>I (W.sub _ c);intro n;induction n with
 |zero=>
  intro a j am S F t u w;have an:a=r:=⋯
  subst an;refine kz FR ?_;rw[kP zM _];show wpAny _ P.in1 (h1 (.ref H) >>= _) _ _ j;refine aA (W.done j _ _ t λU WN h=>?_);show wpAny _ P.in1 (ret ag.none) _ _ _;exact aU (w U WN (λd o V g e=>h d o g e)<|u.at λo e=>h Wo o M e)
 |succ n ap=>
  intro a j am S F t u w;have x:a<r:=⋯
  refine kz FR ?_;rw[kP zM _];show wpAny _ P.in1 (h1 (.ref H) >>= _) _ _ j;refine aA (W.item a j _ _ x t λv A bs as a1 h=>?_);let⟨@f,rfl,y⟩:=Q a v as;have N:xp i A:=λd o Wr k m z q=>h d o (g d o m) (F d o Wr k m z q);have B:∀p d,T p d->(e7 Wf l).is A p d:=λp d O=>⟨(L p d O).1,(L p d O).2.keep N⟩;show wpAny _ P.in1 (holding [ag.ref f] (setAdd Wo<|.ref f) >>= _) _ _ _;refine aA (fK ?_);unfold setAdd;refine fK ?_;refine aA ((e7 Wf l).pyHash (k:=val a) (show P.units+1+10<b3 by lia) (B _ _ y) ?_);refine Np (j:={j with heap:=A,toks:=_}) (show P.units+1+20<b3 by lia) (u.at λo e=>h Wo o M e) (B _ _ y) y B (al a x) λd E D a2=>?_;refine aU ⟨kG zM _,ap (a+1) _ ⋯ x (λd o Wr k m z q=>?_) (W.frame _ A E a1 λd s o e=>?_) a2 λbd be bi bm=>?_⟩
  ·show E.get? d=Z o;rw[D.2 d (λc:d=Wo=>R o Wr k (c ▸ m) q)];exact N d o Wr k m z q
  ·rw[D.2 d (λc:d=Wo=>I (by rw[<-c];exact s))];exact e
  ·refine w bd be (λd o s g e=>bi d o s g ?_) bm;show E.get? d=Z o;rw[D.2 d s];exact h d o g e
end
end L2
namespace L2
open Spec PyProof.Rows PySem.W
section
variable{b:aR}{R:List (aj×bk)}{D:a9}{m:aG}{j:au}{T:List ae->aj->Prop}
def gH(Wg:List (List ae)):List (List ae):=(Wg.foldl hI [])
theorem AA(Wg:List (List ae)):∀a,a<=Wg.length->jZ (λa=>Wg.getD a []) a=(Wg.take a).foldl hI []
 |0,_=>by rw[pX];rfl
 |a+1,c=>by
  rw[IM (show a<Wg.length from c),zc,<-AA Wg a (Nat.le_of_succ_le c)];show hI _ (Wg.getD a [])=hI _ Wg[a];rw[cP,eB<|show a<Wg.length from c];rfl
def RO(t:List (List ae)):∀(a:List (List ae)) (f:List ae),f∈t.foldl hI a↔f∈a\/f∈t:=by
 induction t with
 |nil=>intro a f;simp
 |cons n u d=>
  intro a f;rw[h4,d];unfold hI;by_cases b:n∈a
  ·rw[aJ b,cg];constructor
   ·rintro (c|c)
    ·exact .inl c
    ·exact .inr (.inr c)
   ·rintro (c|c|c)
    ·exact .inl c
    ·exact .inl (c ▸ b)
    ·exact .inr c
  ·rw[aP b,dw,cM,cg,or_assoc]
variable{Wg:List (List ae)}
def J4{f:List ae}:f∈gH Wg↔f∈Wg:=by
 rw[gH,RO];simp
def RK(t:List (List ae)):∀a:List (List ae),a.Nodup->(t.foldl hI a).Nodup:=by
 induction t with
 |nil=>intro a c;exact c
 |cons n u b=>
  intro a c;refine b _ ?_;unfold hI;split
  ·exact c
  ·next d=>exact dD.mpr ⟨c,e9 _ n,λf g C h=>by cases cM.mp h;exact λe=>d<|e ▸ g⟩
def N6(Wg:List (List ae)):(gH Wg).Nodup:=RK Wg [] gU
def KO(t:List (List ae)):∀a:List (List ae),a.length<=(t.foldl hI a).length:=by
 induction t with
 |nil=>intro a;exact bb _
 |cons n u b=>
  intro a;refine fu ?_ (b _);unfold hI;split
  ·exact bb _
  ·rw[b_];exact nM _ _
def Kq{a:Nat}(c:a<=Wg.length):(jZ (λa=>Wg.getD a []) a).length<=(gH Wg).length:=by
 rw[AA Wg a c];have e:gH Wg=(Wg.drop a).foldl hI ((Wg.take a).foldl hI []):=by
  rw[gH,<-zc,gi]
 rw[e];exact KO _ _
def RR(Wg:List (List ae)):jZ (λa=>Wg.getD a []) Wg.length=gH Wg:=by
 rw[AA Wg _ (bb _),rC];rfl
theorem bT.at{m:aG}:∀{I:List ae}{V7:List ar}{a:Nat}{v:ar},bT m I V7->V7[a]?=Z v->∃s,I[a]?=Z s/\cR m s v
 |[],V7,a,v,c,e=>by rw[show V7=[] from c]at e;simp at e
 |s::I,V7,0,v,c,e=>by
  let⟨J,@u,rfl,A,E⟩:=c;cases e;exact⟨s,rfl,A⟩
 |s::I,V7,a+1,v,c,e=>by
  let⟨J,@u,rfl,A,E⟩:=c;let⟨@b,d,f⟩:=bT.at (a:=a) E ⇑e;exact⟨b,by simpa using d,f⟩
end
def qE:List ae->Option (List<|List ae)
 |[]=>Z []
 |.tup g::u=>(qE u).map (g::·)
 |_=>Y
theorem Jh:∀{f:List ae}{Wg:List (List ae)},qE f=Z Wg->f=Wg.map .tup
 |[],Wg,c=>by cases c;rfl
 |.tup g::u,Wg,c=>by
  let⟨@n,A,rfl⟩:=cU.mp c;rw[Jh A];rfl
 |.a6::_,_,c=>by cases c
 |.ay _::_,_,c=>by cases c
 |.int _::_,_,c=>by cases c
 |.str _::_,_,c=>by cases c
 |.fn _::_,_,c=>by cases c
 |.aW _::_,_,c=>by cases c
 |.fd::_,_,c=>by cases c
theorem H5:∀Wg:List (List ae),qE (Wg.map .tup)=Z Wg
 |[]=>rfl
 |n::Wg=>by
  show (qE<|Wg.map .tup).map (n::·)=_;rw[H5 Wg];rfl
def r4(Wg:List (List ae)):Bool:=(Wg.all (ae.keys 7)&&decide ((gH Wg).length<300))
def FX{Wg:List (List ae)}:r4 Wg=aa↔(∀n∈Wg,ae.keys 7 n=aa)/\(gH Wg).length<300:=by
 unfold r4;rw[cy,e_,fF]
end L2
namespace L2
open Spec PyProof.Rows
variable{c W9 Xc:aF bX}{d g e:bF}{V_:List bF}{Wq q:Pos}{n r:Nat}{L:aF (List bX)}{WK:List Nat}{WM Wk:List aI}{x:aj}{O:cp}{Xe f:aI}{V8:Φ}{z:dd}
def ri:gJ:=(λg d=>match g,d with
 |.im f,.im C=>if fa 6 f C=aa then Z (.im<|.ay<|bp f C) else Y
 |_,_=>Y)
section
variable{b:aR}
def zO(o:b.A.units+20<b3):fG b (ey .Lt) ri:=by
 intro R j D m f C v J G H c d g;let⟨WY,WZ,@s,h,k,e,p⟩:=g;unfold ri at e;split at e
 ·split at e
  ·rename_i n;cases e;exact Ai 6 n ⋯ (h.i.fT H.bg c) (k.i.fT H.bg d) b.prog b.w _ _ ⟨.ay _,m,H,rfl,cq.i p rfl⟩
  ·cases e
 ·cases e
end
def Uq:vk (.type "list_reverseiterator") "__len__" = pure Y:=by rw[zY,zv];kernel_rfl
def U5:vk (.type "list_reverseiterator") "__length_hint__" = pure (Z<|.builtin "list_reverseiterator.__length_hint__"):=by rw[zY,zv];kernel_rfl
section
variable{Wf:bS}{l:bA}{P:bH}{j:au}{Wb:qn->au->Prop}{H:aj}{bL C:List aj}{z:Array p6->Array p6->Prop}{r:Nat}{T:Nat->ag->Prop}{a9:Nat->au->Prop}
def Gt(W:WalksS Wf l P.in1 H bL C z r T a9)(f:∀a j,a9 a j->j.TypeIs (.ref H) "list_reverseiterator")(Wo:aj)(i:ag)(n:Nat)(b:a9 0 j)(k:Wo∉bL)(o:H∈bL)(p:j.heap.get? Wo=Z {cls:=.type "list",data:=.seq #[] n})(q:∀V9 g c,Moved (Wo::C) z j V9->V9.heap.get? Wo=Z {cls:=.type "list",dict:=Y,data:=.seq g c,slots:=#[]}->sy T g r->Wb (.ok<|.ret i) V9)(s:r<=sizeLine):
  wpAny (aV Wf l) P.in1 (bl.List.listExtendWith (.ref Wo) (.ref H) i)
   (λfin V9=>match fin with | .done x=>Wb (.ok x) V9 | .again c=>c.quiet=aa/\codeAny (aV Wf l) P c Wb V9) (λe V9=>Wb (.error e) V9) j:=by
 have t:Wo≠H:=λe=>k (e ▸ o);have A:bl.List.listSameRef (.ref Wo) (.ref H)=aw:=by simp[bl.List.listSameRef,t]
 unfold bl.List.listExtendWith;refine aA (wpAny_typeOf (f 0 _ b) ?_);rw[aP (by rw[A];decide)];refine aA (W.self 0 _ _ _ b<|aA<|fK ?_);unfold bl.List.listLengthHint;refine aA (od (f 0 _ b) Uq ?_);show wpAny _ P.in1 (specialOf (ag.ref H) (aI.ofString "__length_hint__") >>= _) _ _ _;refine aA (od (f 0 _ b) U5 ?_)
 (generalize h:("list_reverseiterator.__length_hint__" : String)=m;(fail_if_success (clear h m));wp_delta;rw[show splitId m=Z ("list_reverseiterator","__length_hint__") from by subst h;decide +kernel];subst h)
 refine aA (vh (b:=aa) (f 0 _ b) (by rw[y6];kernel_rfl) ?_);refine aU ?_;rw[aP ∅];exact aU ⟨kG F.plain_extend_loop _,codeAny_extend_loopS W s _ k _ r 0 _ _ _ rfl (f7 _) b p (sy.nil T) λV9 g c u v w=>q V9 g c u v w⟩
end
def tu:List (aj×bk)->Bool
 |[]=>aa
 | (_,o)::u=>(match o.data with
  |.seq _ _=>(match o.cls with | .type r=>r != "list" |_=>aa)
  |_=>aa)&&tu u
def Qk{V8:List (aj×bk)}{g:aj}{o:bk}{Wl:Array ag}(c:tu V8=aa)(e:V8.lookup g=Z o)(a:o.cls=.type "list")(hd:o.data=.seq Wl r):False:=by
 induction V8 with
 |nil=>cases e
 |cons q u b=>
  let⟨d,f⟩:=q;rw[tu,cy]at c;simp only[List.lookup]at e;split at e
  ·cases e;have A:=c.1;rw[hd]at A;dsimp only at A;rw[a]at A;exact absurd A ∅
  ·exact b c.2 e
theorem JR{m:aG}:∀Wu:List Int,bT m (Wu.map .int) (Wu.map ar.int)
 |[]=>rfl
 |r::u=>⟨.int r,_,rfl,rfl,JR u⟩
def NW(a:tu V8=aa)(m:aG)(g:aj)(Wu:List Int)(b:wd m)(d:dC V8 m g (Wu.map ar.int))(br:∃J,z [.c_ (Wu.map .int)]=Z (.im<|.ay aa,J)){Wa:ho}:k9 1 z [.ref g] m (λv W=>v=.ay aa) Wa:=by
 let⟨@J,br⟩:=br;have f:∃o,m g=Z (.eF o<|.lst<|Wu.map ar.int):=by
  rcases d with (c|c)|⟨o,Wl,r,A,E,j,h,_⟩
  ·rcases b g with e|⟨o,w,e⟩
   ·rw[e]at c;cases c
   ·rw[e]at c;cases c
  ·exact c
  ·exact (Qk a A E h).elim
 let⟨@o,i⟩:=f;refine⟨rfl,[.c_ (Wu.map .int)],[],.im<|.ay aa,J,⟨_,_,[],[],rfl,⟨g,_,o,rfl,i,JR Wu,rfl⟩,⟨rfl,rfl⟩,rfl⟩,gU,br,λv V6 Wb k c W W=>?_⟩;exact c.1
def iQ{Wy:List ag}(c:Wy.length=r+1):∃g u,Wy=g::u/\u.length=r:=by
 cases Wy with
 |nil=>cases c
 |cons g u=>exact⟨g,u,rfl,Nat.succ.inj c⟩
def hg.UK{fd:hA}(N:hg V8 f Xe O x fd)(c:∀(ct i WT:ag) (k:Option aj) (M ck:ag) (g:ag),ke (Ξ f Xe (iI O) (gZ O) (ek O) .none ct i WT k M ck) ⟨[g],[]⟩=pure (Wk.zip [g]))(b:Wk.length=1:=by rfl):iU V8 fd Wk []:=
 N.binds λct i WT k M ck Wy a=>by
  replace a:=a.trans b;let⟨g,@d,rfl,A⟩:=iQ a;obtain rfl:=ry A;exact c ct i WT k M ck g
def hg.J7{fd:hA}(N:hg V8 f Xe O x fd)(c:∀(ct i WT:ag) (k:Option aj) (M ck:ag) (g d:ag),ke (Ξ f Xe (iI O) (gZ O) (ek O) .none ct i WT k M ck) ⟨[g,d],[]⟩=pure (Wk.zip [g,d]))(b:Wk.length=2:=by rfl):iU V8 fd Wk []:=
 N.binds λct i WT k M ck Wy a=>by
  replace a:=a.trans b;let⟨g,@e,rfl,A⟩:=iQ a;let⟨d,@h,rfl,E⟩:=iQ A;obtain rfl:=ry E;exact c ct i WT k M ck g d
def hg.LA{fd:hA}(N:hg V8 f Xe O x fd)(c:∀(ct i WT:ag) (k:Option aj) (M ck:ag) (g d h:ag),ke (Ξ f Xe (iI O) (gZ O) (ek O) .none ct i WT k M ck) ⟨[g,d,h],[]⟩=pure (Wk.zip [g,d,h]))(b:Wk.length=3:=by rfl):iU V8 fd Wk []:=
 N.binds λct i WT k M ck Wy a=>by
  replace a:=a.trans b;let⟨g,@j,rfl,A⟩:=iQ a;let⟨d,@l,rfl,E⟩:=iQ A;let⟨h,@m,rfl,e⟩:=iQ E;obtain rfl:=ry e;exact c ct i WT k M ck g d h
def hg.Ue{fd:hA}(N:hg V8 f Xe O x fd)(c:∀(ct i WT:ag) (k:Option aj) (M ck:ag) (g d h s:ag),ke (Ξ f Xe (iI O) (gZ O) (ek O) .none ct i WT k M ck) ⟨[g,d,h,s],[]⟩=pure (Wk.zip [g,d,h,s]))(b:Wk.length=4:=by rfl):iU V8 fd Wk []:=
 N.binds λct i WT k M ck Wy a=>by
  replace a:=a.trans b;let⟨g,@l,rfl,A⟩:=iQ a;let⟨d,@m,rfl,E⟩:=iQ A;let⟨h,@n,rfl,e⟩:=iQ E;let⟨s,@o,rfl,j⟩:=iQ e;obtain rfl:=ry j;exact c ct i WT k M ck g d h s
def hg.S6{fd:hA}(N:hg V8 f Xe O x fd)(c:∀(ct i WT:ag) (k:Option aj) (M ck:ag) (g d h s e:ag),ke (Ξ f Xe (iI O) (gZ O) (ek O) .none ct i WT k M ck) ⟨[g,d,h,s,e],[]⟩=pure (Wk.zip [g,d,h,s,e]))(b:Wk.length=5:=by rfl):iU V8 fd Wk []:=
 N.binds λct i WT k M ck Wy a=>by
  replace a:=a.trans b;let⟨g,@n,rfl,A⟩:=iQ a;let⟨d,@o,rfl,E⟩:=iQ A;let⟨h,@p,rfl,j⟩:=iQ E;let⟨s,@q,rfl,l⟩:=iQ j;let⟨e,@r,rfl,m⟩:=iQ l;obtain rfl:=ry m;exact c ct i WT k M ck g d h s e
structure eS where
 P:bS
 w:bA
 K:Φ
 aE:aI->Option ag
 base:a_
def dg(V8:Φ)(f:aI)(O:cp)(x:aj):Prop:=(∃fd,hg V8 f f O x fd/\Ψ V8 d_ f=Z (Z<|.ref x))
def dF(V8:Φ)(aE:aI->Option ag)(f:aI)(O:cp)(x:aj)(Wk:List aI):Prop:=(∃fd,hg V8 f f O x fd/\iU V8 fd Wk []/\aE f=Z (.ref x))
def cH(T:bS)(l:bA)(V8:Φ)(aE:aI->Option ag)(Wi:a_)(n:Nat)(f:aI)(O:cp)(x:aj)(Wk:List aI)(r:Nat)(z:dd):Prop:=(∃fd,hg V8 f f O x fd/\iU V8 fd Wk []/\aE f=Z (.ref x)/\i8 T l V8 aE Wi iV n x fd Wk (k9 r z))
abbrev fj(h:eS):=cH h.P h.w h.K h.aE h.base
def Gw{E:ag}{A k:Option aj}{S:Array (Option ag)}{ct i WT M ck:ag}(g:Ψ V8 d_ f=Z (Z<|.ref x))(t:V8.lookup x=Z ⟨E,A,.func<|Ξ f f (iI O) (gZ O) (ek O) .none ct i WT k M ck,S⟩)(h:Δ V8 M f=aa)(n:Θ V8 (.ref x)=aa):dg V8 f O x:=⟨_,QX t h n,g⟩
section
variable{T:bS}{l:bA}{V8:Φ}{aE:aI->Option ag}{Wi c:a_}{n r:Nat}{f:aI}{O:cp}{x:aj}{Wk:List aI}{z:dd}
def dg.dY(u:dg V8 f O x)(b:V8.In c)(d:c.Ns d_ aE)(e:∀(ct i WT:ag) (k:Option aj) (M ck g:ag),ke (Ξ f f (iI O) (gZ O) (ek O) .none ct i WT k M ck) ⟨[g],[]⟩=pure (Wk.zip [g]):=by intros;rfl)(h:Wk.length=1:=by rfl):dF V8 aE f O x Wk:=
 have ⟨_,a,g⟩:=u
 ⟨_,a,a.UK e h,mL b d g⟩
def dg.dH(u:dg V8 f O x)(b:V8.In c)(e:c.Ns d_ aE)(h:∀(ct i WT:ag) (k:Option aj) (M ck g d:ag),ke (Ξ f f (iI O) (gZ O) (ek O) .none ct i WT k M ck) ⟨[g,d],[]⟩=pure (Wk.zip [g,d]):=by intros;rfl)(j:Wk.length=2:=by rfl):dF V8 aE f O x Wk:=
 have ⟨_,a,g⟩:=u
 ⟨_,a,a.J7 h j,mL b e g⟩
def dg.oj(u:dg V8 f O x)(b:V8.In c)(e:c.Ns d_ aE)(j:∀(ct i WT:ag) (k:Option aj) (M ck g d h:ag),ke (Ξ f f (iI O) (gZ O) (ek O) .none ct i WT k M ck) ⟨[g,d,h],[]⟩=pure (Wk.zip [g,d,h]):=by intros;rfl)(l:Wk.length=3:=by rfl):dF V8 aE f O x Wk:=
 have ⟨_,a,g⟩:=u
 ⟨_,a,a.LA j l,mL b e g⟩
def dg.kY(u:dg V8 f O x)(b:V8.In c)(e:c.Ns d_ aE)(j:∀(ct i WT:ag) (k:Option aj) (M ck g d h s:ag),ke (Ξ f f (iI O) (gZ O) (ek O) .none ct i WT k M ck) ⟨[g,d,h,s],[]⟩=pure (Wk.zip [g,d,h,s]):=by intros;rfl)(l:Wk.length=4:=by rfl):dF V8 aE f O x Wk:=
 have ⟨_,a,g⟩:=u
 ⟨_,a,a.Ue j l,mL b e g⟩
def dg.lq(u:dg V8 f O x)(b:V8.In c)(j:c.Ns d_ aE)(l:∀(ct i WT:ag) (k:Option aj) (M ck g d h s e:ag),ke (Ξ f f (iI O) (gZ O) (ek O) .none ct i WT k M ck) ⟨[g,d,h,s,e],[]⟩=pure (Wk.zip [g,d,h,s,e]):=by intros;rfl)(m:Wk.length=5:=by rfl):dF V8 aE f O x Wk:=
 have ⟨_,a,g⟩:=u
 ⟨_,a,a.S6 l m,mL b j g⟩
def cH.m(aT:cH T l V8 aE Wi n f O x Wk r z):aE f=Z (.ref x):=have ⟨_,_,_,k,_⟩:=aT;k
def cH.fd{fd:hA}(aT:cH T l V8 aE Wi n f O x Wk r z)(b:hg V8 f f O x fd):i8 T l V8 aE Wi iV n x fd Wk (k9 r z):=by
 let⟨@d,c,W,W,L⟩:=aT;let⟨E,A,ct,i,WT,k,M,ck,@S,e,t,W⟩:=b.ex;let⟨g,h,j,m,o,p,q,s,@u,v,a,W⟩:=c.ex;rw[t]at a;cases a;exact L
def LN(u:dg V8 f O x)(b:V8.In c)(e:c.Ns d_ aE){fq:aj}(h:aE f=Z (.ref fq)){q:aI}(m:∀(ct i WT:ag) (k:Option aj) (M ck:ag) (j:au) (v:ag),nA j (Ξ f f (iI O) (gZ O) (ek O) .none ct i WT k M ck) ⟨[v],[]⟩ [(q,v)])(aT:∀Wi,cH T l V8 aE Wi n f O x [q] r z):
  ∃fd:hA,(∀(j:au) (v:ag),nA j fd ⟨[v],[]⟩ [(q,v)])/\∀Wi:a_,V8.In Wi->Wi.Ns d_ aE->i8 T l V8 aE Wi iV n fq fd [q] (k9 r z):=by
 let⟨@fd,a,g⟩:=u;cases h.symm.trans (mL b e g);refine⟨fd,?_,λd V V=>(aT d).fd a⟩;let⟨E,A,ct,i,WT,k,M,ck,@S,rfl,t,V⟩:=a.ex;exact m ct i WT k M ck
def Sb{L:bJ}(N:dF V8 aE f O x Wk)(Wo:pg WM Wk (ek O))(c:Wk.length=r)(e:∀a∈WK,a<r)(g:WM.Nodup->∀(M:ag) (P:bH) (WX:List fE) (j:au) (m:aG) (Wa:ho),fg n (P.deeper<|kE f (ek O) j.heap.objs.size x M)->kx (mV iV T l V8 aE Wi WM f (ek O) x M P WX j m Wa).oc WK (gZ O) L):
  cH T l V8 aE Wi (n+1) f O x Wk r (dp r WM.length WK L):=
 have ⟨_,b,d,k⟩:=N
 ⟨_,b,d,k,Nf b Wo c e<|g Wo.ao⟩
end
section
variable{b:aR}
variable{k:Nat}
def Rf(aT:cH b.prog b.w b.K b.aE b.base n f O x Wk r z)(a:fg k b.A)(c:e6 b f)(g:gC b (e::V_) L)(h:n<=k:=by decide)(i:(f==("__debug__" : aI))=aw:=by decide)(j:b5 (e::V_) b.env=(aw,cE e b.env)::b5 V_ b.env:=by rfl)(m:(hj Wq<|b5 V_ b.env).any (·.1)=aw:=by rfl):
  cx b (.Call (.Name f q) (e::V_) [] Wq) (a7 r z L):=
 have ⟨_,o,d,k,N⟩:=aT
 Ly N (a.mono h) c k o.dj d g i j m
def Bq{a:Nat}{C:aI}(aT:cH b.prog b.w b.K b.aE b.base n C O x Wk r z)(c:fg k b.A)(g:bU b (.Name f q) (ml a))(h:gC b (e::V_) L)(i:n<=k:=by decide)(j:b5 (e::V_) b.env=(aw,cE e b.env)::b5 V_ b.env:=by rfl)(m:(hj Wq<|b5 V_ b.env).any (·.1)=aw:=by rfl):
  cx b (.Call (.Name f q) (e::V_) [] Wq) (qs a x r z L):=
 have ⟨_,o,d,_,N⟩:=aT
 UU N (c.mono i) g o.dj d h j m
def bh{a:Int}{i Wq}:dX b (.Constant (.int a) i Wq) (af<|aD<|.int a):=aM eW
def ak(a:Nat){f:aI}{Wq:Pos}(c:b.N[a]?=Z f:=by rfl)(d:vM b.env.scope f:=by first|exact Or.inl rfl|exact Or.inr (Or.inl rfl)|exact Or.inr (Or.inr rfl))(hd:(f==("__debug__" : aI))=aw:=by decide)(e:(f==("__classdict__" : aI))=aw:=by decide):dX b (.Name f Wq) (ab a):=Kw (DP c d hd e)
def a3{L:aF bX}(a:dX b e L)(Wd:b5 [e] b.env=(aw,cE e b.env)::b5 [] b.env:=by rfl):gC b [e] (ah L ax):=fi a nU Wd
def jQ(a:fg k b.A)(c:dX b g Xc)(e:dX b d W9)(Wd:vA d:=by exact λ_ W=>rfl):cx b (.Subscript g d Wq) (aB bD Xc W9):=T1 (TC (by have:=a.un;lia)) c e Wd
def b9{x:bF}{L:aF bX}(a:dX b e L)(d:dX b x c)(Wd:b5 [e,x] b.env=(aw,cE e b.env)::b5 [x] b.env:=by rfl)(E:b5 [x] b.env=(aw,cE x b.env)::b5 [] b.env:=by rfl):gC b [e,x] (ah L<|ah c ax):=fi a (a3 d E) Wd
def gA{x s:bF}{L n:aF bX}(a:dX b e L)(d:dX b x c)(hd:dX b s n)(Wd:b5 [e,x,s] b.env=(aw,cE e b.env)::b5 [x,s] b.env:=by rfl)(A:b5 [x,s] b.env=(aw,cE x b.env)::b5 [s] b.env:=by rfl)(E:b5 [s] b.env=(aw,cE s b.env)::b5 [] b.env:=by rfl):gC b [e,x,s] (ah L<|ah c<|ah n ax):=fi a (b9 d hd A E) Wd
def dG(a:Nat){f:aI}{e:bF}{L:aF ai}{Wq i:Pos}(c:b.N.Nodup)(d:cx b e L)(S:b.N[a]?=Z f:=by rfl)(g:kT b.env.scope f:=by exact Or.inl rfl)(h:a∉WK:=by decide)(Wd:oD e (Z<|.Name f i) Wq.line b.env=pure aw:=by rfl)(j:b.fn f=aa\/b.env.scope.names.lookup f=Z .local:=by first|exact .inl rfl|exact .inr rfl|assumption):jC b WK (.Assign [.Name f i] e Wq) (bV a L):=jM c S g d h Wd j
def h7(a:Nat){f:aI}{Wq:Pos}(c:b.N.Nodup)(S:b.N[a]?=Z f:=by rfl)(d:kT b.env.scope f:=by exact Or.inl rfl)(e:a∉WK:=by decide)(g:b.fn f=aa\/b.env.scope.names.lookup f=Z .local:=by first|exact .inl rfl|exact .inr rfl|assumption):ix b WK (.Name f Wq) (a0 a):=qO c S d e g
def xh:List aI->Bool
 |[]=>aa
 |f::t=>!t.contains f&&xh t
theorem HS:∀{t:List aI},xh t=aa->t.Nodup
 |[],_=>gU
 |f::t,c=>by
  rw[xh,cy,k2]at c;refine iw.mpr ⟨λa=>?_,HS c.2⟩;rw[List.contains_iff_mem.mpr a]at c;cases c.1
def ef(a:Nat){f:aI}{Wq:Pos}(S:b.N[a]?=Z f:=by rfl)(c:xh b.N=aa:=by kernel_rfl)(d:kT b.env.scope f:=by exact Or.inl rfl)(e:a∉WK:=by decide)(g:b.fn f=aa\/b.env.scope.names.lookup f=Z .local:=by first|exact .inl rfl|exact .inr rfl|assumption):ix b WK (.Name f Wq) (a0 a):=qO (HS c) S d e g
def f5{WL Xb Xj:bF}{WB:hQ}(own:List aI)(WH:List Nat){H:kZ}{C:gu}{Xp:aF ai}(S:nh b WL Xb H)(a:∀Wt,ix (b.gR (gM b own WH) WB Wt) (ql own.length WH.length) WL C)(c:∀Wt,cx (b.gR (gM b own WH) WB Wt) Xj Xp)(Wo:xv b.env.scope b.N WB WH=aa:=by kernel_rfl)(d:b.calm=aa:=by rfl)(ao:WH.Nodup:=by decide)(Wd:∀f,nk Xb b.env f=pure f:=by intro W;rfl):cx b (.ListComp Xj [⟨WL,Xb,[],0⟩] WB Wq) (b4 own.length WH H C cB Xp):=
 xa d (mP _ _ Wo rfl rfl) ao S a (λ_=>yh) c Wd
def nL{L c:gu}{a}(e:ix b WK g L)(f:ix b WK d c)(h:b.calm=aa:=by rfl)(A:(f3 [g,d] b.env).map (·.2)=jA g b.env::(f3 [d] b.env).map (·.2):=by rfl)(E:(f3 [d] b.env).map (·.2)=jA d b.env::(f3 [] b.env).map (·.2):=by rfl)(i:(f3 [g,d] b.env).length=2:=by rfl)(j:(f3 [g,d] b.env).findIdx? (·.1)=Y:=by rfl):ix b WK (.Tuple [g,d] a Wq) (h5 2<|eu L<|eu c hM):=Pl h (uA e (uA f C3 E) A) i j
def cY{id:String}{WV:List ai->Option ai}(a:ia b (.builtin id) WV)(c:b.aE f=Y)(d:fy f=Z (.builtin id))(g:gC b (e::V_) L)(h:e6 b f:=by rfl)(i:f ≠ "__name__" := by decide)(j:(f==("__debug__" : aI))=aw:=by decide)(k:b5 (e::V_) b.env=(aw,cE e b.env)::b5 V_ b.env:=by rfl)(l:(hj Wq<|b5 V_ b.env).any (·.1)=aw:=by rfl):
  cx b (.Call (.Name f q) (e::V_) [] Wq) (bo WV L):=OF a h c d g i j k l
def cb(aT:cH b.prog b.w b.K b.aE b.base n f O x Wk r z)(a:fg k b.A)(c:gC b (e::V_) L)(d:e6 b f:=by rfl)(g:n<=k:=by decide)(h:(f==("__debug__" : aI))=aw:=by decide)(i:b5 (e::V_) b.env=(aw,cE e b.env)::b5 V_ b.env:=by rfl)(j:(hj Wq<|b5 V_ b.env).any (·.1)=aw:=by rfl):
  cx b (.Call (.Name f q) (e::V_) [] Wq) (a7 r z L):=Rf aT a d c g h i j
def dt(a:fg k b.A)(c:dX b g Xc)(e:dX b d W9)(Wd:vA d:=by exact λ_ W=>rfl):dX b (.Subscript g d Wq) (af<|aB bD Xc W9):=aM (jQ a c e Wd)
def cN{WV:Bb}{x:ai->ai->Option ai}(a:fG b (g7 WV) x)(c:dX b g Xc)(e:dX b d W9):dX b (.BinOp g WV d Wq) (af<|aB x Xc W9):=aM (fA a c e)
def fO{a}(c:gC b V_ L):dX b (.Tuple V_ a Wq) (af<|cQ L):=aM (iG c)
end
section
variable{T:bS}{l:bA}{V8:Φ}{aE:aI->Option ag}{Wi c:a_}{n r:Nat}{f:aI}{O:cp}{x:aj}{Wk:List aI}{z:dd}
def MF{T:List aI}{B:hQ}(g:B.kind=.function:=by rfl)(d:B.isCoroutine=aw:=by rfl)(h:B.isGenerator=aw:=by rfl)(s:WM.Nodup:=by decide +kernel)(e:WM.take T.length=T:=by rfl)(x:∀f∈T,B.names.lookup f=Z .local\/B.names.lookup f=Z .cell:=by decide +kernel)(L:∀C∈B.names,C.2≠.free:=by decide +kernel):pg WM T B:=⟨g,d,h,s,e,x,L⟩
def d6{L:bJ}(WM:List aI)(N:dF V8 aE f O x Wk)(b:WM.Nodup->∀(M:ag) (P:bH) (WX:List fE) (j:au) (m:aG) (Wa:ho),fg n (P.deeper<|kE f (ek O) j.heap.objs.size x M)->kx (mV iV T l V8 aE Wi WM f (ek O) x M P WX j m Wa).oc WK (gZ O) L)(Wo:pg WM Wk (ek O):=by exact MF)(c:Wk.length=r:=by rfl)(d:∀a∈WK,a<r:=by decide):cH T l V8 aE Wi (n+1) f O x Wk r (dp r WM.length WK L):=Sb N Wo c d b
end
end L2
namespace L2
open Spec PyProof.Rows PySem.W
variable{i:Nat}{o:bk}{Wg:List (List ae)}{L:aF (List bX)}{F Wq W4 q:Pos}{W0:fQ}{g:bF}{G:ag->au->Prop}{Wr:Array ag}{t H:aj}
def Rv:isSubtype (.type "list") (.type "set")=pure aw:=by rw[y6];kernel_rfl
def NG:isSubtype (.type "list") (.type "frozenset")=pure aw:=by rw[y6];kernel_rfl
section
variable{Wf:bS}{l:bA}{P:bH}{j:au}{Wa:ag->au->Prop}
def LI{Wb:qn->au->Prop}{bL C:List aj}{z:Array p6->Array p6->Prop}{r:Nat}{T:Nat->ag->Prop}{a9:Nat->au->Prop}(W:WalksS Wf l P.in1 H bL C z r T a9)(d:∀a j,a9 a j->j.TypeIs (.ref H) "list_reverseiterator")(Wo:aj)(b:Nat)(e:a9 0 j)(f:Wo∉bL)(g:H∈bL)(h:j.heap.get? Wo=Z {cls:=.type "list",data:=.seq #[] b})(i:∀V9 c k,Moved (Wo::C) z j V9->V9.heap.get? Wo=Z {cls:=.type "list",dict:=Y,data:=.seq c k,slots:=#[]}->sy T c r->Wb (.ok<|.ret<|.ref Wo) V9)(m:r<=sizeLine):codeAny (aV Wf l) P (.builtin "list.__iadd__" ⟨[.ref Wo,.ref H],[]⟩) Wb j:=by
 refine kz F.entry_list_iadd ?_;rw[kP DJ _];show wpAny _ P.in1 (bl.List.listExtendWith (.ref Wo) (.ref H)<|.ref Wo) _ _ _;exact Gt W d Wo _ b e f g h i m
def RH{G:List ag->au->Prop}(q:P.handled=Y)(r:t≠H)(m:j.heap.IsList t Wr)(n:j.heap.IsRevIter H t ((Wr.size:Int)-1))(s:Wr.size<=sizeLine)(u:∀(U:a_) (WN:Nat) (g:Array ag),(∀d o,d≠H->j.heap.get? d=Z o->U.get? d=Z o)->j.heap.objs.size<=U.objs.size->sy (λa v=>Wr[Wr.size-1-a]?=Z v) g Wr.size->G g.toList {j with heap:=U,toks:=WN}):
  wpAny (aV Wf l) P (collect<|.ref H) G Wa j:=by
 have B:H<j.heap.objs.size:=let ⟨o,e,_⟩:=n;cu e
 have C:t<j.heap.objs.size:=let ⟨o,e,_⟩:=m;cu e
 have w:j.heap.objs.size∉[H,t]:=λb=>by
  simp only[cg,pa,h6]at b;rcases b with c|c<;>lia
 unfold collect;refine aA (Fo<|kz F.entry_proto_collect ?_);rw[kP F.plain_proto_collect _];show wpAny _ P.in1 (th [] >>= λt=>again<|.builtin "list.__iadd__" ⟨[t,.ref H],[]⟩) _ _ j;refine aA (hD<|aU ⟨kG DJ _,?_⟩);have i:∀h o,j.heap.get? h=Z o->(j.heap.push {cls:=.type "list",data:=.seq ([]:List ag).toArray}).get? h=Z o:=λh o e=>cv _ e;have x:(j.heap.push {cls:=.type "list",data:=.seq ([]:List ag).toArray}).get? j.heap.objs.size=Z {cls:=.type "list",data:=.seq ([]:List ag).toArray}:=d4 _ rfl;refine LI (j:={j with heap:=j.heap.push {cls:=.type "list",data:=.seq ([]:List ag).toArray} }) (P:=P) (mf.listRev (prog:=Wf) (w:=l) (A:=P.in1) q H t r Wr).toS (λa j f=>f.2.1.typeIs) j.heap.objs.size _ ⟨f7 _,?_,m.at λo e=>i _ o e⟩ w (.head _) x (λV9 g D b p y=>?_) s
 ·have:(Wr.size:Int)-1-((0:Nat):Int)=(Wr.size:Int)-1:=⋯
  rw[this];exact n.at λo e=>i _ o e
 ·show wpAny _ P (load j.heap.objs.size >>= _) _ _ V9;refine aA (wpAny_load p<|aU ?_);rw[Moved.eq_with b];refine u V9.heap V9.toks g (λd o z e=>b.heap d o (λk=>?_)<|i d o e) (oJ<|cu p) y;rcases cg.mp k with A|k
  ·exact dP (cu e) A
  ·exact z (cM.mp k)
def RC(k:P.handled=Y)(m:t≠H)(n:j.heap.IsList t Wr)(g:j.heap.IsRevIter H t ((Wr.size:Int)-1))(h:Wr.size<=sizeLine)(p:∀(U:a_) (WN:Nat) (i:Array ag),(∀d o,d≠H->j.heap.get? d=Z o->U.get? d=Z o)->j.heap.objs.size<=U.objs.size->sy (λa v=>Wr[Wr.size-1-a]?=Z v) i Wr.size->G (.ref U.objs.size) {j with heap:=U.push {cls:=.type "tuple",data:=.seq i},toks:=WN}):
  wpAny (aV Wf l) P (call (.type "tuple") [.ref H]) G Wa j:=by
 refine GQ (Q₁:=λb c=>c.TypeIs b "tuple" /\ G b c) zF (F.typeCall_tuple_1 _) F.entry_object_init (yN ?_) λb c e=>⟨e.1,F.args_object_init_2 b _,object_init_meets zF.init.lookup zF.made ∅ Wf l P.in1 _ c ⟨e.1,rfl,e.2⟩⟩;show wpAny _ _ (do E_ "tuple.__new__" ⟨[.type "tuple",.ref H],[]⟩;again (.builtin "tuple.__new__" ⟨[.type "tuple",.ref H],[]⟩)) _ _ j;refine aA (ta (F.newCall_tuple_1 _)<|aU ⟨kG F6 _,kz F.entry_tuple_new ?_⟩);rw[kP F6 _];have u:=sub_tuple_self;have w:=init_tuple_lookup;have x:=madeHere_tuple;have q:j.TypeIs (.ref H) "list_reverseiterator" := g.typeIs
 wp_walk using wpAny_typeOf q,RH (P:=P.in1.in1) k m n g h
 intro U WN f dj le it;have r:f.size<=sizeLine:=by rw[it.1];exact h
 show wpAny _ _ (bl.Tuple.tupleExact f.toList.toArray >>= λv=>ret v) _ _ _;unfold bl.Tuple.tupleExact;refine aA (hD (aU ?_) (by show f.toList.toArray.size<=sizeLine;simpa using r));rw[Cm];exact⟨⟨_,d4 _ rfl,rfl⟩,p _ _ _ dj le it⟩
end
section
variable{b:aR}
def MI(V8:Φ)(W0:fQ):cj:=(λD m G=>W0 D m λV7 Wh=>∃q Wn,V7=[.ref q]/\dC V8 Wh q Wn/\∀t,Wh t=Y->G (.ref t) (upd Wh t<|.tup Wn.reverse))
def Sh(r:b.calm=aa)(s:e6 b "tuple")(u:b.aE "tuple" = Y)(w:e6 b "reversed")(x:b.aE "reversed" = Y)(y:iy b [g] W0)(Wd:b5 [g] b.env=[(aw,cE g b.env)]:=by rfl):
  bU b (.Call (.Name "tuple" W4) [.Call (.Name "reversed" q) [g] [] Wq] [] F) (MI b.K W0):=by
 intro R j D m G H c;refine q7 (mx H s u (show fy "tuple" = Z (.type "tuple") by decide +kernel) (p2 ?_ rfl rfl) ∅ ∅);refine AB ?_;refine Call_ (mx H w x (show fy "reversed" = Z (.type "reversed") by decide +kernel)<|p2 (b6 (y Wq R j D m _ H c) λWy d ⟨V7,Wh,f,z,B⟩=>?_) Wd rfl);let⟨t,Wn,e,C,p⟩:=B;subst e;let⟨J,rfl,I⟩:=iS z;cases I;let⟨Wl,W3,bI,L⟩:=f.list C;have l:=W3.length;have i:=bI.isList;refine call_reversed_list i (y8 ?_);have ne:t≠d.heap.objs.size:=let ⟨o,e,_⟩:=i;dP (cu e)
 have up:∀h o,d.heap.get? h=Z o->(d.heap.push<|revObj t<|(Wl.toArray.size:Int)-1).get? h=Z o:=λh o e=>cv _ e;have le:d.heap.objs.size<=(d.heap.push<|revObj t<|(Wl.toArray.size:Int)-1).objs.size:=by show _<=(d.heap.objs.push _).size;rw[Array.size_push];lia
 refine RC (Wr:=Wl.toArray) (f.ok.hd r) ne (i.at λo e=>up _ o e) ⟨_,d4 _ rfl,rfl,rfl⟩ (by simp only[cV];lia) λU WN k dj M it=>?_;have N:b1 Wn.reverse k.toList:=by
  refine wK (show Wn.reverse.length=k.toList.length from (by rw[mZ];exact l.trans ⇑(it.1.symm))) λa v J A E=>?_;have S:a<Wn.length:=by
   have:=(gk.mp A).1
   rwa [mZ]at this
  rw[List.getElem?_reverse S]at A;let⟨Q,O,P⟩:=W3.get A;have:=it.2 a J ⇑E;simp only[cV,A8]at this;rw[<-l,O]at this;cases this;exact P
 have n:=fu le M;exact⟨.ref _,_,f.laid (WJ:=WN) (o:=.tup Wn.reverse) (λh o e=>cv _<|dj h o (dP<|cu e)<|up h o e) n ⟨by rw[mZ];exact L,k.toList,N,⟨_,d4 _ rfl,rfl,0,by rw[Cm]⟩⟩,rfl,p _<|f.bg.fresh n⟩
@[simp] def Bs(L:aF (List bX)):aF ai:=λy=>(L y).bind λq=>(hr q.2 q.1).bind λI=>match I with
 |[.lst f]=>Z (.im<|.tup f.reverse,q.2)
 |_=>Y
def NY(h:e6 b "tuple")(i:b.aE "tuple" = Y)(j:e6 b "reversed")(k:b.aE "reversed" = Y)(c:gC b [g] L)(Wd:b5 [g] b.env=[(aw,cE g b.env)]:=by rfl)(l:b.calm=aa:=by rfl):
  cx b (.Call (.Name "tuple" W4) [.Call (.Name "reversed" q) [g] [] Wq] [] F) (Bs L):=by
 refine eQ (Sh l h i j k c Wd) λD m G n=>?_;let⟨y,N,u,Wv,O,ao,r,p⟩:=n;let⟨⟨Q,We⟩,A,E⟩:=bZ.mp r;let⟨I,s,d⟩:=bZ.mp E;refine⟨y,N,Q,We,O,ao,A,λV7 Wh Wx B f WC x=>?_⟩;have z:=WC.read f s;split at d
 ·cases d;let⟨v,rfl,⟨W,q,w,rfl,WD,WR,W⟩⟩:=gy z;refine⟨q,w,rfl,dC.of WD,λt aW=>?_⟩;have a:df Wh (upd Wh t<|.tup w.reverse):=(df.refl Wh).upd aW;exact p _ _ Wx [] (f.mono a.tupS λg W o e=>a g o e) ⟨⟨t,_,rfl,fB,(WR.mono a.tupS.tup).rev⟩,rfl⟩ (x.new a gU (λg c=>nomatch c) f.chg)
 ·cases d
end
section
variable{Wf:bS}{l:bA}{T:List ae->aj->Prop}{P:bH}{Wa:ag->au->Prop}{j:au}
def R8{Wo:aj}{b:Bool}(w:P.handled=Y)(m:j.heap.get? t=Z o)(n:o.cls=.type "list")(q:o.data=.seq Wr i)(I:P.units+28<b3)(S:∀a v,Wr[a]?=Z v->∃d,v=.ref d/\T (Wg.getD a []) d)(x:∀p d,T p d->(e7 Wf l).is j.heap p d)(g:∀a,a<Wr.size->(jZ (λa=>Wg.getD a []) a).length+1<=300)(y:t≠Wo)(h:j.heap.get? Wo=Z (m2 b))(z:hH l T j.heap Wo b [])(c:∀U WN,hH l T U Wo b (jZ (λa=>Wg.getD a []) Wr.size)->(∀d o,d≠Wo->j.heap.get? d=Z o->U.get? d=Z o)->G .none {j with heap:=U,toks:=WN}):
  wpAny (aV Wf l) P (bl.«set.__init__» ⟨[.ref Wo,.ref t],[]⟩) (λfin V9=>∃u,fin=.done (.ret u)/\G u V9) Wa j:=by
 let⟨L,M,N,O⟩:=o;simp only at n q;subst n;subst q;have Q:=Rv;have R:=NG;have al:(ag.type "list" == ag.type "dict")=aw:=by decide
 unfold m2 at h;have r:j.heap.IsList t Wr:=⟨_,m,rfl,i,rfl⟩;unfold bl.«set.__init__» noKeywords bl.Frozenset.updateFrom;generalize A:s_=lX
 wp_walk
 subst A;refine tr r ?_;refine aA (Fo ?_);have B:t<j.heap.objs.size:=cu m;have C:Wo<j.heap.objs.size:=cu h;have D:P.in1.handled=Y:=by simp[w]
 refine TA (b:=b) (T:=T) (i:=j.heap) (show P.units+25<b3 by lia) (mf.list D _ t (dP B) Wr) ?_ (λa=>Wg.getD a []) S x ?_ ?_ g (Wr.size-0) 0 _ ⋯ (f7 _) ?_ ⟨⟨_,d4 _ rfl,rfl,rfl⟩,?_⟩ ?_ λU WN E F=>?_
 ·simp only[cg,hi,h6,not_or];exact⟨dP C,λe=>y e.symm⟩
 ·intro d o e;rw[cM];exact dP (cu e)
 ·intro J Wr k f s;rw[h]at f;cases f;cases s
 ·intro d o Wr k f s an;exact cv _ f
 ·let⟨o,H,u⟩:=r;exact⟨o,cv _ H,u⟩
 ·exact z.at λo e=>cv _ e
 ·show wpAny _ _ _ _ _ _;refine aU ?_;show wpAny _ _ (ret ag.none) _ _ _;refine aU ⟨_,rfl,c U WN F λd o g e=>E d o g ?_<|cv _ e⟩;rw[cM];exact dP (cu e)
def Ms(y:P.handled=Y)(n:j.heap.get? t=Z o)(z:o.cls=.type "list")(B:o.data=.seq Wr i)(M:P.units+30<b3)(S:∀a v,Wr[a]?=Z v->∃d,v=.ref d/\T (Wg.getD a []) d)(q:∀p d,T p d->(e7 Wf l).is j.heap p d)(C:∀a,a<Wr.size->(jZ (λa=>Wg.getD a []) a).length+1<=300)(c:∀U WN,hH l T U j.heap.objs.size (lT l) (jZ (λa=>Wg.getD a []) Wr.size)->(∀d o,j.heap.get? d=Z o->U.get? d=Z o)->G (.ref j.heap.objs.size) {j with heap:=U,toks:=WN}):
  wpAny (aV Wf l) P (call (.type "set") [.ref t]) G Wa j:=by
 let⟨h,Xm,O⟩:=n2.mro;have Q:=n2.made;have R:=n2.sub;refine wpAny_call (yN ?_);show wpAny _ _ (callAny (.type "set") _) _ _ _;refine aU ⟨Code.quiet_builtin _ (by decide +kernel),kz F.entry_type_call ?_⟩;rw[bH.under_plain (weight_type_call_type "set" [.ref t] []) rfl];have A:=n2.notType;have E:=n2.canCreate;have al:=PySem.F.typeCall_set_1 (.ref t);repeat (any_goals (first|assumption|wp_step))
 refine rH (J6 (.ref t) (Wa:=Wa) (a:=λr s=>r=.ref j.heap.objs.size/\s={j with heap:=j.heap.push (m2<|lT l)}) ⟨rfl,rfl⟩) λu s f=>?_;cases u with
 |error e=>exact f
 |ok aW=>
  cases aW with
  |ret r=>
   let⟨rfl,rfl⟩:=f;have w:(j.heap.push<|m2<|lT l).get? j.heap.objs.size=Z (m2<|lT l):=d4 _ rfl;have D:au.TypeIs {j with heap:=j.heap.push (m2<|lT l)} (.ref j.heap.objs.size) "set" := ⟨_,w,rfl⟩;have an:=n2.init.lookup;have ap:=n2.init.bind (.ref j.heap.objs.size);repeat (any_goals (first|assumption|wp_step))
   refine rH (codeAny_call_builtin (R:=wants (λu b=>u=.none/\∃U WN,b={j with heap:=U,toks:=WN}/\
     hH l T U j.heap.objs.size (lT l) (jZ (λa=>Wg.getD a []) Wr.size)/\(∀d o,j.heap.get? d=Z o->U.get? d=Z o)) Wa) n2.init.plain PySem.F.entry_set_init<|check_set_init_1 D ?_) λH b g=>?_
   ·refine iz (R8 (j:={j with heap:=j.heap.push (m2<|lT l)}) (by simp[y]) (cv _ n) z B (by show P.in1.in1.units+28<b3;show P.units+1+1+28<b3;omega) S (λp d x=>⟨(q p d x).1,(q p d x).2.keep λd o W W e W W=>cv _ e⟩) C (dP<|cu n) w (hH.fresh _) (G:=λu b=>u=.none/\∃U WN,b={j with heap:=U,toks:=WN}/\
     hH l T U j.heap.objs.size (lT l) (jZ (λa=>Wg.getD a []) Wr.size)/\(∀d o,j.heap.get? d=Z o->U.get? d=Z o)) λU WN k I=>⟨rfl,U,WN,rfl,k,λd o e=>I d o (dP<|cu e)<|cv _ e⟩) (λfin V9 m=>?_) λ_ W e=>e;let⟨u,rfl,m⟩:=m;exact m
   ·cases H with
    |error e=>exact g
    |ok J=>
     cases J with
     |ret u=>
      let⟨rfl,⟨U,WN,rfl,k,L⟩⟩:=g;repeat (any_goals (first|assumption|wp_step))
      exact c _ _ k L
     |_=>exact g.elim
  |_=>exact f.elim
end
section
variable{b:aR}{R:List (aj×bk)}{D:a9}{m:aG}{j:au}{T:List ae->aj->Prop}
def Vf(C:b.calm=aa)(E:b.A.units+30<b3){t:aj}{Wg:List (List ae)}{Wn:List ar}{G:ag->au->Prop}(H:aK b R D m j)(F:m t=Z (.lst Wn))(S:bT m (Wg.map .tup) Wn)(I:∀n∈Wg,ae.keys 7 n=aa)(al:(gH Wg).length<300)(c:∀U WN Wo,aK b R D m {j with heap:=U,toks:=WN}->hH b.w (λn d=>ae.keys 7 n=aa/\cR m (.tup n) (.ref d)) U Wo (lT b.w) (gH Wg)->G (.ref Wo) {j with heap:=U,toks:=WN}):
  wpAny (aV b.prog b.w) b.A (call (.type "set") [.ref t]) G b.dc j:=by
 let⟨Wl,e,bI,W⟩:=H.list (dC.of F);let⟨o,L,M,r,N⟩:=bI.isList;have O:Wl.length=Wg.length:=by rw[<-e.length,<-S.length,aZ]
 have i:Wl.toArray.size=Wg.length:=by rw[cV,O]
 refine Ms (T:=λn d=>ae.keys 7 n=aa/\cR m (.tup n) (.ref d)) (Wr:=Wl.toArray) (Wg:=Wg) (H.ok.hd C) L M N E (λa v g=>?_) (λp d k=>⟨k.1,k.2.fT H.bg rfl⟩) (λa S=>?_) λU WN q dj=>?_
 ·rw[A8]at g;have u:a<Wn.length:=by rw[e.length];exact (gk.mp g).1
  let⟨J,x,y⟩:=e.get (a:=a) (f:=Wn[a]) (eB u);rw[g]at x;cases x;let⟨s,z,h⟩:=S.at (a:=a) (v:=Wn[a]) (eB u);rw[fp]at z;let⟨n,B,rfl⟩:=cU.mp z;let⟨d,w,Q,am,an⟩:=id h;rw[Q]at y h;refine⟨d,y,?_⟩;rw[cP,B];exact⟨I n<|fH B,h⟩
 ·rw[i]at S;have:=Kq (Wg:=Wg) (oJ S);lia
 ·rw[i,RR]at q;exact c U WN _ (H.kept (WJ:=WN) dj) q
def UR(W0:fQ):cj:=(λD m G=>W0 D m λV7 Wh=>∃(g:aj) (Wg:List (List ae)) (Wn:List ar),V7=[.ref g]/\Wh g=Z (.lst Wn)/\bT Wh (Wg.map .tup) Wn/\(∀n∈Wg,ae.keys 7 n=aa)/\(gH Wg).length<300/\G (.int (gH Wg).length) Wh)
def Q8(e:b.calm=aa)(f:b.A.units+30<b3)(h:e6 b "len")(i:b.aE "len" = Y)(k:e6 b "set")(n:b.aE "set" = Y)(r:iy b [g] W0)(Wd:b5 [g] b.env=[(aw,cE g b.env)]:=by rfl):
  bU b (.Call (.Name "len" W4) [.Call (.Name "set" q) [g] [] Wq] [] F) (UR W0):=by
 intro R j D m G H c;refine q7 (mx H h i (show fy "len" = Z (.builtin "len") by decide +kernel) (ER ?_ rfl rfl) ∅ ∅);refine AB ?_;refine Call_ (mx H k n (show fy "set" = Z (.type "set") by decide +kernel)<|p2 (b6 (r Wq R j D m _ H c) λWy a ⟨V7,Wh,s,u,v⟩=>?_) Wd rfl);let⟨t,Wg,Wn,rfl,x,S,z,C,p⟩:=v;let⟨J,rfl,E⟩:=iS u;cases E;refine Vf e f s x S z C λU WN Wo I L=>y8 ?_;let⟨o,V_,W2,B,M,N,O,y⟩:=L;have d:V_.size=(gH Wg).length:=y.num;have Q:B.fits V_.size=aa:=y.fit;have fin:e4 b R D G (.int V_.size<|WN+1) {a with heap:=U,toks:=WN+1+1}:=⟨.int (gH Wg).length,Wh,I.tok _,⟨WN+1,by rw[d]⟩,p⟩;exact call_len_set (prog:=b.prog) (w:=b.w) (s:={a with heap:=U,toks:=WN}) M N O Q (by rw[d];lia) fin
def qZ(L:aF (List bX)):aF ai:=(λy=>(L y).bind λq=>(hr q.2 q.1).bind λI=>match I with
 |[.lst f]=>(qE f).bind λWg=>if r4 Wg=aa then Z (.im<|.int (gH Wg).length,q.2) else Y
 |_=>Y)
def TV(i:b.A.units+30<b3)(j:e6 b "len")(k:b.aE "len" = Y)(l:e6 b "set")(n:b.aE "set" = Y)(a:gC b [g] L)(Wd:b5 [g] b.env=[(aw,cE g b.env)]:=by rfl)(o:b.calm=aa:=by rfl):
  cx b (.Call (.Name "len" W4) [.Call (.Name "set" q) [g] [] Wq] [] F) (qZ L):=by
 refine eQ (Q8 o i j k l n a Wd) λD m G r=>?_;let⟨y,N,u,Wv,O,ao,s,p⟩:=r;let⟨⟨Q,We⟩,A,E⟩:=bZ.mp s;let⟨I,t,c⟩:=bZ.mp E;refine⟨y,N,Q,We,O,ao,A,λV7 Wh Wx J e WC x=>?_⟩;have z:=WC.read e t;split at c
 ·rename_i f;let⟨Wg,B,h⟩:=bZ.mp c;split at h
  ·rename_i C;cases h;let⟨v,rfl,⟨W,d,w,rfl,H,S,W⟩⟩:=gy z;cases Jh B;let⟨WD,WR⟩:=FX.mp C;refine⟨d,Wg,w,rfl,H,S,WD,WR,?_⟩;exact p _ _ Wx [] e ⟨rfl,rfl⟩ (x.new (df.refl Wh) gU (λg a=>(hi a).elim) e.chg)
  ·cases h
 ·cases c
end
end L2
namespace G
open L2
def RN:bJ:=((cA<|fZ<|ec (aY<|hT "int"<|ab 0)<|aY<|fZ<|dT<|aY<|hT "bool"<|ab 0))
def qX:dd:=(dp 1 1 [0] RN)
def Et:bJ:=((cA<|fZ<|ec (aY<|hT "tuple"<|ab 0)<|ec (aY<|aB dZ (af<|bo cF<|ah (ab 0) ax)<|af<|aD<|.int 2)<|ec (aY<|a7 1 G.qX<|ah (af<|aB bD (ab 0)<|af<|aD<|.int 0) ax)<|aY<|a7 1 G.qX<|ah (af<|aB bD (ab 0)<|af<|aD<|.int 1) ax))
def iO:dd:=(dp 1 1 [0] Et)
def EP:bJ:=((cA<|fZ<|ec (aY<|a7 1 G.iO<|ah (ab 0) ax)<|ec (aY<|i3 gQ gQ (af<|aD<|.int 0) (af<|aB bD (ab 0)<|af<|aD<|.int 0)<|af<|aD<|.int 30)<|aY<|i3 gQ gQ (af<|aD<|.int 0) (af<|aB bD (ab 0)<|af<|aD<|.int 1)<|af<|aD<|.int 30))
def kh:dd:=(dp 1 1 [0] EP)
def ur(a:aj):aF ai:=((qs 1 a 1 G.kh<|ah (ab 0) ax))
def E8(a:aj):aF ai:=((aB ri (ab 0)<|ab 1))
def Cf(a:aj):bJ:=((bj (dJ (eT (dT<|dN<|af<|hT "tuple"<|ab 0)<|dT<|dN<|af<|bo gN<|ah (af<|b4 1 [1] (b2<|ab 0) (a0 0) cB<|G.ur a) ax) (cA<|aD<|.ay aw) ep)<|cA<|bo gN<|ah (af<|b4 2 [] (jS<|ah (ab 0)<|ah (af<|cZ (ab 0) (c6<|aD<|.int 1) di) ax) (h5 2<|eu (a0 0)<|eu (a0 1) hM) cB<|G.E8 a) ax))
def sm(a:aj):dd:=(dp 2 2 [0,1] (Cf a))
def IQ(a:aj):bJ:=((cA<|a7 2 (G.sm a)<|ah (ab 0)<|ah (af<|aD<|.fn a) ax))
def q4(a:aj):dd:=(dp 1 1 [0] (IQ a))
def r6:bJ:=((ih (aD<|.ay aa)<|kc 1 (d2 2) hZ))
def t2:bJ:=((bj (bV 1 G4)<|bj (gh (b2<|ab 0) (a0 2) G.r6)<|cA<|d2 1))
def hu:dd:=(dp 1 3 [0] t2)
def L6:bJ:=((bj (bV 1<|aB bD (ab 0)<|af<|aD<|.int 0)<|bj (bV 2<|aB bD (ab 0)<|af<|aD<|.int 1)<|cA<|eG<|ah (af<|cQ<|ah (af<|aB sL (ab 1)<|af<|aD<|.int 1)<|ah (ab 2) ax)<|ah (af<|cQ<|ah (ab 1)<|ah (af<|aB sL (ab 2)<|af<|aD<|.int 1) ax)<|ah (af<|cQ<|ah (ab 1)<|ah (af<|aB b8 (ab 2)<|af<|aD<|.int 1) ax)<|ah (af<|cQ<|ah (af<|aB b8 (ab 1)<|af<|aD<|.int 1)<|ah (ab 2) ax) ax))
def kD:dd:=(dp 1 3 [0] L6)
def Iq:aF ai:=((cQ<|ah (ab 0)<|ah (af<|aD<|.str "in") ax))
def DK:aF Bool:=((aY<|aB eX (ab 0)<|ab 1))
def yo:bJ:=((bj (bV 2<|aB bD (ab 1)<|af<|aD<|.int 0)<|bj (dJ (aY<|aB dZ (af<|aB bD (ab 1)<|af<|aD<|.int 1)<|af<|aD<|.str "in") (cA<|eG<|ah (af<|cQ<|ah (af<|aB bD (ab 0)<|ab 2)<|ah (af<|aD<|.str "out") ax) ax) ep)<|cA<|aB b8 (af<|eG<|ah (af<|cQ<|ah (ab 2)<|ah (af<|aD<|.str "in") ax) ax)<|af<|b4 1 [0] (b2<|af<|a7 1 G.kD<|ah (ab 2) ax) (a0 0) G.DK G.Iq))
def qz:dd:=(dp 2 3 [0,1] yo)
def tH:bJ:=((dJ (aY<|aB eH (ab 7)<|ab 3) (bj (ih (d2 6)<|kc 3 (d2 7) hZ)<|jd<|g8 hV 5 km<|ah (ab 7) ax) ep))
def sr:bJ:=((gh (b2<|af<|a7 2 G.qz<|ah (ab 0)<|ah (ab 6) ax) (a0 7) G.tH))
def DW:aF Bool:=((dN<|ab 4))
def yg:bJ:=((bj (bV 5<|eG ax)<|bj (gh (b2<|ab 4) (a0 6) G.sr)<|bV 4<|d2 5))
def Gx:bJ:=((bj (bV 2<|cQ<|ah (ab 1)<|ah (af<|aD<|.str "out") ax)<|bj (bV 3<|wz (d2 2)<|aD .a6)<|bj (bV 4<|eG<|ah (ab 2) ax)<|bj (jn G.DW G.yg 1000000)<|cA<|d2 3))
def tq:dd:=(dp 2 8 [0,1] Gx)
def Dh:aF Bool:=((aY<|aB (rI aa) (af<|aB bD (ab 1)<|ab 3)<|af<|aD .a6))
def vb:bJ:=((bj (dJ (aY<|aB dZ (af<|aB bD (ab 3)<|af<|aD<|.int 1)<|af<|aD<|.str "in") (ih (aB bD (af<|aB bD (ab 1)<|ab 3)<|af<|aD<|.int 0)<|kc 0 (aB bD (ab 3)<|af<|aD<|.int 0) hZ) ep)<|bV 3<|aB bD (ab 1)<|ab 3))
def FN:bJ:=((bj (bV 3<|cQ<|ah (ab 2)<|ah (af<|aD<|.str "out") ax)<|jn G.Dh G.vb 1000000))
def sH:dd:=(dp 3 4 [0,1,2] FN)
def A2:aF Bool:=((aY<|aB gd (af<|aB bD (ab 3)<|af<|jI<|aD<|.int 1)<|ab 1))
def Cn:bJ:=((jd<|g8 hV 3 km<|ah (af<|aB bD (ab 0)<|af<|aB bD (ab 3)<|af<|jI<|aD<|.int 1) ax))
def IE:bJ:=((bj (bV 3<|eG<|ah (ab 2) ax)<|bj (jn G.A2 G.Cn 1000000)<|cA<|d2 3))
def rx:dd:=(dp 3 4 [0,1,2] IE)
def JD:aF ai:=((cQ<|ah (ab 0)<|ah (ab 0) ax))
def zg:aF Bool:=((aY<|aB eX (af<|cQ<|ah (ab 2)<|ah (af<|aD<|.str "in") ax)<|ab 5))
def ua:bJ:=((bj (jd<|g8 hV 4 km<|ah (af<|aB bD (af<|aB bD (ab 5)<|af<|cQ<|ah (ab 2)<|ah (af<|aD<|.str "in") ax)<|af<|aD<|.int 0) ax)<|bj (jd<|a7 3 G.sH<|ah (ab 3)<|ah (ab 5)<|ah (af<|aB bD (ab 4)<|af<|jI<|aD<|.int 1) ax)<|bV 5<|a7 2 G.tq<|ah (ab 3)<|ah (ab 1) ax))
def FF:aF ai:=((d2 0))
def Bc:aF Bool:=((ec (aY<|aB eX (af<|cQ<|ah (ab 0)<|ah (af<|aD<|.str "in") ax)<|ab 1)<|aY<|aB eH (af<|cQ<|ah (ab 0)<|ah (af<|aD<|.str "out") ax)<|ab 1))
def wI:aF ai:=((Bs<|ah (af<|aB b8 (af<|eG<|ah (ab 1) ax)<|af<|a7 3 G.rx<|ah (ab 2)<|ah (ab 3)<|ah (ab 0) ax) ax))
def Dm:bJ:=((bj (dJ (eT (aY<|aB dZ (ab 1)<|ab 2)<|aY<|aB eX (ab 2)<|af<|a7 1 G.kD<|ah (ab 1) ax) Gh ep)<|bj (bV 3<|bo js<|ah (af<|b4 1 [] (b2<|ab 0) (a0 0) cB G.JD) ax)<|bj (bV 4<|eG ax)<|bj (bV 5<|a7 2 G.tq<|ah (ab 3)<|ah (ab 1) ax)<|bj (jn G.zg G.ua 1000000)<|bj (bV 6<|b4 1 [5] (b2<|ab 0) (a0 0) G.Bc G.FF)<|bj (bV 7<|b4 1 [2,3,1] (b2<|ab 4) (a0 0) cB G.wI)<|cA<|cQ<|ah (af<|bo h9<|ah (ab 6) ax)<|ah (af<|bo h9<|ah (af<|bo ib<|ah (ab 7) ax) ax) ax))
def p3:dd:=(dp 3 8 [0,1,2] Dm)
def Lw:aF ai:=((fZ<|ec (aY<|hT "int"<|ab 0)<|aY<|fZ<|dT<|aY<|hT "bool"<|ab 0))
def uu:bJ:=((bj (dJ (eT (dT<|dN<|af<|hT "tuple"<|ab 2)<|eT (aY<|aB gd (af<|bo cF<|ah (ab 2) ax)<|af<|aD<|.int 2)<|aY<|aB eH (ab 2)<|ab 0) (cA<|aD<|.ay aw) ep)<|dJ (dT<|dN<|af<|bo gN<|ah (af<|b4 1 [] (b2<|ab 2) (a0 0) cB G.Lw) ax) (cA<|aD<|.ay aw) ep))
def B1:aF ai:=((aB eX (ab 1)<|af<|a7 1 G.kj<|ah (ab 0) ax))
def H4:bJ:=((bj (dJ (eT (dT<|dN<|af<|hT "tuple"<|ab 1)<|aY<|aB dZ (af<|bo cF<|ah (ab 1) ax)<|af<|aD<|.int 0) (cA<|aD<|.ay aw) ep)<|bj (gh (b2<|ab 1) (a0 2) G.uu)<|cA<|bo gN<|ah (af<|b4 2 [] (jS<|ah (ab 1)<|ah (af<|cZ (ab 1) (c6<|aD<|.int 1) di) ax) (h5 2<|eu (a0 0)<|eu (a0 1) hM) cB G.B1) ax))
def rB:dd:=(dp 2 3 [0,1] H4)
def yb:aF ai:=((d2 0))
def uJ:aF Bool:=((ec (aY<|aB gd (ab 0)<|ab 1)<|aY<|aB eH (ab 0)<|af<|a7 1 G.kj<|ah (ab 1) ax))
def yA:bJ:=((bj (bV 2<|aB bD (ab 1)<|af<|a7 2 G.fP<|ah (ab 0)<|ah (af<|bo cF<|ah (ab 1) ax) ax)<|bj (bV 3<|b4 1 [2] (b2<|ab 1) (a0 0) G.uJ G.yb)<|bj (dJ (aY<|aB dZ (ab 3)<|af<|eG ax) (cA<|aD .a6) ep)<|cA<|cQ<|ah (ab 2)<|ah (af<|aB bD (ab 3)<|af<|a7 2 G.fP<|ah (ab 0)<|ah (af<|bo cF<|ah (ab 3) ax) ax) ax))
def oX:dd:=(dp 2 4 [0,1] yA)
def Ei:aF ai:=((d2 0))
def E4:aF Bool:=((aY<|aB eH (ab 0)<|ab 1))
def Hp:bJ:=((cA<|aB eH (ab 2)<|af<|a7 2 G.t6<|ah (af<|b4 1 [3] (b2<|ab 0) (a0 0) G.E4 G.Ei)<|ah (ab 1) ax))
def r0:dd:=(dp 4 4 [0,1,2,3] Hp)
def Fw:aF ai:=((a7 2 G.rB<|ah (ab 1)<|ah (af<|cQ<|ah (ab 0) ax) ax))
def BX:aF ai:=((cQ<|ah (ab 0)<|ah (af<|aD<|.ay aa) ax))
def HX:bJ:=((bj (dJ (eT (dT<|dN<|af<|hT "tuple"<|ab 1)<|dT<|dN<|af<|bo gN<|ah (af<|b4 1 [0] (b2<|ab 1) (a0 0) cB G.Fw) ax) (cA<|aD<|.ay aw) ep)<|cA<|aB dZ (af<|bo qF<|ah (ab 1) ax)<|af<|bo ib<|ah (af<|bo js<|ah (af<|b4 1 [] (b2<|ab 1) (a0 0) cB G.BX) ax) ax))
def tx:dd:=(dp 2 2 [0,1] HX)
def yO:aF ai:=((a7 2 G.rB<|ah (ab 1)<|ah (ab 0) ax))
def yC:aF ai:=((cQ<|ah (ab 0)<|ah (af<|aD<|.ay aa) ax))
def mK:bJ:=((bj (dJ (eT (aY<|aB vR (af<|bo cF<|ah (ab 5) ax)<|af<|aD<|.int 2)<|eT (aY<|aB gd (af<|aB bD (ab 5)<|af<|aD<|.int 0)<|ab 1)<|aY<|aB gd (af<|aB bD (ab 5)<|af<|jI<|aD<|.int 1)<|ab 2) (cA<|aD<|.ay aw) ep)<|bV 4<|aB b8 (ab 4)<|af<|bo qF<|ah (af<|cZ (ab 5) (c6<|aD<|.int 1)<|c6<|jI<|aD<|.int 1) ax))
def IL:bJ:=((bj (dJ (eT (dT<|dN<|af<|hT "tuple"<|ab 3)<|dT<|dN<|af<|bo gN<|ah (af<|b4 1 [0] (b2<|ab 3) (a0 0) cB G.yO) ax) (cA<|aD<|.ay aw) ep)<|bj (dJ (aY<|aB gd (af<|bo qF<|ah (ab 3) ax)<|af<|bo ib<|ah (af<|bo js<|ah (af<|b4 1 [] (b2<|ab 3) (a0 0) cB G.yC) ax) ax) (cA<|aD<|.ay aw) ep)<|bj (bV 4<|eG ax)<|bj (gh (b2<|ab 3) (a0 5) G.mK)<|cA<|fZ<|ec (aY<|aB dZ (af<|bo cF<|ah (ab 4) ax)<|af<|qZ<|ah (ab 4) ax)<|ec (aY<|aB eH (ab 1)<|ab 4)<|aY<|aB eH (ab 2)<|ab 4))
def rW:dd:=(dp 4 6 [0,1,2,3] IL)
def DF:bJ:=((bj (dJ (eT (dT<|dN<|af<|a7 2 G.tx<|ah (ab 0)<|ah (ab 3) ax)<|eT (aY<|aB eX (ab 1)<|ab 3)<|eT (aY<|aB eX (ab 2)<|ab 3)<|dT<|dN<|af<|a7 4 G.r0<|ah (ab 0)<|ah (ab 1)<|ah (ab 2)<|ah (ab 3) ax) (cA<|aD<|.ay aw) ep)<|cA<|fZ<|ec (aY<|a7 4 G.rW<|ah (ab 0)<|ah (ab 1)<|ah (ab 2)<|ah (ab 4) ax)<|aY<|aB dZ (af<|bo cF<|ah (ab 4) ax)<|af<|bo cF<|ah (ab 3) ax))
def r8:dd:=(dp 5 5 [0,1,2,3,4] DF)
end G
namespace cc
variable{ar:Type}[DecidableEq ar]
structure d7(N:List ar)(b:ar->ar->Prop)(g d:ar)(x:ar->ar)(M:List ar):Prop where
 fq:x g=g
 yr:x d=d
 gw:∀h,x h≠h->h∈N/\x h∈N/\b (x h) h
 one:∀h s,x h≠h->x s≠s->x h=x s->x h≠g->h=s
 on:∀h,x h≠h->x h≠g->x (x h)≠x h
 ao:M.Nodup
 last:∀t∈M,x t≠t/\b t d/\∀s,x s≠s->x s≠t
 ends:∀h,x h≠h->(∀s,x s≠s->x s≠h)->h∈M
structure Rs(N:List ar)(b:ar->ar->Prop)(g d:ar)(x:ar->ar)(Wo:ar->Bool->Prop):Prop where
 start:Wo g aa
 back:∀h,Wo h aw->Wo (x h) aa
 dR:∀h,Wo h aa->Wo h aw
 next:∀h s,Wo h aa->b h s->Wo s aw
 xZ:¬ Wo d aw
variable{N:List ar}{b:ar->ar->Prop}{g d:ar}{x:ar->ar}{M:List ar}{Wo:ar->Bool->Prop}
def Cut(Wo:ar->Bool->Prop)(h:ar):Prop:=(Wo h aw/\¬ Wo h aa)
def Cut.gw(Wb:Rs N b g d x Wo){h:ar}(c:Cut Wo h):x h≠h:=λe=>c.2 (by have:=Wb.back h c.1;rwa [e]at this)
def it(x:ar->ar):Nat->ar->ar
 |0,h=>h
 |r+1,h=>it x r (x h)
theorem j_(x:ar->ar):∀(r:Nat) (h:ar),it x (r+1) h=x (it x r h)
 |0,h=>rfl
 |r+1,h=>j_ x r (x h)
theorem up(Wb:Rs N b g d x Wo){h:ar}(c:Wo h aa):∀r,Wo (it x r h) aa
 |0=>c
 |r+1=>by rw[j_];exact Wb.back _ (Wb.dR _<|up Wb c r)
theorem mS(x:ar->ar)(k:Nat):∀(r:Nat) (h:ar),it x (k+r) h=it x k (it x r h)
 |0,h=>rfl
 |r+1,h=>mS x k r (x h)
def d7.ne(W:d7 N b g d x M){h:ar}(c:x h≠h):h≠g:=λe=>c (e ▸ W.fq)
theorem d7.pull(W:d7 N b g d x M){h s:ar}:∀r:Nat,(∀a,a<=r->x (it x a h)≠it x a h)->(∀a,a<=r->x (it x a s)≠it x a s)->it x r h=it x r s->h=s
 |0,_,_,e=>e
 |r+1,c,hd,e=>by
  rw[j_,j_]at e;refine W.pull r (λa S=>c a (by omega)) (λa S=>hd a (by omega)) (W.one _ _ (c r (by omega)) (hd r (by omega)) e λf=>?_);have:=c (r+1) (bb _);rw[j_,f]at this;exact this W.fq
def d7.dist(W:d7 N b g d x M){t:ar}(f:t∈M){a i:Nat}(l:a<i)(c:∀n,n<=i->x (it x n t)≠it x n t):it x a t≠it x i t:=λe=>by
 obtain⟨n,rfl⟩:∃n,i=a+(n+1):=⟨i-a-1,by omega⟩;rw[mS]at e;have:=W.pull a (h:=t) (s:=it x (n+1) t) (λk j=>c k (by omega)) (λk j=>by rw[<-mS];exact c _ (by omega)) e;rw[j_]at this;exact (W.last t f).2.2 _ (c n (by omega)) this.symm
def t_{N:List ar}{L:Nat->ar}{r:Nat}(d:∀a<r,L a∈N)(hd:∀a i,a<i->i<r->L a≠L i):r<=N.length:=by
 have ao:((range r).map L).Nodup:=by
  rw[m3,kH];exact yY.imp_of_mem λ{f C} b e c=>hd f C c (fI.mp e)
 have:=ao.length_le_of_subset (l₂:=N) (by
  intro f b;let⟨a,S,rfl⟩:=cn.mp b;exact d a (fI.mp S))
 rwa [aZ,hR]at this
def d7.comes(W:d7 N b g d x M){t:ar}(l:t∈M):∃r,it x (r+1) t=g/\∀n,n<=r->x (it x n t)≠it x n t:=by
 have W7:∃k,x (it x k t)=it x k t:=oq λh=>by
  have all:∀n,x (it x n t)≠it x n t:=λn e=>h ⟨n,e⟩;have:=t_ (N:=N) (L:=λn=>it x n t) (r:=N.length+1) (λa V=>(W.gw _<|all a).1) λa i m V=>W.dist l m λn V=>all n;omega
 obtain⟨k,f,lt⟩:∃k,x (it x k t)=it x k t/\∀n<k,x (it x n t)≠it x n t:=by
  let⟨k,f⟩:=W7;induction k using Nat.strongRecOn with
  |ind k o=>
   by_cases c:∃n<k,x (it x n t)=it x n t
   ·let⟨n,j,e⟩:=c;exact o n j e
   ·exact⟨k,f,λn j e=>c ⟨n,j,e⟩⟩
 cases k with
 |zero=>exact absurd f (W.last t l).1
 |succ r=>
  refine⟨r,oq λh=>?_,λn j=>lt n (by omega)⟩;rw[j_]at f h;exact W.on _ (lt r (by omega)) h f
def d7.meets(W:d7 N b g d x M)(Wb:Rs N b g d x Wo){t:ar}(i:t∈M):∃r,Cut Wo (it x r t)/\∀n,n<=r->x (it x n t)≠it x n t:=by
 let⟨WM,l,gw⟩:=W.comes i;have m:¬ Wo (it x 0 t) aa:=λf=>Wb.xZ (Wb.next _ _ f (W.last t i).2.1);have Q:∀r,r<=WM+1->(∀n,n<=r->¬ Wo (it x n t) aa)\/∃n<r,¬ Wo (it x n t) aa/\Wo (it x (n+1) t) aa:=λr=>by
  induction r with
  |zero=>exact λ_=>.inl λn h=>by rw[zw.mp h];exact m
  |succ r o=>
   intro s;rcases o (by omega) with c|⟨n,h,e⟩
   ·by_cases f:Wo (it x (r+1) t) aa
    ·exact .inr ⟨r,by omega,c r<|bb _,f⟩
    ·refine .inl λn h=>?_;rcases gv n (r+1) with p|p
     ·exact c n (by omega)
     ·rw[show n=r+1 by omega];exact f
   ·exact .inr ⟨n,by omega,e⟩
 rcases Q (WM+1) (bb _) with c|⟨n,h,q,j⟩
 ·exact absurd Wb.start (by have:=c (WM+1) (bb _);rwa [l]at this)
 ·have k:=gw n (by omega);rw[j_]at j;exact⟨n,⟨Wb.next _ _ j (W.gw _ k).2.2,q⟩,λa S=>gw a (by omega)⟩
def Rs.once(Wb:Rs N b g d x Wo){t:ar}{r k:Nat}(A:Cut Wo (it x r t))(E:Cut Wo (it x k t)):r=k:=by
 have Q:∀{r k:Nat},r<k->Cut Wo (it x r t)->Cut Wo (it x k t)->False:=λ{r k} c A E=>by
  obtain⟨n,rfl⟩:∃n,k=n+(r+1):=⟨k-r-1,by omega⟩;rw[mS,j_]at E;exact E.2 (up Wb (Wb.back _ A.1) n)
 rcases oN r k with c|c|c
 ·exact absurd (Q c A E) id
 ·exact c
 ·exact absurd (Q c E A) id
def d7.inj(W:d7 N b g d x M){t k:ar}(f:t∈M)(h:k∈M){a i:Nat}(A:∀n,n<=a->x (it x n t)≠it x n t)(E:∀n,n<=i->x (it x n k)≠it x n k)(e:it x a t=it x i k):t=k:=by
 have Q:∀{t k:ar},t∈M->k∈M->∀{a i:Nat},a<=i->(∀n,n<=a->x (it x n t)≠it x n t)->(∀n,n<=i->x (it x n k)≠it x n k)->it x a t=it x i k->t=k:=λ{t k} f h {a i} j A E e=>by
  obtain⟨n,rfl⟩:∃n,i=a+n:=⟨i-a,by omega⟩;rw[mS]at e;have:=W.pull a A (λp l=>by rw[<-mS];exact E _ (by omega)) e;cases n with
  |zero=>exact this
  |succ n=>
   rw[j_]at this;exact absurd this.symm ((W.last t f).2.2 _ (E n (by omega)))
 rcases Nat.le_total a i with c|c
 ·exact Q f h c A E e
 ·exact (Q h f c E A e.symm).symm
def d7.QW(W:d7 N b g d x M)(Wb:Rs N b g d x Wo){h:ar}(l:Cut Wo h):∃t∈M,∃r,it x r t=h/\∀n,n<=r->x (it x n t)≠it x n t:=by
 have go:∀(k n:Nat) (s:ar),N.length+1<=k+n->it x n s=h->(∀a,a<=n->x (it x a s)≠it x a s)->∃t∈M,∃r,it x r t=h/\∀n,n<=r->x (it x n t)≠it x n t:=λk=>by
  induction k with
  |zero=>
   intro n s o e gw;exfalso;have:=t_ (N:=N) (L:=λa=>it x a s) (r:=n+1) (λa S=>(W.gw _ (gw a (by omega))).1) λa i y z j=>by
    have j:it x a s=it x i s:=j;obtain⟨p,rfl⟩:∃p,n=p+i:=⟨n-i,by omega⟩;obtain⟨u,rfl⟩:∃u,i=a+(u+1):=⟨i-a-1,by omega⟩;have q:it x (p+a) s=h:=by rw[mS,j,<-mS];exact e
    have v:it x (u+1) h=h:=by
     have:it x ((u+1)+(p+a)) s=h:=by rw[show u+1+(p+a)=p+(a+(u+1)) by omega];exact e
     rw[mS,q]at this;exact this
    exact l.2 (by rw[<-v];exact up Wb (Wb.back _ l.1) u)
   omega
  |succ k w=>
   intro n s o e gw;by_cases c:∃f,x f≠f/\x f=s
   ·let⟨f,m,rfl⟩:=c;refine w (n+1) f (by omega) e λa S=>?_;cases a with
    |zero=>exact m
    |succ a=>exact gw a (by omega)
   ·exact⟨s,W.ends s (gw 0<|f7 _) λf m j=>c ⟨f,m,j⟩,n,e,gw⟩
 exact go (N.length+1) 0 h (by omega) rfl λa S=>by rw[zw.mp S];exact Cut.gw Wb l
def d7.many(W:d7 N b g d x M)(Wb:Rs N b g d x Wo)(w:N.Nodup){p:ar->Bool}(l:∀h∈N,p h=aa↔Cut Wo h):(N.filter p).length=M.length:=by
 have m:∀t:ar,∃h:ar,t∈M->Cut Wo h/\∃r,it x r t=h/\∀n,n<=r->x (it x n t)≠it x n t:=λt=>by
  by_cases c:t∈M
  ·let⟨r,A,E⟩:=W.meets Wb c;exact⟨_,λ_=>⟨A,r,rfl,E⟩⟩
  ·exact⟨t,λy=>absurd y c⟩
 obtain⟨a,i⟩:∃a:ar->ar,∀t,t∈M->Cut Wo (a t)/\∃r,it x r t=a t/\∀n,n<=r->x (it x n t)≠it x n t:=⟨λt=>(m t).choose,λt=>(m t).choose_spec⟩;have ao:(M.map a).Nodup:=by
  rw[m3,kH];refine (m3.mp W.ao).imp_of_mem λ{f C} o q c e=>c ?_;let⟨V,r,z,B⟩:=i f o;let⟨V,k,D,F⟩:=i C q;exact W.inj o q B F (by rw[z,D,e])
 have WT:(N.filter p).Perm (M.map a):=(Fi (w.filter _) ao).mpr λh=>by
  rw[j8,cn];constructor
  ·rintro⟨A,E⟩;have s:=(l h A).mp E;let⟨t,j,r,e,gw⟩:=W.QW Wb s;let⟨G,k,u,V⟩:=i t j;refine⟨t,j,?_⟩;rw[<-u,<-e,Wb.once (t:=t) (r:=k) (k:=r) (by rw[u];exact G) (by rw[e];exact s)]
  ·rintro⟨t,j,rfl⟩;have:=(i t j).1;have v:=(W.gw _<|Cut.gw Wb this).1;exact⟨v,(l _ v).mpr this⟩
 rw[WT.length_eq,aZ]
end cc
namespace cc
variable{ar:Type}[DecidableEq ar]{N:List ar}{b:ar->ar->Prop}{g d:ar}{x L:ar->ar}{M:List ar}
structure qQ(N:List ar)(b:ar->ar->Prop)(g d:ar)(x L:ar->ar)(n:Nat)(h s:Nat->ar):Prop where
 ny:s 0=g
 ds:∀a<n,s (a+1)=x (h a)
 step:∀a<n,h a=s a\/b (s a) (h a)
 ci:∀a i,a<n->i<n->h a=h i->a=i
 sb:∀a i,a<=n->i<=n->s a=s i->a=i
 nb:∀a<n,h a≠d
 dq:∀a<n,L (h a)=s a
 gg:∀f,(∀a<n,h a≠f)->L f=x f
variable{n:Nat}{h s:Nat->ar}
def qQ.na(W:d7 N b g d x M)(T:qQ N b g d x L n h s){a:Nat}(S:a<n):h a≠g:=λe=>by
 have:=T.ds a S;rw[e,W.fq,<-T.ny]at this;exact absurd (T.sb _ _ (by omega) (by omega) this) (by omega)
def qQ.out(T:qQ N b g d x L n h s){a:Nat}(S:a<=n)(c:s a≠g):∃i<n,a=i+1/\s a=x (h i):=by
 cases a with
 |zero=>exact absurd T.ny c
 |succ i=>exact⟨i,by omega,rfl,T.ds i (by omega)⟩
def lay(W:d7 N b g d x M)(T:qQ N b g d x L n h s)(F:∀f C,b f C->f∈N/\C∈N)(G:b (s n) d)(O:¬ b g d):d7 N b g d L (M++[s n]):=by
 have H:s n≠g:=λe=>O (by rw[<-e];exact G);have r:∀f,(∃a<n,h a=f)\/∀a<n,h a≠f:=λf=>by
  by_cases c:∃a<n,h a=f
  ·exact .inl c
  ·exact .inr λa S e=>c ⟨a,S,e⟩
 have B:∀t∈M,∀a,a<=n->s a≠t:=λt q a S e=>by
  have E:=(W.last t q).1;let⟨i,l,rfl,o⟩:=T.out S (by rw[e];exact W.ne E);rw[e]at o;by_cases k:x (h i)=h i
  ·rw[k]at o;rw[o]at E;exact E k
  ·exact (W.last t q).2.2 _ k o.symm
 have A:∀f,x f≠f->(∀a<n,h a≠f)->x f≠g->∀a,a<=n->s a≠x f:=λf j bf v a S e=>by
  let⟨i,l,rfl,o⟩:=T.out S (by rw[e];exact v);rw[e]at o;by_cases k:x (h i)=h i
  ·have:=W.on f j v;rw[o,k,k]at this;exact this rfl
  ·exact bf i l (W.one _ _ k j o.symm (by rw[<-o];exact v))
 have J:∀a,a<=n->s a≠g->(∀i<n,h i≠s a)->x (s a)≠s a:=λa S v P=>by
  let⟨i,l,rfl,o⟩:=T.out S v;by_cases k:x (h i)=h i
  ·rw[k]at o;exact absurd o.symm (P i l)
  ·rw[o];exact W.on _ k (by rw[<-o];exact v)
 refine⟨?_,?_,λf j=>?_,λf C j u e v=>?_,λf j v=>?_,?_,λt q=>?_,λf j bf=>?_⟩
 ·rw[T.gg g λa S=>T.na W S];exact W.fq
 ·rw[T.gg d λa S=>T.nb a S];exact W.yr
 ·rcases r f with ⟨a,S,rfl⟩|c
  ·rw[T.dq a S]at j ⊢;have ad:=(T.step a S).resolve_left λw=>j w.symm;exact⟨(F _ _ ad).2,(F _ _ ad).1,ad⟩
  ·rw[T.gg f c]at j ⊢;exact W.gw f j
 ·rcases r f with ⟨a,S,rfl⟩|y<;>rcases r C with ⟨i,l,rfl⟩|m
  ·rw[T.dq a S,T.dq i l]at e;rw[T.sb a i (by omega) (by omega) e]
  ·rw[T.dq a S,T.gg C m]at e;rw[T.dq a S,e]at v;rw[T.gg C m]at u;exact absurd e (A C u m v a (by omega))
  ·rw[T.gg f y,T.dq i l]at e;rw[T.gg f y]at v j;exact absurd e.symm (A f j y v i (by omega))
  ·rw[T.gg f y,T.gg C m]at e;rw[T.gg f y]at v j;rw[T.gg C m]at u;exact W.one f C j u e v
 ·rcases r f with ⟨a,S,rfl⟩|y
  ·rw[T.dq a S]at j v ⊢;rcases r (s a) with ⟨i,l,z⟩|c
   ·rw[<-z,T.dq i l,z];intro w;have:=T.sb i a (by omega) (by omega) w;subst this;exact j z.symm
   ·rw[T.gg _ c];exact J a (by omega) v c
  ·rw[T.gg f y]at j v ⊢;rcases r (x f) with ⟨i,l,z⟩|c
   ·rw[<-z,T.dq i l,z];exact A f j y v i (by omega)
   ·rw[T.gg _ c];exact W.on f j v
 ·refine dD.mpr ⟨W.ao,by simp,λf y C m e=>?_⟩;rw[cM]at m;subst e m;exact B _ y n (bb _) rfl
 ·rcases dw.mp q with q|q
  ·refine⟨?_,(W.last t q).2.1,λC u e=>?_⟩
   ·rcases r t with ⟨a,S,rfl⟩|c
    ·rw[T.dq a S];exact B _ q a (by omega)
    ·rw[T.gg t c];exact (W.last t q).1
   ·rcases r C with ⟨i,l,rfl⟩|m
    ·rw[T.dq i l]at e;exact B t q i (by omega) e
    ·rw[T.gg C m]at e u;exact (W.last t q).2.2 C u e
  ·rw[cM]at q;subst q;refine⟨?_,G,λC u e=>?_⟩
   ·rcases r (s n) with ⟨i,l,z⟩|c
    ·rw[<-z,T.dq i l,z];intro w;exact absurd (T.sb i n (by omega) (bb _) w) (by omega)
    ·rw[T.gg _ c];exact J n (bb _) H c
   ·rcases r C with ⟨i,l,rfl⟩|m
    ·rw[T.dq i l]at e;exact absurd (T.sb i n (by omega) (bb _) e) (by omega)
    ·rw[T.gg C m]at e u;exact A C u m (by rw[e];exact H) n (bb _) e.symm
 ·by_cases hd:∃a,a<=n/\s a=f
  ·let⟨a,S,rfl⟩:=hd;rcases gv a n with p|p
   ·exfalso;refine bf (h a) ?_ (T.dq a p);rw[T.dq a p];intro w;rw[w,T.dq a p,w]at j;exact j rfl
   ·rw[show a=n by omega];exact ej _ (.head _)
  ·have ao:∀a,a<=n->s a≠f:=λa S e=>hd ⟨a,S,e⟩;refine ed _ (W.ends f ?_ λC u e=>?_)
   ·rcases r f with ⟨a,S,rfl⟩|c
    ·exact λw=>ao (a+1) (by omega) ((T.ds a S).trans w)
    ·rw[T.gg f c]at j;exact j
   ·rcases r C with ⟨i,l,rfl⟩|m
    ·exact ao (i+1) (by omega) ((T.ds i l).trans e)
    ·exact bf C (by rw[T.gg C m];exact u) (by rw[T.gg C m];exact e)
end cc
namespace cc
variable{ar:Type}[DecidableEq ar]{N:List ar}{b:ar->ar->Prop}{g d:ar}{x L:ar->ar}{M:List ar}
def vz(x:ar->ar)(b:ar->ar->Prop)(q j:ar×Bool):Prop:=((q.2=aw/\j=(x q.1,aa))\/(q.2=aa/\j.2=aw/\(j.1=q.1\/b q.1 j.1)))
structure nd(x:ar->ar)(b:ar->ar->Prop)(g:ar)(Wj:List ((ar×Bool)×Option (ar×Bool))):Prop where
 ao:(Wj.map (·.1)).Nodup
 par:∀(a:Nat) (j q:ar×Bool),Wj[a]?=Z (j,Z q)->∃i<a,∃p,Wj[i]?=Z (q,p)/\vz x b q j
 root:∀(a:Nat) (j:ar×Bool),Wj[a]?=Z (j,Y)->j=(g,aa)
variable{Wj:List ((ar×Bool)×Option (ar×Bool))}
structure ou(x:ar->ar)(b:ar->ar->Prop)(g:ar)(Wj:List ((ar×Bool)×Option (ar×Bool)))(n:Nat)(h s:Nat->ar)(u m:Nat->Nat):Prop where
 ny:s 0=g
 g4:Wj[m 0]?=Z ((g,aa),Y)
 ds:∀a<n,s (a+1)=x (h a)
 step:∀a<n,h a=s a\/b (s a) (h a)
 lc:∀a<n,Wj[u a]?=Z ((h a,aw),Z (s a,aa))
 ld:∀a<n,Wj[m (a+1)]?=Z ((s<|a+1,aa),Z (h a,aw))
 a8:∀a<n,m a<u a
 bz:∀a<n,u a<m (a+1)
def nd.path(F:nd x b g Wj):∀(a:Nat) {f:ar}{p:Option (ar×Bool)},Wj[a]?=Z ((f,aa),p)->∃n h s u m,ou x b g Wj n h s u m/\s n=f/\m n=a:=by
 intro a;induction a using Nat.strongRecOn with
 |ind a y=>
  intro f p c;cases p with
  |none=>
   have e:=F.root a _ c;have W7:f=g:=congrArg Prod.fst e;subst W7;exact⟨0,λ_=>f,λ_=>f,λ_=>a,λ_=>a,⟨rfl,c,λ_ d=>absurd d (by omega),λ_ d=>absurd d (by omega),λ_ d=>absurd d (by omega),λ_ d=>absurd d (by omega),λ_ d=>absurd d (by omega),λ_ d=>absurd d (by omega)⟩,rfl,rfl⟩
  |some q=>
   let⟨i,z,B,o,e⟩:=F.par a _ q c;let⟨C,D⟩:=q;rcases e with ⟨r,t⟩|⟨_,t,_⟩
   ·have r:D=aw:=r;subst r;have W7:f=x C:=congrArg Prod.fst t;cases B with
    |none=>have:=congrArg Prod.snd (F.root i _ o);cases this
    |some v=>
     let⟨E,G,O,H,J⟩:=F.par i _ v o;let⟨d,L⟩:=v;rcases J with ⟨_,j⟩|⟨j,_,M⟩
     ·have:=congrArg Prod.snd j;cases this
     ·have j:L=aa:=j;subst j;let⟨n,h,s,u,m,T,w,N⟩:=y E (by omega) H;refine⟨n+1,λk=>if k<n then h k else C,λk=>if k<=n then s k else f,λk=>if k<n then u k else i,λk=>if k<=n then m k else a,⟨?_,?_,λk l=>?_,λk l=>?_,λk l=>?_,λk l=>?_,λk l=>?_,λk l=>?_⟩,?_,?_⟩
      ·simpa using T.ny
      ·simpa using T.g4
      ·by_cases A:k<n
       ·simp only[aJ A,aJ (show k+1<=n by omega)];exact T.ds k A
       ·simp only[aP A,aP (show ¬ k+1<=n by omega)];exact W7
      ·by_cases A:k<n
       ·simp only[aJ A,aJ (show k<=n by omega)];exact T.step k A
       ·simp only[aP A,aJ (show k<=n by omega)];rw[show k=n by omega,w];exact M
      ·by_cases A:k<n
       ·simp only[aJ A,aJ (show k<=n by omega)];exact T.lc k A
       ·simp only[aP A,aJ (show k<=n by omega)];rw[show k=n by omega,w];exact o
      ·by_cases A:k<n
       ·simp only[aJ A,aJ (show k+1<=n by omega)];exact T.ld k A
       ·simp only[aP A,aP (show ¬ k+1<=n by omega)];exact c
      ·by_cases A:k<n
       ·simp only[aJ A,aJ (show k<=n by omega)];exact T.a8 k A
       ·simp only[aP A,aJ (show k<=n by omega)];rw[show k=n by omega,N];exact G
      ·by_cases A:k<n
       ·simp only[aJ A,aJ (show k+1<=n by omega)];exact T.bz k A
       ·simp only[aP A,aP (show ¬ k+1<=n by omega)];exact z
      ·simp only[aP (show ¬ n+1<=n by omega)]
      ·simp only[aP (show ¬ n+1<=n by omega)]
   ·cases t
def nd.nq(F:nd x b g Wj){a i:Nat}{j:ar×Bool}{p u:Option (ar×Bool)}(A:Wj[a]?=Z (j,p))(E:Wj[i]?=Z (j,u)):a=i:=by
 have lt:a<(Wj.map (·.1)).length:=by rw[aZ];exact (gk.mp A).1
 exact (List.getElem?_inj lt F.ao).mp (by rw[fp,fp,A,E];rfl)
section
variable{n:Nat}{h s:Nat->ar}{u m:Nat->Nat}
theorem ou.up(T:ou x b g Wj n h s u m){a:Nat}:∀{i:Nat},a<=i->i<=n->m a<=m i
 |0,c,_=>by rw[zw.mp c];exact bb _
 |i+1,c,d=>by
  rcases gv a (i+1) with p|p
  ·have:=T.up (a:=a) (i:=i) (by omega) (by omega);have:=T.a8 i (by omega);have:=T.bz i (by omega);omega
  ·rw[show a=i+1 by omega];exact bb _
def ou.zD(T:ou x b g Wj n h s u m){a:Nat}(S:a<=n):∃p,Wj[m a]?=Z ((s a,aa),p):=by
 cases a with
 |zero=>exact⟨Y,by rw[T.ny];exact T.g4⟩
 |succ a=>exact⟨_,T.ld a (by omega)⟩
def nd.b7(F:nd x b g Wj)(T:ou x b g Wj n h s u m)(D:∀a<n,h a≠d)(dq:∀a<n,L (h a)=s a)(gg:∀f,(∀a<n,h a≠f)->L f=x f):qQ N b g d x L n h s:=by
 refine⟨T.ny,T.ds,T.step,λa i S c e=>?_,λa i S c e=>?_,D,dq,gg⟩
 ·have A:=T.lc a S;rw[e]at A;have:=F.nq A (T.lc i c);rcases oN a i with p|p|p
  ·have:=T.up (a:=a+1) (i:=i) (by omega) (by omega);have:=T.bz a S;have:=T.a8 i c;omega
  ·exact p
  ·have:=T.up (a:=i+1) (i:=a) (by omega) (by omega);have:=T.bz i c;have:=T.a8 a S;omega
 ·let⟨W,A⟩:=T.zD S;let⟨W,E⟩:=T.zD c;rw[e]at A;have:=F.nq A E;rcases oN a i with p|p|p
  ·have:=T.up (a:=a+1) (i:=i) (by omega) (by omega);have:=T.bz a (by omega);have:=T.a8 a (by omega);omega
  ·exact p
  ·have:=T.up (a:=i+1) (i:=a) (by omega) (by omega);have:=T.bz i (by omega);have:=T.a8 i (by omega);omega
end
end cc
namespace cc
variable{ar:Type}[DecidableEq ar]{N:List ar}{b:ar->ar->Prop}{g d:ar}{x L:ar->ar}{M:List ar}
def dR(x:ar->ar)(t:ar)(r:Nat):List ar:=((range<|r+1).map λa=>it x a t)
def mU(x:ar->ar)(g t:ar)(r:Nat):Prop:=(it x (r+1) t=g/\∀n,n<=r->x (it x n t)≠it x n t)
def d7.nb(W:d7 N b g d x M){h:ar}(c:x h≠h):h≠d:=λe=>c (e ▸ W.yr)
def vE{t f:ar}{r:Nat}:f∈dR x t r↔∃a,a<=r/\it x a t=f:=by
 unfold dR;rw[cn];exact⟨λ⟨a,S,e⟩=>⟨a,by rw[fI]at S;omega,e⟩,λ⟨a,S,e⟩=>⟨a,fI.mpr (by omega),e⟩⟩
def d7.OC(W:d7 N b g d x M){t:ar}(a:t∈M){r:Nat}(c:mU x g t r):(dR x t r).Nodup:=by
 unfold dR;rw[m3,kH];exact yY.imp_of_mem λ{f C} h e p=>W.dist a p λn i=>c.2 n (by rw[fI]at e;omega)
def d7.F4(W:d7 N b g d x M){t f:ar}{r:Nat}(c:mU x g t r)(e:f∈dR x t r):f∈N/\f≠g/\f≠d:=by
 let⟨a,S,rfl⟩:=vE.mp e;have k:=c.2 a S;exact⟨(W.gw _ k).1,W.ne k,W.nb k⟩
def d7.apart(W:d7 N b g d x M){t k f:ar}(c:t∈M)(e:k∈M){a i:Nat}(A:mU x g t a)(E:mU x g k i)(h:f∈dR x t a)(j:f∈dR x k i):t=k:=by
 let⟨q,r,l⟩:=vE.mp h;let⟨p,s,m⟩:=vE.mp j;exact W.inj c e (λn o=>A.2 n (by omega)) (λn o=>E.2 n (by omega)) (l.trans m.symm)
def d7.Pn(W:d7 N b g d x M){r:ar->Nat}(c:∀t∈M,mU x g t<|r t):(M.flatMap λt=>dR x t<|r t).Nodup:=by
 have Q:∀h:List ar,h.Nodup->(∀t∈h,t∈M)->(h.flatMap λt=>dR x t<|r t).Nodup:=λh=>by
  induction h with
  |nil=>intro V V;exact gU
  |cons k h j=>
   intro ao sub;rw[iw]at ao;rw[rk];refine dD.mpr ⟨W.OC (sub k<|.head _)<|c k<|sub k<|.head _,j ao.2 λt a=>sub t<|.tail _ a,λf l C i e=>?_⟩;subst e;let⟨t,a,i⟩:=zJ.mp i;exact ao.1 (W.apart (sub k<|.head _) (sub t<|.tail _ a) (c k<|sub k<|.head _) (c t<|sub t<|.tail _ a) l i ▸ a)
 exact Q M W.ao λt a=>a
def d7.steps(W:d7 N b g d x M){t:ar}{r:Nat}(c:mU x g t r){a:Nat}(S:a<=r):b (it x (a+1) t) (it x a t):=by
 rw[j_];exact (W.gw _<|c.2 a S).2.2
def d7.ei(W:d7 N b g d x M){bs:List ar}(c:∀f,b f d->f∈bs):M.length<=bs.length:=by
 have:=W.ao.length_le_of_subset (l₂:=bs) λf a=>c f (W.last f a).2.1;exact this
def d7.nil:d7 N b g d id []:=⟨rfl,rfl,λh c=>absurd rfl c,λh s c=>absurd rfl c,λh c=>absurd rfl c,gU,(λt a=>absurd a hi),λh c=>absurd rfl c⟩
def Rs.of{Wo:ar->Bool->Prop}(f:Wo g aa)(a:∀j B,Wo j.1 j.2->vz x b j B->Wo B.1 B.2)(D:¬ Wo d aw):Rs N b g d x Wo:=
 ⟨f,λh c=>a (h,aw) (x h,aa) c<|.inl ⟨rfl,rfl⟩,λh c=>a (h,aa) (h,aw) c<|.inr ⟨rfl,rfl,.inl rfl⟩,λh s c e=>a (h,aa) (s,aw) c<|.inr ⟨rfl,rfl,.inr e⟩,D⟩
end cc
namespace G
open L2
variable{k:Int}{M V:List aL}{d t g C f h:aL}{Ww:Type}{r:Nat}{s:ae}{We y:bc}{L:aF ai}{x:aL->aL}
abbrev da:=aL×Bool
variable{Wu WA W:List da}{l B j:da}
def wJ:Bool->ae
 |false=>.str "in"
 |true=>.str "out"
def iF(j:da):List ae:=([X j.1,wJ j.2])
def bW(j:da):ae:=(.tup (iF j))
def Ie(c:iF j=iF B):j=B:=by
 let⟨h,o⟩:=j;let⟨s,q⟩:=B;unfold iF at c;simp only[sV,and_true]at c;rw[AI];refine⟨H7 c.1,?_⟩;cases o<;>cases q
 ·rfl
 ·exact absurd c.2 ∅
 ·exact absurd c.2 ∅
 ·rfl
def zy(j:da):ae.keys 7 (iF j)=aa:=by let⟨h,o⟩:=j;cases o<;>rfl
def bR(V:List aL)(x:aL->aL):List (List ae×ae):=(V.map λh=>(cX h,X<|x h))
def BJ(c:h∈V):eC (bR V x) (cX h)=Z (X<|x h):=by
 induction V with
 |nil=>cases c
 |cons f u b=>
  unfold eC bR;rw[cS,kV];by_cases e:f=h
  ·subst e;simp
  ·have:decide (cX f=cX h)=aw:=cW λa=>e (oF a);rw[this];exact b ((cg.mp c).resolve_left λa=>e a.symm)
def ED(V:List aL)(x:aL->aL)(h:aL):(eC (bR V x)<|cX h).isSome=decide (h∈V):=by
 by_cases c:h∈V
 ·rw[BJ c,c1 c];rfl
 ·rw[cW c,tp,Bool.eq_false_iff];intro a;let⟨q,b,e⟩:=pR.mp a;let⟨f,d,rfl⟩:=cn.mp b;exact c (oF (hh e) ▸ d)
def l3(x:aL->aL)(f C:aL):aL->aL:=(λa=>if a=f then C else x a)
def QT(c:f∈V):fs (bR V x) (cX f) (X C)=bR V (l3 x f C):=by
 unfold fs;have:=ED V x f;rw[tp,c1 c]at this;rw[aJ this];unfold bR;rw[fc];refine k_ λh W=>?_;show (if cX h=cX f then (cX h,X C) else (cX h,X<|x h))=(cX h,X<|l3 x f C h);unfold l3;by_cases e:h=f
 ·rw[aJ (by rw[e]),aJ e]
 ·rw[aP λa=>e<|oF a,aP e]
abbrev g0:=List (da×Option da)
variable{Wj:g0}
def so:Option da->ae
 |none=>.a6
 |some j=>bW j
def c2(Wj:g0):List (List ae×ae):=(Wj.map λq=>(iF q.1,so q.2))
abbrev c3(Wj:g0):List da:=Wj.map (·.1)
def Qx(ao:(c3 Wj).Nodup){j:da}{p:Option da}(c:(j,p)∈Wj):eC (c2 Wj) (iF j)=Z (so p):=by
 induction Wj with
 |nil=>cases c
 |cons f u b=>
  unfold eC c2;rw[cS,kV];replace ao:=iw.mp (show (f.1::c3 u).Nodup from ao);by_cases e:f.1=j
  ·have:f=(j,p):=by
    rcases cg.mp c with c|c
    ·exact c.symm
    ·exact absurd (cn.mpr ⟨_,c,rfl⟩) (e ▸ ao.1)
   subst this;simp
  ·have:decide (iF f.1=iF j)=aw:=cW λa=>e (Ie a);rw[this];exact b ao.2 ((cg.mp c).resolve_left λa=>e (by rw[<-a]))
def GH(Wj:g0)(j:da):((c2 Wj).any λq=>decide (q.1=iF j))=decide (j∈c3 Wj):=by
 rw[k6,pR,fF,cn];constructor
 ·rintro⟨q,b,e⟩;let⟨f,a,rfl⟩:=cn.mp b;exact⟨f,a,Ie<|hh e⟩
 ·rintro⟨f,a,rfl⟩;exact⟨_,cn.mpr ⟨f,a,rfl⟩,c1 rfl⟩
def MR(Wj:g0)(j:da):(eC (c2 Wj)<|iF j).isSome=decide (j∈c3 Wj):=by rw[tp,GH]
def SU{p:Option da}(c:j∉c3 Wj):fs (c2 Wj) (iF j) (so p)=c2 (Wj++[(j,p)]):=by
 unfold fs;rw[aP (by rw[GH,cW c];exact dz)];unfold c2;rw[d9];rfl
def zP(Wj:g0)(j:da):fe (bW j) (.aH<|c2 Wj)=Z (decide (j∈c3 Wj)):=by
 unfold bW;rw[Bm,aJ<|zy j,MR]
def RB(V:List aL)(x:aL->aL)(h:aL):fe (X h) (.aH<|bR V x)=Z (decide (h∈V)):=by
 show fe (.tup<|cX h) _=_;rw[Bm,aJ<|nY h,ED]
def Hm(h:aL):kD [.im (X h)]=Z (aS<|c7 h,[.im (X h)]):=rfl
def ji(V:List aL)(x:aL->aL)(j:da):List da:=(if j.2 then (j.1,aw)::((c7 j.1).filter λs=>decide (s∈V)).map λs=>(s,aw) else [(x j.1,aa)])
def Bj(h:aL):(c7 h).length=4:=rfl
def Ls(Wd:j.1∈V):qz [.aH (bR V x),.im<|bW j]=Z (.lst<|(ji V x j).map bW,[.aH (bR V x),.im<|bW j]):=by
 let⟨h,o⟩:=j;have a:bD (.aH<|bR V x) (.im<|X h)=Z (.im<|X<|x h):=by
  show (if ae.keys 7 (cX h)=aa then (eC (bR V x)<|cX h).map ai.im else Y)=_;rw[aJ (nY h),BJ Wd];rfl
 cases o with
 |false=>
  unfold qz yo;refine dk (y:=[Z (.aH<|bR V x),Z<|.im<|bW (h,aw),Z<|.im<|X h]) rfl (bE (We:=[Z (.aH<|bR V x),Z<|.im<|bW (h,aw),Z<|.im<|X h]) rfl ?_) rfl;refine hx ?_;refine gD (We:=[Z (.aH<|bR V x),Z<|.im<|bW (h,aw),Z<|.im<|X h]) rfl (eJ<|qk (a5 (aN<|sE (a5 (aN<|d0 a) rfl) rfl (ie rfl) rfl) rfl) rfl (ie rfl) rfl)
 |true=>
  unfold qz yo;refine dk (y:=[Z (.aH<|bR V x),Z<|.im<|bW (h,aa),Z<|.im<|X h]) rfl (bE (We:=[Z (.aH<|bR V x),Z<|.im<|bW (h,aa),Z<|.im<|X h]) rfl<|bE (We:=[Z (.aH<|bR V x),Z<|.im<|bW (h,aa),Z<|.im<|X h]) rfl<|eJ ?_) rfl;have fm:b4 1 [0] (b2<|af<|a7 1 G.kD<|ah (ab 2) ax) (a0 0) G.DK G.Iq [Z (.aH<|bR V x),Z<|.im<|bW (h,aa),Z<|.im<|X h]=Z (.lst<|((c7 h).filter λs=>decide (s∈V)).map λs=>bW (s,aw),[Z (.aH<|bR V x),Z<|.im<|bW (h,aa),Z<|.im<|X h]):=by
   refine fz (w:=(c7 h).map X) (o:=Y) (We:=[Z (.aH<|bR V x),Z<|.im<|bW (h,aa),Z<|.im<|X h]) rfl (mm X (λs=>decide (s∈V)) (λs=>bW (s,aw)) _ [] (λs W=>?_) (by rw[Bj];decide)) rfl;refine⟨[Z (.im<|X s),Z<|.aH<|bR V x],[Z (.im<|X s),Z<|.aH<|bR V x],rfl,cm<|d0 ?_,λ_=>rfl,λ_=>⟨[Z (.im<|X s),Z<|.aH<|bR V x],rfl,rfl⟩⟩;show (fe (X s)<|.aH<|bR V x).map (λu=>ai.im<|.ay u)=_;rw[RB];rfl
  refine b0 (aN rfl) (aN fm) rfl rfl ?_;have b:(((c7 h).filter λs=>decide (s∈V)).map λs=>bW (s,aw)).length<=4:=by
   rw[aZ];exact rF _ _
  show (if [bW (h,aw)].length+_<=100000 then Z (ai.lst<|[bW (h,aw)]++_) else Y)=_;rw[aJ (by rw[eO];lia)];unfold ji;rw[aJ rfl,cS,fc];rfl
def Em{a:Nat}{h b s:ai}{n:ae}(d:L y=Z (.im n,y))(c:y[a]?=Z (Z h))(e:hZ h (.im n) s=Z b)(f:y.set a (Z b)=We):kc a L hZ s y=Z We:=by
 unfold kc;rw[c];show (L y).bind _=_;rw[d];show (match y[a]? with|some (Z h)=>(hZ h (.im n) s).map λb=>y.set a (Z b)|_=>Y)=_;rw[c];show (hZ h (.im n) s).map _=_;rw[e,<-f];rfl
def kb(V:List aL)(f C:aL):Prop:=(f∈V/\C∈V/\C∈c7 f)
structure hF(V:List aL)(x:aL->aL)(g:aL)(Wj:g0)(W WA:List da)(l:da)(Wu:List da):Prop where
 fL:cc.nd x (kb V) g Wj
 g4:Wj[0]?=Z ((g,aa),Y)
 inf:∀j∈c3 Wj,j.1∈V
 iD:∀j∈W,j∈c3 Wj
 fM:∀j∈WA,j∈c3 Wj
 cl:∀j∈c3 Wj,j∉W->j∉WA->∀B∈ji V x j,B∈c3 Wj\/(j=l/\B∈Wu)
def E5(Wd:j.1∈V)(c:B∈ji V x j):cc.vz x (kb V) j B:=by
 let⟨h,o⟩:=j;cases o with
 |false=>exact .inl ⟨rfl,cM.mp c⟩
 |true=>
  rcases cg.mp c with rfl|c
  ·exact .inr ⟨rfl,rfl,.inl rfl⟩
  ·let⟨s,hd,rfl⟩:=cn.mp c;let⟨A,E⟩:=j8.mp hd;exact .inr ⟨rfl,rfl,.inr ⟨Wd,hh E,A⟩⟩
def Ux(c:cc.vz x (kb V) j B):B∈ji V x j:=by
 let⟨h,o⟩:=j;rcases c with ⟨A,E⟩|⟨A,E,a⟩
 ·cases A;rw[E];exact .head _
 ·cases A;let⟨s,q⟩:=B;cases E;rcases a with a|⟨_,b,d⟩
  ·cases a;exact .head _
  ·exact .tail _ (cn.mpr ⟨s,j8.mpr ⟨d,c1 b⟩,rfl⟩)
def VC(a:∀h∈V,x h∈V){j B:da}(Wd:j.1∈V)(c:B∈ji V x j):B.1∈V:=by
 rcases E5 Wd c with ⟨_,e⟩|⟨_,_,e|e⟩
 ·rw[e];exact a _ Wd
 ·rw[e];exact Wd
 ·exact e.2.1
def hF.len(Wo:hF V x g Wj W WA l Wu):Wj.length<=2*V.length:=by
 have:=Wo.fL.ao.length_le_of_subset (l₂:=(V.map λh=>(h,aw))++V.map λh=>(h,aa)) λj Wd=>by
  have c:=Wo.inf j Wd;let⟨h,o⟩:=j;cases o with
  |false=>exact ed _ (cn.mpr ⟨h,c,rfl⟩)
  |true=>exact ej _ (cn.mpr ⟨h,c,rfl⟩)
 rw[b_,aZ,aZ,aZ]at this;lia
def hF.skip(Wo:hF V x g Wj W WA l (B::Wu))(c:B∈c3 Wj):hF V x g Wj W WA l Wu:=
 ⟨Wo.fL,Wo.g4,Wo.inf,Wo.iD,Wo.fM,λj Wd A E J d=>by
  rcases Wo.cl j Wd A E J d with a|⟨a,b⟩
  ·exact .inl a
  ·rcases cg.mp b with rfl|b
   ·exact .inl c
   ·exact .inr ⟨a,b⟩⟩
def hF.put(s:∀h∈V,x h∈V){g:aL}{Wj:g0}{W WA:List da}{l B:da}{Wu:List da}(Wo:hF V x g Wj W WA l (B::Wu))(n:l∈c3 Wj)(br:B∈ji V x l)(c:B∉c3 Wj):hF V x g (Wj++[(B,Z l)]) W (WA++[B]) l Wu:=by
 have b:c3 (Wj++[(B,Z l)])=c3 Wj++[B]:=by unfold c3;rw[d9];rfl
 have o:=Wo.inf l n;refine⟨⟨?_,λa j q e=>?_,λa j e=>?_⟩,?_,λj Wd=>?_,λj Wd=>?_,λj Wd=>?_,λj Wd A E J t=>?_⟩
 ·show (c3<|Wj++[(B,Z l)]).Nodup;rw[b];exact dD.mpr ⟨Wo.fL.ao,e9 _ _,λf k C u e=>c (by rw[cM.mp u]at e;rw[<-e];exact k)⟩
 ·rcases gv a Wj.length with S|S
  ·rw[jN S]at e;let⟨i,d,p,v,w⟩:=Wo.fL.par a j q e;exact⟨i,d,p,by rw[jN ⋯];exact v,w⟩
  ·have y:a=Wj.length:=by
    have:=(gk.mp e).1;rw[b_,eO]at this;lia
   subst y;rw[kM (bb _),w2]at e;cases e;let⟨f,k,e⟩:=cn.mp n;let⟨i,d,D⟩:=mg.mp k;refine⟨i,d,f.2,?_,E5 o br⟩;rw[jN d,eB d,D,<-e]
 ·rcases gv a Wj.length with S|S
  ·rw[jN S]at e;exact Wo.fL.root a j e
  ·rw[kM S]at e;rcases Jl (a-Wj.length) with z|z
   ·rw[z]at e;cases e
   ·obtain⟨r,F⟩:∃r,a-Wj.length=r+1:=⟨a-Wj.length-1,⋯⟩;rw[F]at e;cases e
 ·have:0<Wj.length:=(gk.mp Wo.g4).1;rw[jN this];exact Wo.g4
 ·rw[b]at Wd;rcases dw.mp Wd with Wd|Wd
  ·exact Wo.inf j Wd
  ·rw[cM.mp Wd];exact VC s o br
 ·rw[b];exact ed _ (Wo.iD j Wd)
 ·rw[b];rcases dw.mp Wd with Wd|Wd
  ·exact ed _ (Wo.fM j Wd)
  ·exact ej _ Wd
 ·rw[b]at Wd ⊢;have G:j∈c3 Wj:=(dw.mp Wd).resolve_right λz=>E (ej _ z);rcases Wo.cl j G A (λz=>E<|ed _ z) J t with z|⟨z,m⟩
  ·exact .inl (ed _ z)
  ·rcases cg.mp m with rfl|m
   ·exact .inl (ej _<|.head _)
   ·exact .inr ⟨z,m⟩
abbrev hY(V:List aL)(x:aL->aL)(g:aL)(Wj:g0)(WI:Option ai)(WA:List da)(R I:Option ai):bc:=[Z (.aH<|bR V x),Z<|.im<|X g,Z<|.im<|bW (g,aa),Z<|.aH<|c2 Wj,WI,Z<|.lst<|WA.map bW,R,I]
def QZ(q:V.length<=1000)(f:∀h∈V,x h∈V){g:aL}{Wj:g0}{W WA:List da}{l B:da}{Wu:List da}{WI:Option ai}(Wo:hF V x g Wj W WA l (B::Wu))(i:l∈c3 Wj)(br:B∈ji V x l)(r:WA.length<=Wj.length):
  ∃a d,tH (hY V x g Wj WI WA (Z<|.im<|bW l)<|Z<|.im<|bW B)=Z (.bf,hY V x g a WI d (Z<|.im<|bW l)<|Z<|.im<|bW B)/\hF V x g a W d l Wu/\(∀j∈c3 Wj,j∈c3 a)/\a.length+WA.length=Wj.length+d.length:=by
 have t:=Wo.len;have b:eH (.im<|bW B) (.aH<|c2 Wj)=Z (.im<|.ay<|!decide (B∈c3 Wj)):=by
  show (fe (bW B)<|.aH<|c2 Wj).map (λu=>ai.im<|.ay<|!u)=_;rw[zP];rfl
 by_cases c:B∈c3 Wj
 ·rw[c1 c]at b;exact⟨Wj,WA,eD (cm<|d0 b) rfl,Wo.skip c,λj Wd=>Wd,rfl⟩
 ·rw[cW c]at b;refine⟨Wj++[(B,Z l)],WA++[B],?_,Wo.put f i br c,λj Wd=>?_,by rw[b_,b_,eO,eO];lia⟩
  ·unfold tH;refine gD (cm<|d0 b) (bE (We:=hY V x g (Wj++[(B,Z l)]) WI WA (Z<|.im<|bW l) (Z<|.im<|bW B)) (tb (s:=.im (bW l)) (We:=hY V x g Wj WI WA (Z<|.im<|bW l) (Z<|.im<|bW B)) rfl ?_) (nQ (nj (h:=.lst (WA.map bW)) rfl rfl (a5 rfl rfl) rfl rfl (rf (by rw[aZ];lia)) ?_)))
   ·have e:=SU (p:=Z l) c;have k:=zy B;have m:(c2 Wj).length<100000:=by unfold c2;rw[aZ];lia
    have n:hZ (.aH<|c2 Wj) (.im<|bW B) (.im<|bW l)=Z (.aH<|c2<|Wj++[(B,Z l)]):=by
     show (if ae.keys 7 (iF B)=aa/\(c2 Wj).length<100000 then Z (ai.aH<|fs (c2 Wj) (iF B)<|bW l) else Y)=_;rw[aJ ⟨k,m⟩];exact congrArg (λo=>Z<|ai.aH o) e
    exact Em rfl rfl n rfl
   ·show _=[Z (.aH<|bR V x),Z<|.im<|X g,Z<|.im<|bW (g,aa),Z<|.aH<|c2<|Wj++[(B,Z l)],WI,Z<|.lst<|(WA++[B]).map bW,Z<|.im<|bW l,Z<|.im<|bW B];rw[d9];rfl
  ·show j∈c3 (Wj++[(B,Z l)]);unfold c3;rw[d9];exact ed _ Wd
theorem Hy{V:List aL}{x:aL->aL}(c:V.length<=1000)(d:∀h∈V,x h∈V){g:aL}{W:List da}{l:da}{WI:Option ai}:∀(Wu:List da) {Wj:g0}{WA:List da} (I:Option ai),hF V x g Wj W WA l Wu->l∈c3 Wj->(∀B∈Wu,B∈ji V x l)->WA.length<=Wj.length->
  ∃a b f,d5 (a0 7) tH (Wu.map bW) (hY V x g Wj WI WA (Z<|.im<|bW l) I)=Z (.bf,hY V x g a WI b (Z<|.im<|bW l) f)/\hF V x g a W b l []/\(∀j∈c3 Wj,j∈c3 a)/\a.length+WA.length=Wj.length+b.length
 |[],Wj,WA,I,Wo,_,_,_=>⟨Wj,WA,I,rfl,Wo,λj Wd=>Wd,rfl⟩
 |B::Wu,Wj,WA,I,Wo,e,br,i=>by
  let⟨r,s,k,m,WD,a8⟩:=QZ (WI:=WI) c d Wo e (br B<|.head _) i;let⟨L2,n,WW,o,p,WR,bz⟩:=Hy c d Wu (Z<|.im<|bW B) m (WD l e) (λJ q=>br J<|.tail _ q) ⋯;refine⟨L2,n,WW,?_,p,λj Wd=>WR j<|WD j Wd,⋯⟩;rw[cS,d5];show (tH<|hY V x g Wj WI WA (Z<|.im<|bW l)<|Z<|.im<|bW B).bind _=_;rw[k];exact o
theorem Fe{V:List aL}{x:aL->aL}(f:V.length<=1000)(i:∀h∈V,x h∈V){g:aL}{WI:Option ai}:∀(W:List da) {Wj:g0}{WA:List da}{b:da} (R I:Option ai),hF V x g Wj W WA b []->WA.length<=Wj.length->
  ∃c d n p q,d5 (a0 6) sr (W.map bW) (hY V x g Wj WI WA R I)=Z (.bf,hY V x g c WI d p q)/\hF V x g c [] d n []/\c.length+WA.length=Wj.length+d.length
 |[],Wj,WA,b,R,I,Wo,_=>⟨Wj,WA,b,R,I,rfl,Wo,rfl⟩
 |l::W,Wj,WA,b,R,I,Wo,r=>by
  have k:=Wo.iD l (.head _);have s:hF V x g Wj W WA l (ji V x l):=⟨Wo.fL,Wo.g4,Wo.inf,λj Wd=>Wo.iD j<|.tail _ Wd,Wo.fM,λj Wd A E J m=>by
   by_cases e:j=l
   ·subst e;exact .inr ⟨rfl,m⟩
   ·rcases Wo.cl j Wd (λa=>(cg.mp a).elim e A) E J m with a|⟨_,a⟩
    ·exact .inl a
    ·cases a⟩
  let⟨t,u,WC,v,y,WD,a8⟩:=Hy (WI:=WI) f i (ji V x l) I s k (λB br=>br) r;let⟨L2,C,D,F,H,L,M,bz⟩:=Fe f i W (Z<|.im<|bW l) WC y ⋯;refine⟨L2,C,D,F,H,?_,M,⋯⟩;rw[cS,d5];show (sr<|hY V x g Wj WI WA (Z<|.im<|bW l) I).bind _=_;have N:sr (hY V x g Wj WI WA (Z<|.im<|bW l) I)=Z (.bf,hY V x g t WI u (Z<|.im<|bW l) WC):=by
   unfold sr;refine iE (o:=Y) (w:=(ji V x l).map bW) (We:=hY V x g Wj WI WA (Z<|.im<|bW l) I) ?_ v rfl;have on:=Ls (x:=x) (Wo.inf l k);have O:a7 2 G.qz (ah (ab 0)<|ah (ab 6) ax) (hY V x g Wj WI WA (Z<|.im<|bW l) I)=Z (.lst<|(ji V x l).map bW,hY V x g Wj WI WA (Z<|.im<|bW l) I):=cw (Q:=[.aO 0,.aO 6]) rfl rfl rfl on rfl;unfold b2;rw[gI O];rfl
  rw[N];exact L
structure zb(V:List aL)(x:aL->aL)(g:aL)(Wj:g0):Prop where
 fL:cc.nd x (kb V) g Wj
 g4:Wj[0]?=Z ((g,aa),Y)
 inf:∀j∈c3 Wj,j.1∈V
 cl:∀j∈c3 Wj,∀B∈ji V x j,B∈c3 Wj
def Ic(p:V.length<=1000)(r:∀h∈V,x h∈V){g:aL}(s:g∈V):∃Wj,tq [.aH (bR V x),.im<|X g]=Z (.aH<|c2 Wj,[.aH (bR V x),.im<|X g])/\zb V x g Wj:=by
 have t:cc.nd x (kb V) g [((g,aa),Y)]:=by
  refine⟨e9 _ _,λa j q e=>?_,λa j e=>?_⟩
  ·cases a with
   |zero=>cases e
   |succ a=>cases e
  ·cases a with
   |zero=>cases e;rfl
   |succ a=>cases e
 have u:hF V x g [((g,aa),Y)] [(g,aa)] [] (g,aa) []:=⟨t,rfl,λj Wd=>by rw[cM.mp Wd];exact s,λj Wd=>Wd,(λj Wd=>nomatch Wd),λj Wd A=>absurd Wd A⟩;let⟨Wv,w,⟨Wj,l,WU,R,I,rfl,Wo⟩⟩:=ps (h:=DW) (d:=yg) (λk y=>∃Wj W l WU R I,y=[Z (.aH<|bR V x),Z<|.im<|X g,Z<|.im<|bW (g,aa),Z<|.aH<|c2 Wj,Z<|.lst<|W.map bW,WU,R,I]/\hF V x g Wj W [] l []/\2*(2*V.length-Wj.length)+W.length<=k) (λy=>∃Wj l WU R I,y=[Z (.aH<|bR V x),Z<|.im<|X g,Z<|.im<|bW (g,aa),Z<|.aH<|c2 Wj,Z<|.lst [],WU,R,I]/\hF V x g Wj [] [] l [])
  (λk y z=>by
   let⟨Wj,W,l,WU,R,I,rfl,Wo,C⟩:=z;cases W with
   |nil=>exact⟨aw,_,rfl,(λb=>by cases b),λ_=>⟨Wj,l,WU,R,I,rfl,Wo⟩⟩
   |cons v W=>
    refine⟨aa,_,rfl,λ_=>?_,(λb=>by cases b)⟩;let⟨f,i,D,m,n,E,c,a8⟩:=Fe (WI:=Z .dS) p r (v::W) R I Wo (f7 _);have le:=c.len;rw[gB]at a8;rw[dm]at C;refine⟨.bf,[Z (.aH<|bR V x),Z<|.im<|X g,Z<|.im<|bW (g,aa),Z<|.aH<|c2 f,Z<|.lst<|i.map bW,Z .dS,m,n],?_,.inl rfl,2*(2*V.length-f.length)+i.length,⋯,f,i,D,Z .dS,m,n,rfl,⟨c.fL,c.g4,c.inf,c.fM,(λj Wd=>nomatch Wd),λj Wd A U=>c.cl j Wd (λb=>nomatch b) A⟩,bb _⟩;unfold yg;refine bE (We:=hY V x g Wj (Z<|.lst<|(v::W).map bW) [] R I) rfl (bE (iE (o:=Z (4,.lst<|(v::W).map bW)) (We:=hY V x g Wj (Z .dS) [] R I) rfl E rfl) rfl)) 1000000 _ [Z (.aH<|bR V x),Z<|.im<|X g,Z<|.im<|bW (g,aa),Z<|.aH<|c2 [((g,aa),Y)],Z<|.lst<|[(g,aa)].map bW,Y,Y,Y] ⟨_,_,_,Y,Y,Y,rfl,u,bb _⟩ (by rw[eO,eO];lia)
 refine⟨Wj,?_,Wo.fL,Wo.g4,Wo.inf,λj Wd B br=>?_⟩
 ·unfold tq Gx;exact dk (y:=[Z (.aH<|bR V x),Z<|.im<|X g,Z<|.im<|bW (g,aa),Z .dS,Z<|.lst [],WU,R,I]) rfl (bE (We:=[Z (.aH<|bR V x),Z<|.im<|X g,Z<|.im<|bW (g,aa),Y,Y,Y,Y,Y]) rfl<|bE (We:=[Z (.aH<|bR V x),Z<|.im<|X g,Z<|.im<|bW (g,aa),Z<|.aH<|c2 [((g,aa),Y)],Y,Y,Y,Y]) rfl<|bE (We:=[Z (.aH<|bR V x),Z<|.im<|X g,Z<|.im<|bW (g,aa),Z<|.aH<|c2 [((g,aa),Y)],Z<|.lst<|[(g,aa)].map bW,Y,Y,Y]) rfl<|bE w rfl) rfl
 ·rcases Wo.cl j Wd (λb=>nomatch b) (λb=>nomatch b) B br with b|⟨_,b⟩
  ·exact b
  ·cases b
def Ua{k:Nat}{WK:List Nat}{L:bJ}{I J:List ai}(a:I.length=r)(e:L (I.map Z++List.replicate (k-r) Y)=Z (.bf,y))(b:j7 WK I y 0=J):dp r k WK L I=Z (.im .a6,J):=by
 unfold dp;rw[aJ a,e,<-b]
def xi(ao:(c3 Wj).Nodup){j:da}{p:Option da}(c:(j,p)∈Wj):bD (.aH<|c2 Wj) (.im<|bW j)=Z (.im<|so p):=by
 show (if ae.keys 7 (iF j)=aa then (eC (c2 Wj)<|iF j).map ai.im else Y)=_;rw[aJ (zy j),Qx ao c];rfl
def RP(c:h∈V):bD (.aH<|bR V x) (.im<|X h)=Z (.im<|X<|x h):=by
 show (if ae.keys 7 (cX h)=aa then (eC (bR V x)<|cX h).map ai.im else Y)=_;rw[aJ (nY h),BJ c];rfl
def ko(f C:aL):gd (.im<|X f) (.im<|X C)=Z (.im<|.ay<|!decide (f=C)):=by
 show (if (ae.bI 8 (X f)&&ae.bI 8 (X C))=aa then Z (ai.im<|.ay<|!cT (X f) (X C)) else Y)=_;rw[mI,mI,aJ<|show (aa&&aa)=aa from rfl,tO]
def Sl(f C:aL):dZ (.im<|X f) (.im<|X C)=Z (.im<|.ay<|decide (f=C)):=by
 show (if (ae.bI 8 (X f)&&ae.bI 8 (X C))=aa then Z (ai.im<|.ay<|cT (X f)<|X C) else Y)=_;rw[mI,mI,aJ<|show (aa&&aa)=aa from rfl,tO]
def C6(c:kb V f C):kb V C f:=by
 refine⟨c.2.1,c.1,?_⟩;have:=c.2.2;let⟨g,d⟩:=f;let⟨h,s⟩:=C;unfold c7 at this ⊢;simp only[cg,hi,h6,AI]at this ⊢;lia
def zR{n:Nat}{h s:Nat->aL}{u m:Nat->Nat}(M:V.length<=1000)(F:∀f∈V,x f∈V)(Wo:zb V x g Wj)(T:cc.ou x (kb V) g Wj n h s u m)(G:s n=t):
  ∃L:aL->aL,sH [.aH (bR V x),.aH<|c2 Wj,.im<|X t]=Z (.im .a6,[.aH (bR V L),.aH<|c2 Wj,.im<|X t])/\(∀f∈V,L f∈V)/\(∀a<n,L (h a)=s a)/\∀f,(∀a<n,h a≠f)->L f=x f:=by
 have ao:=Wo.fL.ao;have B:∀a i,a<n->i<n->h a=h i->a=i:=λa i S c e=>by
  have A:=T.lc a S;rw[e]at A;have:=Wo.fL.nq A (T.lc i c);rcases oN a i with p|p|p
  ·have:=T.up (a:=a+1) (i:=i) ⋯ ⋯;have:=T.bz a S;have:=T.a8 i c;lia
  ·exact p
  ·have:=T.up (a:=i+1) (i:=a) ⋯ ⋯;have:=T.bz i c;have:=T.a8 a S;lia
 have o:∀{a:Nat}{j:da}{p:Option da},Wj[a]?=Z (j,p)->(j,p)∈Wj:=λe=>fH e;have C:∀a<n,h a∈V:=λa S=>Wo.inf _ (cn.mpr ⟨_,o<|T.lc a S,rfl⟩);have H:∀a,a<=n->s a∈V:=λa S=>by
  let⟨p,e⟩:=T.zD S;exact Wo.inf _ (cn.mpr ⟨_,o e,rfl⟩)
 let⟨Wv,D,⟨L,WQ,rfl,q,v,w⟩⟩:=ps (h:=Dh) (d:=vb) (λk y=>∃(L:aL->aL) (j:da),y=[Z (.aH<|bR V L),Z<|.aH<|c2 Wj,Z<|.im<|X t,Z<|.im<|bW j]/\(∀f∈V,L f∈V)/\∃i,(∀a,i<=a->a<n->L (h a)=s a)/\(∀f,(∀a,i<=a->a<n->h a≠f)->L f=x f)/\((i<=n/\k=2*i/\j=(s i,aa))\/(∃r,i=r+1/\r<n/\k=2*r+1/\j=(h r,aw))))
  (λy=>∃(L:aL->aL) (WQ:Option ai),y=[Z (.aH<|bR V L),Z<|.aH<|c2 Wj,Z<|.im<|X t,WQ]/\(∀f∈V,L f∈V)/\(∀a<n,L (h a)=s a)/\∀f,(∀a<n,h a≠f)->L f=x f)
  (λk y I=>by
   obtain⟨L,j,rfl,q,i,v,w,⟨c,rfl,rfl⟩|⟨r,rfl,z,rfl,rfl⟩⟩:=I
   ·cases i with
    |zero=>
     have e:=xi ao (o T.g4);rw[T.ny];exact⟨aw,_,cm<|b0 (aN<|d0 e) rfl rfl rfl rfl,(λb=>by cases b),λ_=>⟨L,_,rfl,q,λa S=>v a (f7 _) S,λf l=>w f λa W S=>l a S⟩⟩
    |succ r=>
     have e:=xi ao (o<|T.ld r c);refine⟨aa,_,cm<|b0 (aN<|d0 e) rfl rfl rfl rfl,λ_=>?_,(λb=>by cases b)⟩;refine⟨.bf,[Z (.aH<|bR V L),Z<|.aH<|c2 Wj,Z<|.im<|X t,Z<|.im<|bW (h r,aw)],?_,.inl rfl,2*r+1,⋯,L,_,rfl,q,r+1,v,w,.inr ⟨r,rfl,c,rfl,rfl⟩⟩;unfold vb;exact bE (eD (We:=[Z (.aH<|bR V L),Z<|.aH<|c2 Wj,Z<|.im<|X t,Z<|.im<|bW (s<|r+1,aa)]) rfl rfl) (jx (d0 e) (eM rfl) rfl)
   ·have e:=xi ao (o<|T.lc r z);refine⟨aa,_,cm<|b0 (aN<|d0 e) rfl rfl rfl rfl,λ_=>?_,(λb=>by cases b)⟩;refine⟨.bf,[Z (.aH<|bR V<|l3 L (h r)<|s r),Z<|.aH<|c2 Wj,Z<|.im<|X t,Z<|.im<|bW (s r,aa)],?_,.inl rfl,2*r,⋯,l3 L (h r)<|s r,_,rfl,λf l=>?_,r,λa A E=>?_,λf l=>?_,.inl ⟨⋯,rfl,rfl⟩⟩
    ·unfold vb;have J:hZ (.aH<|bR V L) (.im<|X<|h r) (.im<|X<|s r)=Z (.aH<|bR V<|l3 L (h r)<|s r):=by
      show (if ae.keys 7 (cX<|h r)=aa/\(bR V L).length<100000 then Z (ai.aH<|fs (bR V L) (cX<|h r)<|X<|s r) else Y)=_;rw[aJ ⟨nY _,by unfold bR;rw[aZ];lia⟩,QT<|C r z]
     refine bE (We:=[Z (.aH<|bR V<|l3 L (h r)<|s r),Z<|.aH<|c2 Wj,Z<|.im<|X t,Z<|.im<|bW (h r,aw)]) (gD (We:=[Z (.aH<|bR V L),Z<|.aH<|c2 Wj,Z<|.im<|X t,Z<|.im<|bW (h r,aw)]) rfl<|tb (b0 (aN<|d0 e) rfl rfl rfl<|show bD (.im<|so<|Z (s r,aa)) (aC 0)=Z (.im<|X<|s r) from rfl)<|Em (n:=X (h r)) rfl rfl J rfl) (jx (d0 e) (eM rfl) rfl)
    ·unfold l3;split
     ·exact H r ⋯
     ·exact q f l
    ·unfold l3;by_cases b:a=r
     ·rw[b,aJ rfl]
     ·rw[aP λp=>b<|B a r E z p];exact v a ⋯ E
    ·unfold l3;rw[aP λp=>l r (bb _) z p.symm];exact w f λa A E=>l a ⋯ E) 1000000 (2*n) [Z (.aH<|bR V x),Z<|.aH<|c2 Wj,Z<|.im<|X t,Z<|.im<|bW (s n,aa)] ⟨x,_,rfl,F,n,λa A E=>⋯,λf W=>rfl,.inl ⟨bb _,rfl,rfl⟩⟩ (by
   have:n<=V.length:=by
    refine cc.t_ (L:=h) C λa i A E e=>?_;have:=B a i ⋯ E e;lia
   lia)
 refine⟨L,?_,q,v,w⟩;unfold sH FN;refine Ua (y:=[Z (.aH<|bR V L),Z<|.aH<|c2 Wj,Z<|.im<|X t,WQ]) rfl (bE (We:=[Z (.aH<|bR V x),Z<|.aH<|c2 Wj,Z<|.im<|X t,Z<|.im<|bW (t,aa)]) rfl ?_) rfl;rw[<-G]at D ⊢;exact D
theorem HR{V:List aL}{x:aL->aL}(a:∀f∈V,x f∈V){t:aL}(b:t∈V):∀r,cc.it x r t∈V
 |0=>b
 |r+1=>by rw[cc.j_];exact a _ (HR a b r)
def S5(p:r<10000)(j:∀f∈V,x f∈V)(l:t∈V)(A:cc.it x (r+1) t=g)(E:∀a,a<=r->cc.it x a t≠g):
  rx [.aH (bR V x),.im<|X g,.im<|X t]=Z (aS<|cc.dR x t r++[g],[.aH (bR V x),.im<|X g,.im<|X t]):=by
 have rs:∀k,(range<|k+1+1).map (λa=>cc.it x a t)=(range<|k+1).map (λa=>cc.it x a t)++[cc.it x (k+1) t]:=λk=>by rw[Af,d9];rfl
 have fin:∀k,dv (((range<|k+1).map<|λa=>cc.it x a t).map X) (-1)=Z (X<|cc.it x k t):=λk=>pT (by
  rw[Af,d9,d9];simp)
 let⟨Wv,m,rfl⟩:=ps (h:=A2) (d:=Cn) (λk y=>∃i,i<=r+1/\k=r+1-i/\y=[Z (.aH<|bR V x),Z<|.im<|X g,Z<|.im<|X t,Z<|aS<|(range<|i+1).map λa=>cc.it x a t])
  (λy=>y=[Z (.aH<|bR V x),Z<|.im<|X g,Z<|.im<|X t,Z<|aS<|(range<|r+1+1).map λa=>cc.it x a t])
  (λk y n=>by
   let⟨i,q,rfl,rfl⟩:=n;have o:=ko (cc.it x i t) g;have e:bD (aS<|(range<|i+1).map λa=>cc.it x a t) (aC<|-1)=Z (.im<|X<|cc.it x i t):=by
    show (dv (((range<|i+1).map<|λa=>cc.it x a t).map X)<|-1).map ai.im=_;rw[fin];rfl
   have b:A2 [Z (.aH<|bR V x),Z<|.im<|X g,Z<|.im<|X t,Z<|aS<|(range<|i+1).map λa=>cc.it x a t]=Z (!decide (cc.it x i t=g),[Z (.aH<|bR V x),Z<|.im<|X g,Z<|.im<|X t,Z<|aS<|(range<|i+1).map λa=>cc.it x a t]):=cm (b0 (aN<|b0 rfl (aN rfl) rfl rfl e) rfl rfl rfl o);rcases gv i (r+1) with s|u
   ·rw[cW (E i ⋯)]at b;refine⟨aa,_,b,λ_=>?_,(λc=>by cases c)⟩;refine⟨.bf,_,nQ (nj (h:=aS ((range<|i+1).map λa=>cc.it x a t)) rfl rfl (a5 (aN<|b0 rfl (aN<|b0 rfl (aN rfl) rfl rfl e) rfl rfl<|RP<|HR j l i) rfl) rfl rfl (rf (by rw[aZ,aZ,hR];lia)) rfl),.inl rfl,r+1-(i+1),⋯,i+1,⋯,rfl,?_⟩;rw[rs];show [_,_,_,Z<|ai.lst<|((range<|i+1).map λa=>cc.it x a t).map X++[X (x<|cc.it x i t)]]=[_,_,_,Z<|ai.lst<|(((range<|i+1).map λa=>cc.it x a t)++[cc.it x (i+1) t]).map X];rw[d9,cc.j_];rfl
   ·have:i=r+1:=⋯
    subst this;rw[c1 A]at b;exact⟨aw,_,b,(λc=>by cases c),λ_=>rfl⟩) 1000000 (r+1) [Z (.aH<|bR V x),Z<|.im<|X g,Z<|.im<|X t,Z<|aS [t]] ⟨0,f7 _,rfl,rfl⟩ ⋯
 unfold rx IE;refine dk (y:=[Z (.aH<|bR V x),Z<|.im<|X g,Z<|.im<|X t,Z .dS]) rfl (bE (We:=[Z (.aH<|bR V x),Z<|.im<|X g,Z<|.im<|X t,Z<|aS [t]]) rfl<|bE m ?_) rfl;rw[rs,A];rfl
theorem CU:∀(Wk a:List (List ae×ae)),((a++Wk).map (·.1)).Nodup->Wk.foldl (λg q=>fs g q.1 q.2) a=a++Wk
 |[],a,_=>(cO a).symm
 |q::Wk,a,c=>by
  rw[h4];have e:fs a q.1 q.2=a++[q]:=by
   unfold fs;rw[aP];intro b;let⟨f,d,h⟩:=pR.mp b;rw[d9]at c;exact (dD.mp c).2.2 f.1 (cn.mpr ⟨f,d,rfl⟩) q.1 (.head _) (hh h)
  rw[e,CU Wk (a++[q]) (by rw[bM];exact c),bM];rfl
def Ma{Wk:List (List ae×ae)}(c:(Wk.map (·.1)).Nodup):hE Wk=Wk:=CU Wk [] c
def u2{W_:Type}{L:Ww->W_}{t:List Ww}(inj:∀f∈t,∀C∈t,L f=L C->f=C)(ao:t.Nodup):(t.map L).Nodup:=by
 rw[m3,kH];exact ao.imp_of_mem λ{f C} a b c e=>c (inj f a C b e)
def M5(V:List aL):jV (V.map λh=>.tup [X h,X h])=Z (bR V id):=by
 induction V with
 |nil=>rfl
 |cons h u a=>
  rw[cS];show (jV<|u.map λh=>.tup [X h,X h]).map (λj=>(cX h,X h)::j)=_;rw[a];rfl
def O_(ao:V.Nodup)(a:V.length<=1000):js [.lst (V.map λh=>.tup [X h,X h])]=Z (.aH<|bR V id):=by
 have A:((bR V id).all λq=>ae.keys 7 q.1)=aa:=by
  rw[e_];intro q b;let⟨f,d,rfl⟩:=cn.mp b;exact nY f
 have E:(bR V id).length<=1000:=by unfold bR;rw[aZ];exact a
 have c:hE (bR V id)=bR V id:=Ma (by
  unfold bR;rw[fc];exact u2 (λf W C W e=>oF e) ao)
 show (jV<|V.map λh=>.tup [X h,X h]).bind _=_;rw[M5];show (if ((bR V id).all λq=>ae.keys 7 q.1)=aa/\(bR V id).length<=1000 then Z (ai.aH<|hE<|bR V id) else Y)=_;rw[aJ ⟨A,E⟩,c]
abbrev bQ:=List aL
variable{H:List bQ}
def az(l:bQ):ae:=(.tup (l.map X))
def oh:ae->bQ
 |.tup t=>t.map mQ
 |_=>[]
def tP(l:bQ):oh (az l)=l:=by
 show (l.map X).map mQ=l;rw[fc];exact (k_ λh W=>u4 h).trans (mG l)
def DG{J v:bQ}(c:az J=az v):J=v:=by rw[<-tP J,c,tP]
def IP{t:List ae}{Wg:List bQ}(c:t.Perm (Wg.map az)):∃a:List bQ,a.Perm Wg/\t=a.map az:=by
 have e:t=(t.map oh).map az:=by
  rw[fc];refine (mG t).symm.trans (k_ λf b=>?_);let⟨l,W,rfl⟩:=cn.mp (c.mem_iff.mp b);show az l=az (oh<|az l);rw[tP]
 refine⟨t.map oh,?_,e⟩;have:=c.map oh;rw[fc]at this;exact this.trans (Gg<|(k_ λl W=>tP l).trans<|mG Wg)
theorem An:∀Wk:bQ,ae.de 5 (Wk.map X)=aa
 |[]=>rfl
 |h::Wk=>by rw[cS,ae.de,An Wk];rfl
theorem px:∀J v:bQ,gz 5 (J.map X) (v.map X)=aa
 |[],[]=>rfl
 |[],d::v=>An (d::v)
 |g::J,[]=>An (g::J)
 |g::J,d::v=>by
  rw[cS,cS,gz,px J v];rfl
def Hd(ao:H.Nodup)(b:H.length<=1000)(ne:∀l∈H,l≠[]):oW (H.map az):=by
 refine⟨⟨by rw[aZ];exact b,λf a C c=>?_,u2 (λf W C W e=>DG e) ao⟩,.inr λf a=>?_⟩
 ·let⟨J,W,rfl⟩:=cn.mp a;let⟨v,W,rfl⟩:=cn.mp c;exact px J v
 ·let⟨J,d,rfl⟩:=cn.mp a;cases J with
  |nil=>exact absurd rfl (ne _ d)
  |cons h u=>rfl
def mC(H:List bQ):Prop:=(H.Pairwise λg d=>bp (az g) (az d)=aa)
def CX(ao:H.Nodup)(a:H.length<=1000)(ne:∀l∈H,l≠[]):∃F:List bQ,h2 (H.map az)=Z (.lst<|F.map az)/\F.Perm H/\mC F:=by
 have o:=Hd ao a ne;let⟨F,A,E⟩:=IP (ju<|H.map az);refine⟨F,?_,A,?_⟩
 ·unfold h2;rw[aJ (rh.mpr o),E]
 ·have:=sM o.ord.ao o.ord.j1;rw[E]at this;exact kH.mp this
open Classical in
def gS(x:aL->aL)(g t:aL):Nat:=(if c:∃r,cc.mU x g t r then c.choose else 0)
def iX(x:aL->aL)(g d t:aL):bQ:=(g::((cc.dR x t<|gS x g t).reverse++[d]))
def hG(Wj:g0)(h:aL):Bool:=(decide ((h,aw)∈c3 Wj) && !decide ((h,aa)∈c3 Wj))
structure fv(V:List aL)(g d:aL)(x:aL->aL)(M:List aL)(Wj:g0):Prop where
 w:cc.d7 V (kb V) g d x M
 hf:∀f∈V,x f∈V
 s:zb V x g Wj
def fv.nO(WA:fv V g d x M Wj){t:aL}(a:t∈M):cc.mU x g t (gS x g t):=by
 have c:∃r,cc.mU x g t r:=WA.w.comes a;unfold gS;rw[dif_pos c];exact c.choose_spec
def fv.ei(WA:fv V g d x M Wj):M.length<=4:=WA.w.ei (bs:=c7 d) λf c=>(C6 c).2.2
def fv.xF(WA:fv V g d x M Wj){t:aL}(b:t∈M):gS x g t+1<=V.length:=by
 have c:=WA.nO b;exact cc.t_ (L:=λa=>cc.it x a t) (λa S=>(WA.w.gw _ (c.2 a ⋯)).1) λa i A E=>WA.w.dist b A λn e=>c.2 n ⋯
def fv.OK(WA:fv V g d x M Wj):(M.map<|iX x g d).Nodup:=by
 refine u2 (λf a C b e=>?_) WA.w.ao;unfold iX at e;have h:=List.append_inj_left' (List.cons.inj e).2 rfl;have i:cc.dR x f (gS x g f)=cc.dR x C (gS x g C):=List.reverse_inj.mp h;have c:f∈cc.dR x f (gS x g f):=cc.vE.mpr ⟨0,f7 _,rfl⟩;exact WA.w.apart a b (WA.nO a) (WA.nO b) c (i ▸ c)
def fv.next(G:V.length<=1000)(B:g≠d)(D:d∉c7 g)(WA:fv V g d x M Wj)(c:(d,aw)∈c3 Wj):
  ∃(t:aL) (L:aL->aL),((d,aw),Z (t,aa))∈Wj/\sH [.aH (bR V x),.aH<|c2 Wj,.im<|X t]=Z (.im .a6,[.aH (bR V L),.aH<|c2 Wj,.im<|X t])/\cc.d7 V (kb V) g d L (M++[t])/\∀f∈V,L f∈V:=by
 let⟨⟨j,p⟩,E,e⟩:=cn.mp c;cases e;let⟨a,S,H⟩:=mg.mp E;have z:Wj[a]?=Z ((d,aw),p):=by rw[eB S,H]
 cases p with
 |none=>exact absurd (WA.s.fL.root a _ z) ↥0
 |some q=>
  let⟨i,an,ap,J,N⟩:=WA.s.fL.par a _ _ z;let⟨t,o⟩:=q;rcases N with ⟨_,e⟩|⟨O,_,k⟩
  ·exact absurd e ↥0
  ·cases O;let⟨n,h,s,u,m,T,r,as⟩:=WA.s.fL.path i J;have F:∀v<n,h v≠d:=λv U b=>by
    have A:=T.lc v U;rw[b]at A;have:=WA.s.fL.nq A z;have:=T.bz v U;have:=T.up (a:=v+1) (i:=n) ⋯ (bb _);lia
   have P:kb V t d:=by
    rcases k with k|k
    ·exfalso;have k:d=t:=k;cases n with
     |zero=>exact B (T.ny.symm.trans<|r.trans k.symm)
     |succ n=>
      have y:=T.ds n (pL _);rw[r,<-k]at y;have Q:=F n (pL _);have:=WA.w.on (h n) (λb=>Q (by rw[<-b,<-y])) (by rw[<-y];exact λb=>B b.symm);rw[<-y]at this;exact this WA.w.yr
    ·exact k
   let⟨L,e,R,al,am⟩:=zR G WA.hf WA.s T r;refine⟨t,L,E,e,?_,R⟩;have:=cc.lay WA.w (WA.s.fL.b7 T F al am) (λf C b=>⟨b.1,b.2.1⟩) (by rw[r];exact P) λb=>D b.2.2;rw[r]at this;exact this
def u1(d:aL)(o:Bool){y:bc}{a:Nat}(c:y[a]?=Z (Z<|.im<|X d)):cQ (ah (ab a)<|ah (af<|aD<|wJ o) ax) y=Z (.im<|bW (d,o),y):=by
 refine sE (Q:=[.aO a,.cC<|.im<|wJ o]) (I:=[.im (X d),.im<|wJ o]) (We:=y) ?_ ?_ (ie rfl) rfl
 ·simp -implicitDefEqProofs [c]
 ·simp -implicitDefEqProofs [c]
abbrev g9(V:List aL)(g d:aL)(x:aL->aL)(M:List aL)(Wj:g0)(R I:Option ai):bc:=[Z (av V),Z<|.im<|X g,Z<|.im<|X d,Z<|.aH<|bR V x,Z<|aS M,Z<|.aH<|c2 Wj,R,I]
def Gi(h:aL)(o:Bool)(Wj:g0):eX (.im<|bW (h,o)) (.aH<|c2 Wj)=Z (.im<|.ay<|decide ((h,o)∈c3 Wj)):=by
 show (fe (bW (h,o))<|.aH<|c2 Wj).map (λu=>ai.im<|.ay u)=_;rw[zP];rfl
def Sv(h:aL)(o:Bool)(Wj:g0):eH (.im<|bW (h,o)) (.aH<|c2 Wj)=Z (.im<|.ay<|!decide ((h,o)∈c3 Wj)):=by
 show (fe (bW (h,o))<|.aH<|c2 Wj).map (λu=>ai.im<|.ay<|!u)=_;rw[zP];rfl
def Lk(b:V.length<=1000)(i:g∈V)(k:g≠d)(D:d∉c7 g)(WA:fv V g d x M Wj)(c:(d,aw)∈c3 Wj):
  ∃(t:aL) (L:aL->aL) (a:g0),ua (g9 V g d x M Wj Y Y)=Z (.bf,g9 V g d L (M++[t]) a Y Y)/\fv V g d L (M++[t]) a:=by
 let⟨t,L,l,m,W,e⟩:=WA.next b k D c;let⟨a,n,Wo⟩:=Ic b e i;refine⟨t,L,a,?_,W,e,Wo⟩;have r:=WA.ei;unfold ua;have o:cQ (ah (ab 2)<|ah (af<|aD<|.str "in") ax) (g9 V g d x M Wj Y Y)=Z (.im<|bW (d,aw),g9 V g d x M Wj Y Y):=u1 d aw rfl;have p:aB bD (af<|aB bD (ab 5)<|af<|cQ<|ah (ab 2)<|ah (af<|aD<|.str "in") ax) (af<|aD<|.int 0) (g9 V g d x M Wj Y Y)=Z (.im<|X t,g9 V g d x M Wj Y Y):=
  b0 (aN<|b0 rfl (aN o) rfl rfl<|xi WA.s.fL.ao l) rfl rfl rfl rfl;have f:(M.map X)++[X t]=(M++[t]).map X:=by rw[d9];rfl
 refine bE (We:=g9 V g d x (M++[t]) Wj Y Y) (nQ (nj (h:=aS M) rfl rfl (a5 (aN p) rfl) rfl rfl (rf (by rw[aZ];lia)) (by rw[f];rfl))) ?_;have q:bD (aS<|M++[t]) (aC<|-1)=Z (.im<|X t):=by
  show (dv ((M++[t]).map X)<|-1).map ai.im=_;rw[<-f,pT<|qw];rfl
 refine bE (We:=g9 V g d L (M++[t]) Wj Y Y) (nQ<|cw (Q:=[.aO 3,.aO 5,.cC<|.im<|X t]) (a5 rfl<|a5 rfl<|a5 (aN<|b0 rfl (aN rfl) rfl rfl q) rfl) rfl rfl m rfl) ?_;exact hO (cw (Q:=[.aO 3,.aO 1]) rfl rfl rfl n rfl) (eM rfl) rfl
def Oz(h:V.length<=1000)(WA:fv V g d x M Wj){t:aL}(b:t∈M):wI [Z (.im<|X t),Z<|.im<|X d,Z<|.aH<|bR V x,Z<|.im<|X g]=Z (.im<|az<|iX x g d t,[Z (.im<|X t),Z<|.im<|X d,Z<|.aH<|bR V x,Z<|.im<|X g]):=by
 have N:=WA.nO b;have i:=WA.xF b;have e:=S5 (V:=V) (x:=x) (g:=g) (t:=t) (r:=gS x g t) ⋯ WA.hf (WA.w.gw t<|N.2 0<|f7 _).1 N.1 λa S=>WA.w.ne (N.2 a S);have c:(cc.dR x t<|gS x g t).length=gS x g t+1:=by unfold cc.dR;rw[aZ,hR]
 have f:a7 3 G.rx (ah (ab 2)<|ah (ab 3)<|ah (ab 0) ax) [Z (.im<|X t),Z<|.im<|X d,Z<|.aH<|bR V x,Z<|.im<|X g]=Z (aS<|cc.dR x t (gS x g t)++[g],[Z (.im<|X t),Z<|.im<|X d,Z<|.aH<|bR V x,Z<|.im<|X g]):=cw (Q:=[.aO 2,.aO 3,.aO 0]) rfl rfl rfl e rfl;have ad:aB b8 (af<|eG<|ah (ab 1) ax) (af<|a7 3 G.rx<|ah (ab 2)<|ah (ab 3)<|ah (ab 0) ax) [Z (.im<|X t),Z<|.im<|X d,Z<|.aH<|bR V x,Z<|.im<|X g]=Z (aS (d::(cc.dR x t (gS x g t)++[g])),[Z (.im<|X t),Z<|.im<|X d,Z<|.aH<|bR V x,Z<|.im<|X g]):=by
  refine b0 (aN rfl) (aN f) rfl rfl ?_;show (if [X d].length+((cc.dR x t (gS x g t)++[g]).map X).length<=100000 then Z (ai.lst<|[X d]++(cc.dR x t (gS x g t)++[g]).map X) else Y)=_;rw[aJ (by rw[aZ,b_,c,eO,eO];lia)];rfl
 unfold wI Bs;rw[a5 (aN ad) rfl];show Z (ai.im<|.tup ((d::(cc.dR x t (gS x g t)++[g])).map X).reverse,_)=_;rw[<-Bl];unfold az iX;rw[s9,Hk];rfl
def TK(ao:V.Nodup)(a:V.length<=1000)(j:g∈V)(T:d∈V)(m:g≠d)(D:d∉c7 g):
  ∃(x:aL->aL) (M:List aL) (Wj:g0) (F:List bQ),p3 [av V,.im<|X g,.im<|X d]=Z (.im<|.tup [.tup ((V.filter<|hG Wj).map X),.tup<|F.map az],[av V,.im<|X g,.im<|X d])/\fv V g d x M Wj/\(d,aw)∉c3 Wj/\F.Perm (M.map<|iX x g d)/\mC F:=by
 let⟨b,s,v⟩:=Ic (x:=id) a (λh c=>c) j;have A:fv V g d id [] b:=⟨cc.d7.nil,λh c=>c,v⟩;have B:b4 1 [] (b2<|ab 0) (a0 0) cB G.JD [Z (av V),Z<|.im<|X g,Z<|.im<|X d,Y,Y,Y,Y,Y]=Z (.lst<|V.map λh=>.tup [X h,X h],[Z (av V),Z<|.im<|X g,Z<|.im<|X d,Y,Y,Y,Y,Y]):=by
  refine fz (w:=V.map X) (o:=Y) (We:=[Z (av V),Z<|.im<|X g,Z<|.im<|X d,Y,Y,Y,Y,Y]) rfl (fR X (λh=>.tup [X h,X h]) _ (λh W=>?_) ⋯) rfl;exact⟨[Z (.im<|X h)],_,[Z (.im<|X h)],rfl,rfl,rfl,rfl⟩
 let⟨Wv,C,⟨x,M,Wj,rfl,WA,E⟩⟩:=ps (h:=zg) (d:=ua) (λk y=>∃x M Wj,y=g9 V g d x M Wj Y Y/\fv V g d x M Wj/\4-M.length<=k) (λy=>∃x M Wj,y=g9 V g d x M Wj Y Y/\fv V g d x M Wj/\(d,aw)∉c3 Wj)
  (λk y H=>by
   let⟨x,M,Wj,rfl,WA,n⟩:=H;have f:zg (g9 V g d x M Wj Y Y)=Z (decide ((d,aw)∈c3 Wj),g9 V g d x M Wj Y Y):=cm (b0 (aN<|u1 d aw rfl) rfl rfl rfl<|Gi d aw Wj);by_cases c:(d,aw)∈c3 Wj
   ·rw[c1 c]at f;let⟨t,L,I,e,p⟩:=Lk a j m D WA c;have:=p.ei;rw[b_,eO]at this;exact⟨aa,_,f,λ_=>⟨.bf,_,e,.inl rfl,4-(M++[t]).length,by rw[b_,eO];lia,L,_,I,rfl,p,bb _⟩,(λi=>by cases i)⟩
   ·rw[cW c]at f;exact⟨aw,_,f,(λi=>by cases i),λ_=>⟨x,M,Wj,rfl,WA,c⟩⟩) 1000000 4 (g9 V g d id [] b Y Y) ⟨id,[],b,rfl,A,Nat.sub_le _ _⟩ ⋯
 have ei:=WA.ei;have U:(M.map<|iX x g d).length=M.length:=aZ _;let⟨F,q,WT,up⟩:=CX WA.OK ⋯ (λl J=>by
  let⟨t,W,rfl⟩:=cn.mp J;exact AD _ _)
 refine⟨x,M,Wj,F,?_,WA,E,WT,up⟩;have N:b4 1 [5] (b2<|ab 0) (a0 0) G.Bc G.FF (g9 V g d x M Wj Y Y)=Z (aS<|V.filter<|hG Wj,g9 V g d x M Wj Y Y):=by
  refine fz (w:=V.map X) (o:=Y) (We:=g9 V g d x M Wj Y Y) rfl (mm X (hG Wj) X _ [] (λh W=>?_) (by rw[gB];lia)) rfl;refine⟨[Z (.im<|X h),Z<|.aH<|c2 Wj],[Z (.im<|X h),Z<|.aH<|c2 Wj],rfl,?_,λ_=>rfl,λ_=>⟨[Z (.im<|X h),Z<|.aH<|c2 Wj],rfl,rfl⟩⟩;have WD:aY (aB eX (af<|cQ<|ah (ab 0)<|ah (af<|aD<|.str "in") ax)<|ab 1) [Z (.im<|X h),Z<|.aH<|c2 Wj]=Z (decide ((h,aw)∈c3 Wj),[Z (.im<|X h),Z<|.aH<|c2 Wj]):=cm (b0 (aN<|u1 h aw rfl) rfl rfl rfl<|Gi h aw Wj);have WR:aY (aB eH (af<|cQ<|ah (ab 0)<|ah (af<|aD<|.str "out") ax)<|ab 1) [Z (.im<|X h),Z<|.aH<|c2 Wj]=Z (!decide ((h,aa)∈c3 Wj),[Z (.im<|X h),Z<|.aH<|c2 Wj]):=cm (b0 (aN<|u1 h aa rfl) rfl rfl rfl<|Sv h aa Wj);unfold Bc hG;cases r:decide ((h,aw)∈c3 Wj) with
  |false=>rw[r]at WD;exact jD WD
  |true=>rw[r]at WD;exact f_ WD (WR.trans (by rw[Ht]))
 have O:b4 1 [2,3,1] (b2<|ab 4) (a0 0) cB G.wI (g9 V g d x M Wj (Z<|aS<|V.filter<|hG Wj) Y)=Z (.lst<|M.map λt=>az<|iX x g d t,g9 V g d x M Wj (Z<|aS<|V.filter<|hG Wj) Y):=by
  refine fz (w:=M.map X) (o:=Z (4,aS M)) (We:=[Z (av V),Z<|.im<|X g,Z<|.im<|X d,Z<|.aH<|bR V x,Z .dS,Z<|.aH<|c2 Wj,Z<|aS<|V.filter<|hG Wj,Y]) rfl (fR X (λt=>az<|iX x g d t) _ (λt n=>?_) ⋯) rfl;exact⟨[Z (.im<|X t),Z<|.im<|X d,Z<|.aH<|bR V x,Z<|.im<|X g],_,[Z (.im<|X t),Z<|.im<|X d,Z<|.aH<|bR V x,Z<|.im<|X g],rfl,rfl,Oz a WA n,rfl⟩
 have P:ib [.lst (M.map λt=>az<|iX x g d t)]=Z (.lst<|F.map az):=by
  rw[fc]at q;cases M with
  |nil=>
   have:F=[]:=List.perm_nil.mp WT;rw[this];rfl
  |cons t u=>exact q
 have R:aY (aB dZ (ab 1)<|ab 2) [Z (av V),Z<|.im<|X g,Z<|.im<|X d,Y,Y,Y,Y,Y]=Z (aw,[Z (av V),Z<|.im<|X g,Z<|.im<|X d,Y,Y,Y,Y,Y]):=cm (d0 ((Sl g d).trans (by rw[cW m])));have S:aY (aB eX (ab 2)<|af<|a7 1 G.kD<|ah (ab 1) ax) [Z (av V),Z<|.im<|X g,Z<|.im<|X d,Y,Y,Y,Y,Y]=Z (aw,[Z (av V),Z<|.im<|X g,Z<|.im<|X d,Y,Y,Y,Y,Y]):=by
  refine cm (b0 rfl (aN<|cw (Q:=[.aO 1]) rfl rfl rfl (Hm g) rfl) rfl rfl ?_);show (fe (X d)<|aS<|c7 g).map (λu=>ai.im<|.ay u)=_;rw[wj,cW D];rfl
 unfold p3 Dm;refine dk (y:=g9 V g d x M Wj (Z<|aS<|V.filter<|hG Wj) (Z<|.lst<|M.map λt=>az<|iX x g d t)) rfl ?_ rfl;refine bE (eD (c9 R S) rfl) (bE (We:=[Z (av V),Z<|.im<|X g,Z<|.im<|X d,Z<|.aH<|bR V id,Y,Y,Y,Y]) (jx (cL (a5 (aN B) rfl) rfl<|O_ ao a) (eM rfl) rfl) ?_);refine bE (We:=[Z (av V),Z<|.im<|X g,Z<|.im<|X d,Z<|.aH<|bR V id,Z<|aS [],Y,Y,Y]) rfl (bE (We:=g9 V g d id [] b Y Y) (hO (cw (Q:=[.aO 3,.aO 1]) rfl rfl rfl s rfl) (eM rfl) rfl)<|bE C ?_);refine bE (jx N (eM rfl) rfl) (bE (jx O (eM rfl) rfl)<|eJ<|sE (a5 (aN<|cL (a5 rfl rfl) rfl rfl)<|a5 (aN<|cL (a5 (aN<|cL (a5 rfl rfl) rfl P) rfl) rfl rfl) rfl) rfl (ie rfl) rfl)
def wC(t:List aL)(h:aL):eH (.im<|X h) (av t)=Z (.im<|.ay<|!decide (h∈t)):=by
 show (fe (X h)<|av t).map (λu=>ai.im<|.ay<|!u)=_;rw[Hl];rfl
def sA(t:List aL)(h:aL):eH (.im<|X h) (aS t)=Z (.im<|.ay<|!decide (h∈t)):=by
 show (fe (X h)<|aS t).map (λu=>ai.im<|.ay<|!u)=_;rw[wj];rfl
def uB(t:List aL)(h:aL):eX (.im<|X h) (av t)=Z (.im<|.ay<|decide (h∈t)):=by
 show (fe (X h)<|av t).map (λu=>ai.im<|.ay u)=_;rw[Hl];rfl
def Ts(t:List aL)(h:aL):eX (.im<|X h) (aS t)=Z (.im<|.ay<|decide (h∈t)):=by
 show (fe (X h)<|aS t).map (λu=>ai.im<|.ay u)=_;rw[wj];rfl
def MN(bs:List aL):dZ (aS bs) (.lst [])=Z (.im<|.ay<|decide (bs=[])):=by
 show (if (ae.de 8 (bs.map X)&&ae.de 8 [])=aa then Z (ai.im<|.ay<|fh (bs.map X) []) else Y)=_;rw[nX,aJ<|show (aa&&ae.de 8 [])=aa from rfl];cases bs with
 |nil=>rfl
 |cons g u=>rfl
def O7{c:ai}(m:ew (r+2) c)(N:V.length<=1000)(u:V≠[]):∃U,ew r U/\(oX [c,av V]=Z (.im .a6,[U,av V])\/∃g d,g∈V/\d∈V/\g≠d/\d∉c7 g/\oX [c,av V]=Z (.im<|.tup [X g,X d],[U,av V])):=by
 have O:=lp.mpr u;let⟨v,A,x,B,P,Wh⟩:=ik (r:=r+1) (k:=(V.length:Int)) m ⋯ ⋯;obtain⟨g,j⟩:∃g,V[v.toNat]?=Z g:=⟨V[v.toNat]'⋯,by simp⟩;let⟨l,rfl⟩:=m.lst;let⟨b,rfl⟩:=Wh.lst;have C:cF [av V]=Z (aC (V.length:Int)):=by
  show Z (ai.im<|.int ((V.map X).length:Int))=_;rw[aZ]
 have D:bD (av V) (aC v)=Z (.im<|X g):=by
  show (dv (V.map X) v).map ai.im=_;rw[oO B j];rfl
 have n:bV 2 (aB bD (ab 1)<|af<|a7 2 G.fP<|ah (ab 0)<|ah (af<|bo cF<|ah (ab 1) ax) ax) [Z (.lst l),Z<|av V,Y,Y]=Z (.bf,[Z (.lst b),Z<|av V,Z<|.im<|X g,Y]):=
  hO (mu (We:=[Z (.lst l),Z<|av V,Y,Y]) (WO:=[Z (.lst b),Z<|av V,Y,Y]) rfl (gI<|cw (Q:=[.aO 0,.cC<|aC (V.length:Int)]) (a5 rfl<|a5 (aN<|cL (a5 rfl rfl) rfl C) rfl) rfl rfl x rfl) rfl rfl D) (eM rfl) rfl;have F:b4 1 [2] (b2<|ab 1) (a0 0) G.uJ G.yb [Z (.lst b),Z<|av V,Z<|.im<|X g,Y]=Z (aS<|V.filter λh=>!decide (h=g) && !decide (h∈c7 g),[Z (.lst b),Z<|av V,Z<|.im<|X g,Y]):=by
  refine fz (w:=V.map X) (o:=Y) (We:=[Z (.lst b),Z<|av V,Z<|.im<|X g,Y]) rfl (mm X (λh=>!decide (h=g) && !decide (h∈c7 g)) X _ [] (λh W=>?_) (by rw[gB];lia)) rfl;refine⟨[Z (.im<|X h),Z<|.im<|X g],[Z (.im<|X h),Z<|.im<|X g],rfl,?_,λ_=>rfl,λ_=>⟨[Z (.im<|X h),Z<|.im<|X g],rfl,rfl⟩⟩;have WD:aY (aB gd (ab 0)<|ab 1) [Z (.im<|X h),Z<|.im<|X g]=Z (!decide (h=g),[Z (.im<|X h),Z<|.im<|X g]):=cm (d0<|ko h g);have WR:aY (aB eH (ab 0)<|af<|a7 1 G.kj<|ah (ab 1) ax) [Z (.im<|X h),Z<|.im<|X g]=Z (!decide (h∈c7 g),[Z (.im<|X h),Z<|.im<|X g]):=cm (b0 rfl (aN<|cw (Q:=[.aO 1]) rfl rfl rfl (tQ g) rfl) rfl rfl<|sA (c7 g) h);unfold uJ;cases p:(!decide (h=g)) with
  |false=>rw[p]at WD;exact jD WD
  |true=>rw[p]at WD;exact f_ WD (WR.trans (by rw[Ht]))
 have f:bV 3 (b4 1 [2] (b2<|ab 1) (a0 0) G.uJ G.yb) [Z (.lst b),Z<|av V,Z<|.im<|X g,Y]=Z (.bf,[Z (.lst b),Z<|av V,Z<|.im<|X g,Z<|aS<|V.filter λh=>!decide (h=g) && !decide (h∈c7 g)]):=jx F (eM rfl) rfl;generalize q:(V.filter λh=>!decide (h=g) && !decide (h∈c7 g))=a at f;have e:aY (aB dZ (ab 3)<|af<|eG ax) [Z (.lst b),Z<|av V,Z<|.im<|X g,Z<|aS a]=Z (decide (a=[]),[Z (.lst b),Z<|av V,Z<|.im<|X g,Z<|aS a]):=cm (b0 rfl (aN rfl) rfl rfl<|MN a);by_cases Wd:a=[]
 ·rw[c1 Wd]at e;refine⟨.lst b,Wh.mono ⋯,.inl ?_⟩;unfold oX yA;exact dk (y:=[Z (.lst b),Z<|av V,Z<|.im<|X g,Z<|aS a]) rfl (bE n<|bE f<|hx<|gD e rfl) rfl
 ·rw[cW Wd]at e;have et:=lp.mpr Wd;have aO:a.length<=V.length:=by rw[<-q];exact rF _ _
  let⟨J,E,H,I,R,Ws⟩:=ik (r:=r) (k:=(a.length:Int)) Wh ⋯ ⋯;obtain⟨d,s⟩:∃d,a[J.toNat]?=Z d:=⟨a[J.toNat]'⋯,by simp⟩;let⟨i,rfl⟩:=Ws.lst;have t:=fH s;rw[<-q]at t;let⟨dY,dH⟩:=j8.mp t;rw[cy,k2,k2,lx,lx]at dH;refine⟨.lst i,Ws,.inr ⟨g,d,fH j,dY,λL=>dH.1 L.symm,dH.2,?_⟩⟩;have a8:cF [aS a]=Z (aC (a.length:Int)):=by
   show Z (ai.im<|.int ((a.map X).length:Int))=_;rw[aZ]
  have M:bD (aS a) (aC J)=Z (.im<|X d):=by
   show (dv (a.map X) J).map ai.im=_;rw[oO I s];rfl
  unfold oX yA;refine dk (y:=[Z (.lst i),Z<|av V,Z<|.im<|X g,Z<|aS a]) rfl (bE n<|bE f<|bE (eD e rfl)<|eJ<|sE (Q:=[.aO 2,.cC<|.im<|X d]) (We:=[Z (.lst i),Z<|av V,Z<|.im<|X g,Z<|aS a]) (lB rfl<|lB (gI<|mu (We:=[Z (.lst b),Z<|av V,Z<|.im<|X g,Z<|aS a]) rfl (gI<|cw (Q:=[.aO 0,.cC<|aC (a.length:Int)]) (a5 rfl<|a5 (aN<|cL (a5 rfl rfl) rfl a8) rfl) rfl rfl H rfl) rfl rfl M) rfl) rfl (ie rfl) rfl) rfl
def R3{V aq:List aL}{f:ai}(a:Je f aq)(j:V.length<=200):∃B:Bool,r0 [av V,.im<|X g,.im<|X d,f]=Z (.im<|.ay B,[av V,.im<|X g,.im<|X d,f])/\(B=aa↔¬ ez (V.filter λh=>!decide (h∈aq)) g d):=by
 have pB:=rF (λh=>!decide (h∈aq)) V;let⟨b,e,W,c,W⟩:=Dv (f:=aS (V.filter λh=>!decide (h∈aq))) (aq:=V.filter λh=>!decide (h∈aq)) (d:=g) (.inl rfl) ⋯;have i:b4 1 [3] (b2<|ab 0) (a0 0) G.E4 G.Ei [Z (av V),Z<|.im<|X g,Z<|.im<|X d,Z f]=Z (aS<|V.filter λh=>!decide (h∈aq),[Z (av V),Z<|.im<|X g,Z<|.im<|X d,Z f]):=by
  refine fz (w:=V.map X) (o:=Y) (We:=[Z (av V),Z<|.im<|X g,Z<|.im<|X d,Z f]) rfl (mm X (λh=>!decide (h∈aq)) X _ [] (λh W=>?_) (by rw[gB];lia)) rfl;refine⟨[Z (.im<|X h),Z f],[Z (.im<|X h),Z f],rfl,cm ?_,λ_=>rfl,λ_=>⟨[Z (.im<|X h),Z f],rfl,rfl⟩⟩;rcases a with rfl|rfl
  ·exact d0 (sA aq h)
  ·exact d0 (wC aq h)
 refine⟨!decide (d∈b),?_,?_⟩
 ·unfold r0 Hp;refine dk (y:=[Z (av V),Z<|.im<|X g,Z<|.im<|X d,Z f]) rfl (eJ<|b0 rfl (aN<|cw (Q:=[.cC (aS<|V.filter λh=>!decide (h∈aq)),.aO 1]) (a5 (aN i) rfl) rfl rfl e rfl) rfl rfl<|wC b d) ?_;rcases a with rfl|rfl<;>rfl
 ·rw[k2,lx,c]
theorem DH{Ww:Type}(x:Ww->Bool):∀w:List Ww,ly (w.map λu=>.ay<|x u)=Z (w.map x)
 |[]=>rfl
 |f::w=>by
  show (ly<|w.map λu=>.ay<|x u).map _=_;rw[DH x w];rfl
def sG(x:Ww->Bool)(w:List Ww):gN [.lst (w.map λu=>.ay<|x u)]=Z (.im<|.ay<|w.all x):=by
 show (ly _).map _=_;rw[DH,tI,uT];rfl
def gq(l:bQ):Bool:=((l.zip<|l.drop 1).all λq=>decide (q.2∈c7 q.1))
def K2{WC:Option ai}(a:h∈V):uu [Z (av V),WC,Z<|.im<|X h]=Z (.bf,[Z (av V),WC,Z<|.im<|X h]):=by
 have b:aY (aB eH (ab 2)<|ab 0) [Z (av V),WC,Z<|.im<|X h]=Z (aw,[Z (av V),WC,Z<|.im<|X h]):=cm (d0 ((wC V h).trans (by rw[c1 a];rfl)));unfold uu;refine bE (eD (c9 (We:=[Z (av V),WC,Z<|.im<|X h]) rfl<|c9 (We:=[Z (av V),WC,Z<|.im<|X h]) rfl b) rfl) (eD (We:=[Z (av V),WC,Z<|.im<|X h]) rfl rfl)
def Dy{l:bQ}(p:l.length<=1000)(b:l≠[])(c:∀h∈l,h∈V):rB [av V,.im<|az l]=Z (.im<|.ay<|gq l,[av V,.im<|az l]):=by
 let⟨Wv,e,WW,rfl⟩:=vI (WL:=a0 2) (d:=uu) (w:=l.map X) (λ_ y=>∃WW,y=[Z (av V),Z<|.im<|az l,WW]) (y:=[Z (av V),Z<|.im<|az l,Y]) ⟨Y,rfl⟩ (λa f y g i=>by
  let⟨WW,rfl⟩:=i;let⟨h,j,rfl⟩:=cn.mp (fH g);exact⟨_,.bf,_,rfl,K2<|c h j,.inl rfl,_,rfl⟩)
 have k:cF [.im (az l)]=Z (aC (l.length:Int)):=by
  show Z (ai.im<|.int ((l.map X).length:Int))=_;rw[aZ]
 have r:=lp.mpr b;have WR:aY (aB dZ (af<|bo cF<|ah (ab 1) ax)<|af<|aD<|.int 0) [Z (av V),Z<|.im<|az l,Y]=Z (aw,[Z (av V),Z<|.im<|az l,Y]):=cm (b0 (aN<|cL (a5 rfl rfl) rfl k) rfl rfl rfl ((mO _ _).trans (by rw[cW ⋯])));have m:gP (l.map X) (bO (l.map X) (Z 1) Y)=(l.zip<|l.drop 1).map λq=>.tup [X q.1,X q.2]:=by
  rw[pb,show (1:Int)=((1:Nat):Int) from rfl,qv,xR]
 have s:(l.zip<|l.drop 1).length<=1000:=by rw[ox];lia
 have n:b4 2 [] (jS<|ah (ab 1)<|ah (af<|cZ (ab 1) (c6<|aD<|.int 1) di) ax) (h5 2<|eu (a0 0)<|eu (a0 1) hM) cB G.B1 [Z (av V),Z<|.im<|az l,WW]=Z (.lst<|(l.zip<|l.drop 1).map λq=>.ay<|decide (q.2∈c7 q.1),[Z (av V),Z<|.im<|az l,WW]):=by
  refine fz (w:=(l.zip<|l.drop 1).map λq=>.tup [X q.1,X q.2]) (o:=Y) (We:=[Z (av V),Z<|.im<|az l,WW]) ?_ (fR (λq:aL×aL=>.tup [X q.1,X q.2]) (λq=>.ay<|decide (q.2∈c7 q.1)) _ (λq W=>?_) ⋯) rfl
  ·rw[<-m];exact rM (a5 rfl<|a5 (aN<|ft rfl rfl rfl rfl rfl) rfl) rfl
  ·refine⟨[Z (.im<|X q.1),Z<|.im<|X q.2],_,[Z (.im<|X q.1),Z<|.im<|X q.2],rfl,rfl,?_,rfl⟩;exact b0 rfl (aN<|cw (Q:=[.aO 0]) rfl rfl rfl (tQ q.1) rfl) rfl rfl (Ts (c7 q.1) q.2)
 unfold rB H4;exact dk (y:=[Z (av V),Z<|.im<|az l,WW]) rfl (bE (eD (c9 (We:=[Z (av V),Z<|.im<|az l,Y]) rfl WR) rfl)<|bE (iE (o:=Y) (w:=l.map X) (We:=[Z (av V),Z<|.im<|az l,Y]) rfl e rfl)<|eJ<|cL (a5 (aN n) rfl) rfl<|sG _ _) rfl
theorem R4{l:bQ}(a:l.length<=1000)(b:l≠[])(c:∀h∈l,h∈V)(d:gq l=aa):rB [av V,.im<|az l]=Z (.im<|.ay aa,[av V,.im<|az l]):=(Dy a b c).trans (by rw[d])
theorem EU:∀Wk:bQ,ae.de 7 (Wk.map X)=aa
 |[]=>rfl
 |h::Wk=>by rw[cS,ae.de,EU Wk];rfl
theorem za:∀F:List bQ,ae.de 8 (F.map az)=aa
 |[]=>rfl
 |l::F=>by
  rw[cS,ae.de,za F];show (ae.de 7 (l.map X)&&aa)=aa;rw[EU];rfl
def mi.ao{aq:List aL}(c:mi aq):aq.Nodup:=by
 refine m3.mpr (c.imp λ{f C} e z=>?_);rw[z,qD]at e;cases e
def mC.ao{F:List bQ}(c:mC F):F.Nodup:=by
 refine m3.mpr (c.imp λ{f C} e z=>?_);rw[z,qD]at e;cases e
theorem uQ(w:List Ww):gN [.lst (w.map λ_=>.ay aa)]=Z (.im<|.ay aa):=(sG (λ_=>aa) w).trans (by rw[e_.mpr λ_ W=>rfl])
def dO(l:bQ):bQ:=((l.drop 1).dropLast)
def xI(g d:aL)(k:bQ):dO (g::(k++[d]))=k:=by
 unfold dO;rw[List.drop_one,List.tail_cons,H2]
def GA(f C:Ww)(k:List Ww):bO (f::(k++[C])) (Z 1) (Z<|-1)=k:=by
 unfold bO dK.cz;have:(f::(k++[C])).length=k.length+2:=by simp
 rw[this];have b:∀n:Nat,n=1->((f::(k++[C])).drop n)=k++[C]:=λn a=>by rw[a];rfl
 simp only[];rw[b _ (by split<;>lia)];have c:∀n:Nat,n=k.length->(k++[C]).take n=k:=λn a=>by rw[a,List.take_left]
 exact c _ (by split<;>split<;>lia)
def gX(F:List bQ):List (List ae×ae):=(F.map λl=>(l.map X,.ay aa))
theorem D0:∀Wk:bQ,ae.keys 7 (Wk.map X)=aa
 |[]=>rfl
 |h::Wk=>by rw[cS,ae.keys,D0 Wk];rfl
def Mb(F:List bQ):jV (F.map λl=>.tup [az l,.ay aa])=Z (gX F):=by
 induction F with
 |nil=>rfl
 |cons h u a=>
  rw[cS];show (jV<|u.map λl=>.tup [az l,.ay aa]).map (λj=>(h.map X,.ay aa)::j)=_;rw[a];rfl
structure VD(V:List aL)(g d:aL)(F:List bQ):Prop where
 up:mC F
 ei:F.length<=1000
 len:∀l∈F,l.length<=1000
 dR:∀l∈F,∀h∈l,h∈V
 ch:∀l∈F,gq l=aa
 wq:∀l∈F,∃k,l=g::(k++[d])
 ao:(F.flatMap dO).Nodup
 aW:(F.flatMap dO).length<300
 na:g∉F.flatMap dO
 nb:d∉F.flatMap dO
def O2{k H:bQ}{WQ:Option ai}(c:k.length<=1000)(i:H.length<=50000):mK [Z (av V),Z<|.im<|X g,Z<|.im<|X d,WQ,Z<|aS H,Z<|.im<|az (g::(k++[d]))]=Z (.bf,[Z (av V),Z<|.im<|X g,Z<|.im<|X d,WQ,Z<|aS<|H++k,Z<|.im<|az (g::(k++[d]))]):=by
 have a8:cF [.im (az (g::(k++[d])))]=Z (aC ((k.length+2:Nat):Int)):=by
  show Z (ai.im<|.int (((g::(k++[d])).map X).length:Int))=_;rw[aZ,dm,b_,eO]
 have bz:vR (aC ((k.length+2:Nat):Int)) (aC 2)=Z (.im<|.ay aw):=by
  show Z (ai.im<|.ay<|decide (((k.length+2:Nat):Int)<2))=_;rw[cW ⋯]
 have a:bD (.im<|az (g::(k++[d]))) (aC<|-1)=Z (.im<|X d):=by
  show (dv ((g::(k++[d])).map X)<|-1).map ai.im=_;rw[pT (s:=X d) (by rw[<-nD,d9];exact qw)];rfl
 have b:bD (.im<|az (g::(k++[d]))) (aC 0)=Z (.im<|X g):=by
  show (dv ((g::(k++[d])).map X) 0).map ai.im=_;rw[lr (jR 0) (s:=X g) rfl];rfl
 have e:gd (.im<|X g) (.im<|X g)=Z (.im<|.ay aw):=(ko g g).trans (by rw[c1 rfl];rfl);have f:gd (.im<|X d) (.im<|X d)=Z (.im<|.ay aw):=(ko d d).trans (by rw[c1 rfl];rfl);have h:lS (.im<|az (g::(k++[d]))) (Z 1) (Z<|-1)=Z (av k):=by
  show Z (ai.im<|.tup<|bO ((g::(k++[d])).map X) (Z 1)<|Z<|-1)=_;rw[pb,GA]
 have ad:b8 (aS H) (aS k)=Z (aS<|H++k):=by
  show (if (H.map X).length+(k.map X).length<=100000 then Z (ai.lst<|H.map X++k.map X) else Y)=_;rw[aJ (by rw[aZ,aZ];lia),<-d9]
 unfold mK;exact bE (eD (c9 (cm<|b0 (aN<|cL (a5 rfl rfl) rfl a8) rfl rfl rfl bz)<|c9 (cm<|b0 (aN<|d0 b) rfl rfl rfl e)<|cm<|b0 (aN<|b0 rfl (aN rfl) rfl rfl a) rfl rfl rfl f) rfl) (jx (b0 rfl (aN<|cL (a5 (aN<|ft rfl rfl rfl rfl h) rfl) rfl rfl) rfl rfl ad) (eM rfl) rfl)
def fv.rs(WA:fv V g d x M Wj)(a:(d,aw)∉c3 Wj):cc.Rs V (kb V) g d x λh o=>(h,o)∈c3 Wj:=
 cc.Rs.of (cn.mpr ⟨_,fH WA.s.g4,rfl⟩) (λj B c e=>WA.s.cl j c B<|Ux e) a
def w8:hG Wj h=aa↔cc.Cut (λh o=>(h,o)∈c3 Wj) h:=by
 unfold hG cc.Cut;rw[cy,k2,fF,lx]
def fv.bar(WA:fv V g d x M Wj)(i:(d,aw)∉c3 Wj):¬ ez (V.filter λh=>!decide (h∈V.filter (hG Wj))) g d:=λc=>by
 have Wb:=WA.rs i;have Q:∀f,ez (V.filter λh=>!decide (h∈V.filter (hG Wj))) g f->(f,aa)∈c3 Wj:=λf c=>by
  induction c with
  |self=>exact Wb.start
  |@step C f _ k l a=>
   let⟨b,e⟩:=j8.mp k;rw[k2,lx]at e;have m:=Wb.next C f a ⟨WA.s.inf _ a,b,l⟩;exact oq λn=>e (j8.mpr ⟨b,w8.mpr ⟨m,n⟩⟩)
 exact Wb.xZ (Wb.dR _<|Q d c)
def fv.many(WA:fv V g d x M Wj)(ao:V.Nodup)(a:(d,aw)∉c3 Wj):(V.filter<|hG Wj).length=M.length:=WA.w.many (WA.rs a) ao λh W=>w8
def fv.TB(WA:fv V g d x M Wj)(a:(d,aw)∉c3 Wj):g∉V.filter (hG Wj)/\d∉V.filter (hG Wj):=by
 have Wb:=WA.rs a;exact⟨λc=>(w8.mp (j8.mp c).2).2 Wb.start,λc=>Wb.xZ (w8.mp (j8.mp c).2).1⟩
theorem JP{Ww W_:Type}(L:Ww->List W_):∀M:List Ww,(M.flatMap λt=>(L t).reverse).Perm (M.flatMap L)
 |[]=>List.Perm.refl _
 |t::M=>by
  rw[rk,rk];exact (zl _).append (JP L M)
def GP(f C:aL)(u:bQ):gq (f::C::u)=(decide (C∈c7 f)&&gq (C::u)):=rfl
def fv.Uz(WA:fv V g d x M Wj)(q:V.length<=200)(n:g∈V)(o:d∈V){F:List bQ}(WT:F.Perm (M.map<|iX x g d))(up:mC F):VD V g d F:=by
 have ei:=WA.ei;have j:∀l∈F,∃t∈M,l=iX x g d t:=λl i=>by
  let⟨t,c,e⟩:=cn.mp (WT.mem_iff.mp i);exact⟨t,c,e.symm⟩
 have m:(F.flatMap dO).Perm (M.flatMap λt=>cc.dR x t<|gS x g t):=by
  refine (WT.flatMap_right dO).trans ?_;rw[List.flatMap_map];refine List.Perm.trans (Gg ?_) (JP (λt=>cc.dR x t<|gS x g t) M);congr 1;funext t;exact xI g d _
 have ao:=WA.w.Pn (r:=gS x g) λt f=>WA.nO f;have sub:∀h∈M.flatMap λt=>cc.dR x t<|gS x g t,h∈V/\h≠g/\h≠d:=λh b=>by
  let⟨t,f,c⟩:=zJ.mp b;exact WA.w.F4 (WA.nO f) c
 have aW:=ao.length_le_of_subset (l₂:=V) λh b=>(sub h b).1;refine⟨up,by rw[WT.length_eq,aZ];lia,λl i=>?_,λl i h b=>?_,λl i=>?_,λl i=>?_,m.nodup_iff.mpr ao,by rw[m.length_eq];lia,λc=>(sub g<|m.mem_iff.mp c).2.1 rfl,λc=>(sub d<|m.mem_iff.mp c).2.2 rfl⟩
 ·let⟨t,f,rfl⟩:=j l i;have:=WA.xF f;unfold iX cc.dR;rw[dm,b_,mZ,aZ,hR,eO];lia
 ·let⟨t,f,rfl⟩:=j l i;unfold iX at b;rcases cg.mp b with rfl|b
  ·exact n
  ·rcases dw.mp b with b|b
   ·exact (WA.w.F4 (WA.nO f)<|Ef.mp b).1
   ·rw[cM.mp b];exact o
 ·let⟨t,f,rfl⟩:=j l i;have N:=WA.nO f;have Q:∀k,k<=gS x g t+1->gq (cc.it x k t::(((range k).map λa=>cc.it x a t).reverse++[d]))=aa:=λk=>by
   induction k with
   |zero=>
    intro W;show (decide (d∈c7 t)&&aa)=aa;rw[c1 (WA.w.last t f).2.1.2.2];rfl
   |succ k p=>
    intro c;rw[Af,d9,Hk];show gq (cc.it x (k+1) t::cc.it x k t::(((range k).map λa=>cc.it x a t).reverse++[d]))=aa;rw[GP,p ⋯,c1 (WA.w.steps N (a:=k) ⋯).2.2];rfl
  have:=Q (gS x g t+1) (bb _);rw[N.1]at this;exact this
 ·let⟨t,f,rfl⟩:=j l i;exact⟨_,rfl⟩
def ez.trans{a:aL}(c:ez V f C)(n:ez V C a):ez V f a:=by
 induction n with
 |self=>exact c
 |step _ A E b=>exact .step b A E
def ez.dR(a:f∈V)(c:ez V f C):C∈V:=by
 cases c with
 |self=>exact a
 |step _ A _=>exact A
theorem MY(c:C∈c7 f):f∈c7 C:=(C6 (V:=[f,C]) ⟨.head _,.tail _<|.head _,c⟩).2.2
def ez.sym(a:f∈V)(c:ez V f C):ez V C f:=by
 induction c with
 |self=>exact .self
 |step b A E d=>exact (ez.step .self (ez.dR a b)<|MY E).trans d
def SR{aq V:List aL}{j:aL}(c:∀f,f∈V↔ez aq j f){g d:aL}(a:g∈V)(b:d∈V):ez V g d:=by
 have Q:∀f,ez aq j f->ez V j f:=λf e=>by
  induction e with
  |self=>exact .self
  |step h A E i=>exact .step i ((c _).mpr<|.step h A E) E
 have Wd:j∈V:=(c j).mpr .self;exact (ez.sym Wd<|Q g<|(c g).mp a).trans (Q d<|(c d).mp b)
def QQ(V:List aL):(V.filter λh=>!decide (h∈([]:List aL)))=V:=BU.mpr λ_ W=>rfl
def R6(f C:aL)(j B:Int):bp (X (f.1+j,f.2+B)) (X (C.1+j,C.2+B))=bp (X f) (X C):=by
 have d:∀a i:Int,ae.beq (.int<|a) (.int i)=decide (a=i):=λa i=>by rw[ae.beq]
 have e:∀f C:aL,bp (X f) (X C)=if f.1=C.1 then decide (f.2<C.2) else decide (f.1<C.1):=λf C=>by
  show (if ae.beq (.int f.1) (.int C.1)=aa then (if ae.beq (.int f.2) (.int C.2)=aa then aw else decide (f.2<C.2)) else decide (f.1<C.1))=_;rw[d,d];by_cases A:f.1=C.1
  ·rw[c1 A,aJ rfl,aJ A];by_cases E:f.2=C.2
   ·rw[c1 E,aJ rfl,E,cW<|Int.lt_irrefl _]
   ·rw[cW E,aP dz]
  ·rw[cW A,aP dz,aP A]
 rw[e,e];simp only[Int.add_left_inj,Int.add_lt_add_iff_right]
def Tc{aq:List aL}(j B:Int)(c:ez aq g f):ez (aq.map λh=>(h.1+j,h.2+B)) (g.1+j,g.2+B) (f.1+j,f.2+B):=by
 induction c with
 |self=>exact .self
 |step _ A E a=>
  refine .step a (cn.mpr ⟨_,A,rfl⟩) ?_;unfold c7 at E ⊢;simp only[cg,hi,h6,tF]at E ⊢;lia
def Oc{aq:List aL}{j B:Int}(c:ez (aq.map λh=>(h.1+j,h.2+B)) (g.1+j,g.2+B) f):ez aq g (f.1-j,f.2-B):=by
 induction c with
 |self=>
  have:(((g.1+j,g.2+B):aL).1-j,((g.1+j,g.2+B):aL).2-B)=g:=by rw[tF];exact⟨wh _ _,wh _ _⟩
  rw[this];exact .self
 |@step C d _ A E a=>
  let⟨h,b,rfl⟩:=cn.mp A;have:(((h.1+j,h.2+B):aL).1-j,((h.1+j,h.2+B):aL).2-B)=h:=by rw[tF];exact⟨wh _ _,wh _ _⟩
  rw[this];refine .step a b ?_;unfold c7 at E ⊢;simp only[cg,hi,h6,tF]at E ⊢;lia
def SG(b:0<k)(J:k<=140){c:ai}(m:ew (r+400) c):∃U aq,qt [c,aC k]=Z (aS aq,[U,aC k])/\ew r U/\aq≠[]/\aq.length<=50+k.toNat/\∀h∈aq,jO h:=by
 let⟨v,A,g,L,M,Wh⟩:=ik (r:=r+399) (k:=k) m b ⋯;have i:oi v:=⟨⋯,⋯⟩;let⟨Wv,j,⟨E,aq,WQ,WI,rfl,Ws,l,p,q⟩⟩:=vI (WL:=a0 3) (d:=vf) (w:=hb 0 v.toNat) (λa y=>∃c aq WQ WI,y=[Z c,Z<|aC k,Z<|aS aq,WQ,WI]/\ew (r+398-2*a) c/\aq≠[]/\aq.length<=a+1/\∀h∈aq,jO h) (y:=[Z A,Z<|aC k,Z<|aS [(12,12)],Y,Y]) ⟨A,[(12,12)],Y,Y,rfl,Wh.mono ⋯,by simp,by simp,λh s=>by rw[cM.mp s];exact⟨by decide,by decide,by decide,by decide⟩⟩
  (λa f y t u=>by
   let⟨c,aq,WQ,WI,rfl,x,WY,WZ,z⟩:=u;have S:a<v.toNat:=by
    have:=(gk.mp t).1
    rwa [hb,aZ,hR]at this
   let⟨U,B,N,e,V6,C,O,D⟩:=Nv (r:=r+398-2*(a+1)) (k:=k) (n:=Z (.im f)) (WI:=WI) (x.mono ⋯) WY ⋯ z;exact⟨[Z c,Z<|aC k,Z<|aS aq,Z<|.im f,WI],.bf,_,rfl,e,.inl rfl,U,B,_,_,rfl,V6,C,⋯,D⟩)
 have F:(hb 0 v.toNat).length=v.toNat:=by rw[hb,aZ,hR]
 rw[F]at Ws p;refine⟨E,aq,?_,Ws.mono ⋯,l,⋯,q⟩;let⟨G,rfl⟩:=m.lst;let⟨H,rfl⟩:=Wh.lst;let⟨I,rfl⟩:=Ws.lst;unfold qt Ih;refine wa [Z (.lst I),Z<|aC k,Z .dS,WQ,WI] rfl ((iq (We:=[Z (.lst G),Z<|aC k,Z<|aS [(12,12)],Y,Y]) rfl).trans<|(iq<|vV (o:=Y) (w:=hb 0 v.toNat) (We:=[Z (.lst H),Z<|aC k,Z<|aS [(12,12)],Y,Y]) ?_ j).trans rfl) rfl;simp -implicitDefEqProofs [g,i]
def QY(s:0<k)(t:k<=140){c:ai}{b l d:Int}{aq:List (Int×Int)}(m:ew (r+402) c)(J:0<=b)(L:b<6)(f:(0,0)∈aq)(M:aq.length<=49)(Wd:∀h∈aq,jO h):
  ∃U a R,mid [Z c,Z<|aC k,Z<|aC b,Z<|aC l,Z<|aC d,Z<|aS aq,Y,Y,Y,Y]=Z (.bf,[Z U,Z<|aC k,Z<|aC b,Z<|aC l,Z<|aC d,Z<|aS a,R,Y,Y,Y])/\ew r U/\a≠[]/\a.length<=50+k.toNat/\∀h∈a,jO h:=by
 have N:=BI f;have n:∀b:Int,∃U a R,gh (ip<|ah (af<|a7 2 G.fP<|ah (ab 0)<|ah (af<|aB b8 (af<|aD<|.int 1)<|af<|aB nG (af<|bo cF<|ah (ab 5) ax)<|af<|aD<|.int 2) ax) ax) (a0 6) G.qN [Z c,Z<|aC k,Z<|aC b,Z<|aC l,Z<|aC d,Z<|aS aq,Y,Y,Y,Y]=Z (.bf,[Z U,Z<|aC k,Z<|aC b,Z<|aC l,Z<|aC d,Z<|aS a,R,Y,Y,Y])/\ew r U/\a≠[]/\a.length<=50+k.toNat/\∀h∈a,jO h:=λb=>by
  let⟨v,A,x,O,P,Wh⟩:=ik (r:=r+200) (k:=1+(aq.length:Int)/2) (m.mono ⋯) ⋯ ⋯;have y:oi v:=⟨⋯,⋯⟩;let⟨E,g,R,B,Ws,i,p,j⟩:=OM (WC:=Z (aC k)) (WW:=Z (aC b)) (WQ:=Z (aC l)) (WI:=Z (aC d)) (I:=Y) (W6:=Y) (W5:=Y) (R:=Y) v.toNat Wh (aq:=aq) ⋯ ⋯ Wd;refine⟨E,g,R,?_,Ws,i,⋯,j⟩;let⟨C,rfl⟩:=m.lst;let⟨D,rfl⟩:=Wh.lst;refine (vV (o:=Y) (w:=hb 0 v.toNat) (We:=[Z (.lst D),Z<|aC k,Z<|aC b,Z<|aC l,Z<|aC d,Z<|aS aq,Y,Y,Y,Y]) ?_ B).trans rfl;simp -implicitDefEqProofs [x,y]
 have q:∀b:Int,∃U a R,bV 5 (a7 2 G.qt<|ah (ab 0)<|ah (ab 1) ax) [Z c,Z<|aC k,Z<|aC b,Z<|aC l,Z<|aC d,Z<|aS aq,Y,Y,Y,Y]=Z (.bf,[Z U,Z<|aC k,Z<|aC b,Z<|aC l,Z<|aC d,Z<|aS a,R,Y,Y,Y])/\ew r U/\a≠[]/\a.length<=50+k.toNat/\∀h∈a,jO h:=λb=>by
  let⟨E,g,e,Ws,i,p,j⟩:=SG (r:=r) s t (m.mono ⋯);refine⟨E,g,Y,?_,Ws,i,p,j⟩;let⟨C,rfl⟩:=m.lst;let⟨Q,rfl⟩:=Ws.lst;simp -implicitDefEqProofs [e]
 have F:b=0\/b=1\/b=2\/b=3\/b=4\/b=5:=⋯
 unfold mid;rcases F with rfl|rfl|rfl|rfl|rfl|rfl
 ·exact⟨c,aq,Y,rfl,m.mono ⋯,E6 f,⋯,Wd⟩
 ·let⟨U,a,R,e,u⟩:=n 1;exact⟨U,a,R,e,u⟩
 ·let⟨U,a,R,e,u⟩:=n 2;exact⟨U,a,R,e,u⟩
 ·exact⟨c,aq.filter ru,Y,Nr ⋯,m.mono ⋯,E6 (j8.mpr ⟨f,by decide⟩),by have:=rF ru aq;lia,λh H=>Wd h (j8.mp H).1⟩
 ·let⟨U,a,R,e,u⟩:=q 4;exact⟨U,a,R,e,u⟩
 ·let⟨U,a,R,e,u⟩:=q 5;exact⟨U,a,R,e,u⟩
def PL(M:0<k)(N:k<=140){c:ai}(m:ew (r+500) c):∃U b,pD [c,aC k]=Z (av b,[U,aC k])/\ew r U/\b≠[]/\b.length<=51+k.toNat/\mi b/\(∃(O:List aL) (q:aL),∀f,f∈b↔ez O q f)/\∀h∈b,0<=h.1/\h.1<=30/\0<=h.2/\h.2<=30:=by
 let⟨e,A,P,Q,S,Wh⟩:=ik (r:=r+499) (k:=6) m ⋯ ⋯;let⟨l,E,al,dY,dH,Ws⟩:=ik (r:=r+498) (k:=7) Wh ⋯ ⋯;obtain⟨o,am⟩:∃o:Int,o=k/(1+l):=⟨_,rfl⟩;obtain⟨g,u⟩:∃g:Int,g=(if o<7 then o else 7):=⟨_,rfl⟩;obtain⟨n,v⟩:∃n:Int,n=(if g>1 then g else 1):=⟨_,rfl⟩;have db:g<=7:=by rw[u];split<;>lia
 have ds:n<=7/\0<n:=by rw[v];split<;>lia
 let⟨a,dL,an,eq,ev,w⟩:=ik (r:=r+497) (k:=n) Ws ⋯ ⋯;have p:0<1+l:=⋯
 have s:1+l<=7:=⋯
 have x:0<1+a:=⋯
 have t:1+a<=7:=⋯
 have ap:0<(1+a)*(1+l):=B_ x p;have i:(1+a)*(1+l)<=49:=Iz t s ⋯ ⋯;have as:(((1+a)*(1+l)).toNat:Int)<=7*(1+l):=by rw[Int.toNat_of_nonneg (z_ ap)];exact Int.mul_le_mul_of_nonneg_right t (z_ p)
 let⟨ex,aq,R,a1,y,WY,WZ,z⟩:=QY (r:=r+3) M N (b:=e) (l:=1+l) (d:=1+a) (aq:=mX (1+l) ((1+a)*(1+l)).toNat) (w.mono ⋯) Q S (Sq ⋯) (by rw[JZ];lia) (L8 p s as);have fd:=lp.mpr WY;let⟨D,fn,a2,bd,fr,F⟩:=ik (r:=r+2) (k:=(aq.length:Int)) y ⋯ ⋯;obtain⟨d,G⟩:∃d,aq[D.toNat]?=Z d:=⟨aq[D.toNat]'⋯,by simp⟩;let⟨b,be,WD,WR,f0,W⟩:=Dv (f:=aS aq) (aq:=aq) (d:=d) (.inl rfl) ⋯;let⟨j,B,bi,bm,⟨T,f1,f2,H⟩,L⟩:=T_ (r:=r) (WC:=Z (aC k)) (WW:=Z (aC e)) (WQ:=Z (aC<|1+l)) (WI:=Z (aC<|1+a)) (WU:=Z (aS aq)) (R:=R) (I:=Z (av b)) (W6:=Y) (W5:=Y) F;refine⟨bi,b.map λh=>(h.1+j,h.2+B),?_,L,?_,by rw[aZ];lia,kH.mpr (WD.imp λ{f C} c=>by rw[R6];exact c),⟨aq.map λh=>(h.1+j,h.2+B),(d.1+j,d.2+B),λf=>?_⟩,λh bn=>?_⟩
 ·let⟨f4,rfl⟩:=m.lst;let⟨bs,rfl⟩:=Wh.lst;let⟨bv,rfl⟩:=Ws.lst;let⟨ca,rfl⟩:=w.lst;let⟨f8,rfl⟩:=y.lst;let⟨cd,rfl⟩:=F.lst;let⟨ce,rfl⟩:=L.lst;have H:=oO bd G;unfold pD FJ;refine wa [Z (.lst ce),Z<|aC k,Z<|aC e,Z<|aC<|1+l,Z<|aC<|1+a,Z<|aS aq,R,Z<|av b,Z<|aC j,Z<|aC B] rfl
   ((iq (We:=[Z (.lst bs),Z<|aC k,Z<|aC e,Y,Y,Y,Y,Y,Y,Y]) ?_).trans
   ((iq (We:=[Z (.lst bv),Z<|aC k,Z<|aC e,Z<|aC<|1+l,Y,Y,Y,Y,Y,Y]) ?_).trans
   ((iq (We:=[Z (.lst ca),Z<|aC k,Z<|aC e,Z<|aC<|1+l,Z<|aC<|1+a,Y,Y,Y,Y,Y]) ?_).trans
   ((iq<|MB p s x t).trans
   ((iq a1).trans
   ((iq (We:=[Z (.lst cd),Z<|aC k,Z<|aC e,Z<|aC<|1+l,Z<|aC<|1+a,Z<|aS aq,R,Z<|av b,Y,Y]) ?_).trans
   ((iq bm).trans (eJ (RS ⋯))))))))) rfl
  ·simp -implicitDefEqProofs [P]
  ·simp -implicitDefEqProofs [al]
  ·have ch:1+l<1073741824:=⋯
   have ci:td [aC 7,aC o]=Z (aC g):=by rw[KG,<-u]
   have cl:ts [aC 1,aC g]=Z (aC n):=by rw[Ou,<-v]
   simp -implicitDefEqProofs [an,p,ch,<-am,ci,cl]
  ·simp -implicitDefEqProofs [a2,H,be]
 ·have:=(WR d).mpr .self;exact λq=>by rw[List.map_eq_nil_iff]at q;rw[q]at this;cases this
 ·rw[cn];constructor
  ·rintro⟨J,co,rfl⟩;exact Tc j B ((WR J).mp co)
  ·intro c;refine⟨(f.1-j,f.2-B),(WR _).mpr ?_,by rw[tF];exact⟨HZ _ _,HZ _ _⟩⟩;exact Oc c
 ·let⟨J,cr,rfl⟩:=cn.mp bn;have cs:jO J:=by
   cases (WR J).mp cr with
   |self=>exact z _ (fH G)
   |step _ A _=>exact z J A
  let⟨ga,ge,gl,go⟩:=cs;exact⟨by show 0<=J.1+j;lia,by show J.1+j<=30;lia,by show 0<=J.2+B;lia,by show J.2+B<=30;lia⟩
def Aw(aq:List aL):cF [av aq]=Z (aC (aq.length:Int)):=by
 show Z (ai.im<|.int ((aq.map X).length:Int))=_;rw[aZ]
abbrev hd(s j B:Int):ai:=.lst [.int s,.int j,.int B]
abbrev eU(d:Bool):ai:=.im (.ay d)
def e3(Wg:List (Int×Int))(h:Int×Int):List (Int×Int):=(if h∈Wg then Wg else Wg++[h])
def yG(Wg:List (Int×Int))(h:Int×Int):fs (a4 Wg) (cX h) (.ay aa)=a4 (e3 Wg h):=by
 unfold e3;by_cases c:h∈Wg
 ·rw[aJ c];unfold fs;rw[aJ (by rw[wZ];simpa using c)];unfold a4;rw[fc];refine k_ λf W=>?_;show (if cX f=cX h then (cX f,ae.ay aa) else (cX f,ae.ay aa))=_;split<;>rfl
 ·rw[aP c];exact EO c
abbrev yx(c:ai)(WC:Option ai)(a b d e f:Int)(Wg:List (Int×Int))(W6 W5 Xa g h Xi:Option ai):bc:=[Z c,WC,Z<|aC a,Z<|aC b,Z<|aC d,Z<|aC e,Z<|aC f,Z<|.aH<|a4 Wg,W6,W5,Xa,g,h,Xi]
def i0(aq:List (Int×Int)):Prop:=(aq.Pairwise λg d=>bp (X g) (X d)=aa)
def M1{Wg:List (Int×Int)}(ao:Wg.Nodup)(a:Wg.length<=1000):∃aq:List (Int×Int),hy bp (Wg.map X)=aq.map X/\aq.Perm Wg/\i0 aq:=by
 have o:=w4 ao a;let⟨@aq,A,E⟩:=BD (ju<|Wg.map X);refine⟨aq,E,A,?_⟩;have:=sM o.ord.ao o.ord.j1;rw[E]at this;exact kH.mp this
abbrev bu:=Int×Int
theorem tA(P:Option ai):∀(aq Wg:List bu) (WW:Option ai),Wg.length+aq.length<100000->∃a,d5 (a0 2) r6 (aq.map X) [P,Z<|.aH<|a4 Wg,WW]=Z (.bf,[P,Z<|.aH<|a4<|aq.foldl e3 Wg,a])
 |[],Wg,WW,_=>⟨WW,rfl⟩
 |h::aq,Wg,WW,b=>by
  have c:hZ (.aH<|a4 Wg) (.im<|.tup<|cX h) (eU aa)=Z (.aH<|a4<|e3 Wg h):=by
   rw[<-yG];exact aJ ⟨rfl,by unfold a4;rw[aZ];rw[dm]at b;lia⟩
  have w:(e3 Wg h).length<=Wg.length+1:=by
   unfold e3;split
   ·lia
   ·rw[b_];exact bb _
  let⟨@a,d⟩:=tA P aq (e3 Wg h) (Z<|.im<|X h) (by rw[dm]at b;lia);refine⟨a,?_⟩;have e:r6 [P,Z<|.aH<|a4 Wg,Z<|.im<|X h]=Z (.bf,[P,Z<|.aH<|a4<|e3 Wg h,Z<|.im<|X h]):=by
   unfold r6;refine tb rfl ?_;show (hZ (.aH<|a4 Wg) (.im<|.tup<|cX h)<|eU aa).map _=_;rw[c];rfl
  rw[cS,d5];show (r6 [P,Z<|.aH<|a4 Wg,Z<|.im<|X h]).bind _=_;rw[e];exact d
theorem yX:∀(aq Wg:List bu),(Wg++aq).Nodup->aq.foldl e3 Wg=Wg++aq
 |[],Wg,_=>by rw[cO];rfl
 |h::aq,Wg,ao=>by
  have a:h∉Wg:=λc=>by
   have:=(dD.mp ao).2.2 h c h (.head _);exact this rfl
  rw[h4,e3,aP a,yX aq (Wg++[h]) (by rw[bM];exact ao),bM];rfl
def Hb{aq:List bu}(ao:aq.Nodup)(b:aq.length<10000):hu [av aq]=Z (.aH<|a4 aq,[av aq]):=by
 let⟨@o,a⟩:=tA (Z<|av aq) aq [] Y (by show 0+_<_;lia);rw[yX aq [] ao]at a;unfold hu t2;refine dk (y:=[Z (av aq),Z .dS,o]) rfl (bE (We:=[Z (av aq),Z<|.aH [],Y]) rfl<|bE (iE (o:=Y) rfl a rfl) rfl) rfl
def NJ{aq:List bu}(ao:aq.Nodup)(b:aq.length<10000):hu [aS aq]=Z (.aH<|a4 aq,[aS aq]):=by
 let⟨@o,a⟩:=tA (Z .dS) aq [] Y (by show 0+_<_;lia);rw[yX aq [] ao]at a;unfold hu t2;refine dk (y:=[Z (aS aq),Z .dS,o]) rfl (bE (We:=[Z (aS aq),Z<|.aH [],Y]) rfl<|bE (iE (o:=Z (0,aS aq)) (We:=[Z .dS,Z<|.aH [],Y]) rfl a rfl) rfl) rfl
def jb(h:bu):List bu:=([(h.1-1,h.2),(h.1,h.2-1),(h.1,h.2+1),(h.1+1,h.2)])
def Ga(h:bu):kD [.im (X h)]=Z (aS<|jb h,[.im (X h)]):=rfl
def rX(Wg:List bu)(h:bu):eX (.im<|X h) (.aH<|a4 Wg)=Z (eU<|decide (h∈Wg)):=by
 rw[<-AG];rfl
def pk(s:ae):Prop:=(∀g,s≠.fn g)
def n_(s:ae):Prop:=(pk s/\∀V_,s=.tup V_->∀C∈V_,pk C)
def vF(s:ae):Prop:=(pk s/\∀I,s=.tup I->I.length<=290/\∀f∈I,n_ f)
def m5:ae->Bool
 |.int _=>aa
 |_=>aw
def Hr(c:pk s):qX [.im s]=Z (eU<|m5 s,[.im s]):=by
 cases s with
 |fn g=>exact absurd rfl (c g)
 |_=>rfl
def mc:ae->Bool
 |.tup [g,d]=>m5 g&&m5 d
 |_=>aw
def ux(c:m5 s=aa):∃a,s=.int a:=by
 cases s with
 |int a=>exact⟨a,rfl⟩
 |_=>cases c
def xU(c:n_ s):iO [.im s]=Z (eU<|mc s,[.im s]):=by
 cases s with
 |fn g=>exact absurd rfl (c.1 g)
 |tup I=>
  unfold iO Et
  match I,c with
  |[],_=>rfl
  |[g],_=>rfl
  |[g,d],c=>
   have f:=Hr (c.2 _ rfl g<|.head _);have i:=Hr (c.2 _ rfl d<|.tail _<|.head _);refine dk (y:=[Z (.im<|.tup [g,d])]) rfl (eJ<|jh<|f_ (cm rfl)<|f_ (cm rfl) ?_) rfl;show _=Z (m5 g&&m5 d,_);have a:aY (a7 1 G.qX<|ah (af<|aB bD (ab 0)<|af<|aD<|.int 0) ax) [Z (.im<|.tup [g,d])]=Z (m5 g,[Z (.im<|.tup [g,d])]):=cm (cw (a5 (aN<|b0 (s:=.im g) rfl rfl rfl rfl rfl) rfl) rfl rfl f rfl);have j:aY (a7 1 G.qX<|ah (af<|aB bD (ab 0)<|af<|aD<|.int 1) ax) [Z (.im<|.tup [g,d])]=Z (m5 d,[Z (.im<|.tup [g,d])]):=cm (cw (a5 (aN<|b0 (s:=.im d) rfl rfl rfl rfl rfl) rfl) rfl rfl i rfl);cases b:m5 g with
   |false=>rw[b]at a;exact jD a
   |true=>rw[b]at a;exact f_ a j
  |g::d::h::u,_=>
   have e:dZ (aC ((g::d::h::u).length:Int)) (aC 2)=Z (eU aw):=(mO _ _).trans (congrArg (λd=>Z<|eU d) (cW (by rw[dm,dm,dm];lia)));exact dk (y:=[Z (.im<|.tup (g::d::h::u))]) rfl (eJ<|jh<|f_ (cm rfl)<|jD<|cm<|b0 (aN<|cL (a5 rfl rfl) rfl rfl) rfl rfl rfl e) rfl
 |_=>rfl
def CZ{WO F:bc}{x z:gJ}{Xc W9 dq:aF bX}{f C a:bX}{WY WZ b c:ai}{d e:Bool}(g:Xc y=Z (f,We))(h:W9 We=Z (C,WO))(i:dQ WO f=Z WY)(j:dQ WO C=Z WZ)(k:x WY WZ=Z (eU d))(l:dq WO=Z (a,F))(m:dQ F C=Z b)(n:dQ F a=Z c)(o:z b c=Z (eU e))(p:F=WO):i3 x z Xc W9 dq y=Z (eU<|d&&e,WO):=by
 subst p;unfold i3;rw[g];show (W9 We).bind _=_;rw[h];show (dQ F f).bind _=_;rw[i];show (dQ F C).bind _=_;rw[j];show (x WY WZ).bind _=_;rw[k];cases d
 ·rfl
 ·show (dq F).bind _=_;rw[l];show (dQ F C).bind _=_;rw[m];show (dQ F a).bind _=_;rw[n];show (z b c).bind _=_;rw[o];rfl
def jm:ae->Bool
 |.tup [.int a,.int i]=>(decide (0<=a)&&decide (a<=30))&&(decide (0<=i)&&decide (i<=30))
 |_=>aw
def yv(c:jm s=aa):∃h:Int×Int,s=X h/\0<=h.1/\h.1<=30/\0<=h.2/\h.2<=30:=by
 unfold jm at c;split at c
 ·next a i=>
  rw[cy,cy,cy]at c;exact⟨(a,i),rfl,hh c.1.1,hh c.1.2,hh c.2.1,hh c.2.2⟩
 ·cases c
def Lr{h:Int×Int}(c:0<=h.1/\h.1<=30/\0<=h.2/\h.2<=30):jm (X h)=aa:=by
 show ((decide (0<=h.1)&&decide (h.1<=30))&&(decide (0<=h.2)&&decide (h.2<=30)))=aa;rw[c1 c.1,c1 c.2.1,c1 c.2.2.1,c1 c.2.2.2];rfl
def J0(c:mc s=aw):jm s=aw:=by
 cases a:jm s with
 |false=>rfl
 |true=>
  let⟨@h,rfl,W⟩:=yv a;cases c
def RE(c:n_ s):kh [.im s]=Z (eU<|jm s,[.im s]):=by
 have f:=xU c;unfold kh EP;refine dk (y:=[Z (.im s)]) rfl (eJ<|jh ?_) rfl;have dj:aY (a7 1 G.iO<|ah (ab 0) ax) [Z (.im s)]=Z (mc s,[Z (.im s)]):=cm (cw (a5 rfl rfl) rfl rfl f rfl);cases b:mc s with
 |false=>rw[b]at dj;rw[J0 b];exact jD dj
 |true=>
  rw[b]at dj;obtain⟨a,i,rfl⟩:∃a i,s=.tup [.int a,.int i]:=by
   unfold mc at b;split at b
   ·next g d=>
    rw[cy]at b;let⟨@a,rfl⟩:=ux b.1;let⟨@i,rfl⟩:=ux b.2;exact⟨a,i,rfl⟩
   ·cases b
  refine f_ dj ?_;have WD:aY (i3 gQ gQ (af<|aD<|.int 0) (af<|aB bD (ab 0)<|af<|aD<|.int 0)<|af<|aD<|.int 30) [Z (.im<|.tup [.int a,.int i])]=Z (decide (0<=a)&&decide (a<=30),[Z (.im<|.tup [.int a,.int i])]):=cm (CZ rfl (aN<|b0 (s:=aC a) rfl rfl rfl rfl rfl) rfl rfl rfl rfl rfl rfl rfl rfl);have WR:aY (i3 gQ gQ (af<|aD<|.int 0) (af<|aB bD (ab 0)<|af<|aD<|.int 1)<|af<|aD<|.int 30) [Z (.im<|.tup [.int a,.int i])]=Z (decide (0<=i)&&decide (i<=30),[Z (.im<|.tup [.int a,.int i])]):=cm (CZ rfl (aN<|b0 (s:=aC i) rfl rfl rfl rfl rfl) rfl rfl rfl rfl rfl rfl rfl rfl);show _=Z ((decide (0<=a)&&decide (a<=30))&&(decide (0<=i)&&decide (i<=30)),_);cases e:(decide (0<=a)&&decide (a<=30)) with
  |false=>rw[e]at WD;exact jD WD
  |true=>rw[e]at WD;exact f_ WD WR
def s8(I:List ae):Bool:=((I.zip<|I.drop 1).all λq=>bp q.1 q.2)
def xG:ae->Bool
 |.tup I=>I.all jm&&s8 I
 |_=>aw
theorem Ho{Ww:Type}(x:Ww->Bool):∀w:List Ww,ly (w.map λu=>.ay<|x u)=Z (w.map x)
 |[]=>rfl
 |f::u=>by rw[cS,ly,Ho x u];rfl
def vn(x:Ww->Bool)(w:List Ww):gN [.lst (w.map λu=>.ay<|x u)]=Z (eU<|w.all x):=by
 show (ly _).map _=_;rw[Ho,tI,uT];rfl
theorem Ac:∀I V_:List ae,gP I V_=(I.zip V_).map λq=>.tup [q.1,q.2]
 |[],_=>rfl
 |_::_,[]=>rfl
 |s::I,e::V_=>congrArg (_::·) (Ac I V_)
def MU{x:aj}(c:vF s):sm x [.im s,.im<|.fn x]=Z (eU<|xG s,[.im s,.im<|.fn x]):=by
 cases s with
 |fn g=>exact absurd rfl (c.1 g)
 |tup I=>
  let@⟨n,hd⟩:=c.2 I rfl;unfold sm Cf;refine dk (y:=[Z (.im<|.tup I),Z<|.im<|.fn x]) rfl ?_ rfl;show bj _ _ [Z (.im<|.tup I),Z<|.im<|.fn x]=_;have k:b4 1 [1] (b2<|ab 0) (a0 0) cB (ur x) [Z (.im<|.tup I),Z<|.im<|.fn x]=Z (.lst<|I.map λs=>.ay<|jm s,[Z (.im<|.tup I),Z<|.im<|.fn x]):=by
   refine fz (w:=I.map id) (o:=Y) (We:=[Z (.im<|.tup I),Z<|.im<|.fn x]) (by rw[mG];rfl) (fR id (λs=>.ay<|jm s) _ (λf l=>?_) (by omega)) rfl;refine⟨[Z (.im f),Z<|.im<|.fn x],_,[Z (.im f),Z<|.im<|.fn x],rfl,rfl,?_,rfl⟩;unfold ur;show (if x=x then _ else _)=_;rw[aJ rfl];exact cw (a5 rfl rfl) rfl rfl (RE<|hd f l) rfl
  have a:dT (dN<|af<|bo gN<|ah (af<|b4 1 [1] (b2<|ab 0) (a0 0) cB<|ur x) ax) [Z (.im<|.tup I),Z<|.im<|.fn x]=Z (!(I.all jm),[Z (.im<|.tup I),Z<|.im<|.fn x]):=ma (hW (aN<|cL (a5 (aN k) rfl) rfl<|vn jm I) rfl rfl);show _=Z (nW.eI<|eU<|I.all jm&&s8 I,_);cases b:I.all jm with
  |false=>
   rw[b]at a;exact hx (gD (c9 (jg<|hW rfl rfl rfl) a) rfl)
  |true=>
   rw[b]at a;refine bE (eD (c9 (jg<|hW rfl rfl rfl) a) rfl) ?_;have e:=e_.mp b;have m:b4 2 [] (jS<|ah (ab 0)<|ah (af<|cZ (ab 0) (c6<|aD<|.int 1) di) ax) (h5 2<|eu (a0 0)<|eu (a0 1) hM) cB (E8 x) [Z (.im<|.tup I),Z<|.im<|.fn x]=Z (.lst<|(I.zip<|I.drop 1).map λq=>.ay<|bp q.1 q.2,[Z (.im<|.tup I),Z<|.im<|.fn x]):=by
    refine fz (w:=(I.zip<|I.drop 1).map λq=>.tup [q.1,q.2]) (o:=Y) (We:=[Z (.im<|.tup I),Z<|.im<|.fn x]) ?_ (fR (λq:ae×ae=>.tup [q.1,q.2]) (λq=>.ay<|bp q.1 q.2) _ (λq h=>?_) ?_) rfl
    ·rw[<-Ac];exact rM (a5 rfl (a5 (aN (Q9 (a:=.im (.tup<|I.drop 1)) rfl rfl rfl rfl (by show Z (ai.im<|.tup<|bO I (Z ((1:Nat):Int)) Y)=_;rw[qv]))) rfl)) rfl
    ·let⟨@g,i,W⟩:=yv (e q.1 (sh h).1);let⟨@d,j,W⟩:=yv (e q.2<|lj (sh h).2);let⟨f,C⟩:=q;dsimp only at i j ⊢;subst i j;exact⟨[Z (.im<|X g),Z<|.im<|X d],_,[Z (.im<|X g),Z<|.im<|X d],rfl,rfl,b0 rfl rfl rfl rfl rfl,rfl⟩
    ·rw[ox,f9];omega
   exact eJ (cL (a5 (aN m) rfl) rfl<|vn (λq:ae×ae=>bp q.1 q.2) _)
 |_=>rfl
def Mz{x:aj}(c:vF s):q4 x [.im s]=Z (eU<|xG s,[.im s]):=by
 unfold q4 IQ;exact dk (y:=[Z (.im s)]) rfl (eJ<|cw (a5 rfl<|a5 rfl rfl) rfl rfl (MU c) rfl) rfl
def Rw:ae->Bool
 |.int a=>decide (0<=a)&&decide (a<31)
 |_=>aw
theorem GG:∀{aq:List (Int×Int)},i0 aq->s8 (aq.map X)=aa
 |[],_=>rfl
 |[g],_=>rfl
 |g::d::u,c=>by
  have U:=gL.mp c;show (bp (X g) (X d)&&s8 ((d::u).map X))=aa;rw[U.1 d (.head _),GG U.2];rfl
def ub{aq:List (Int×Int)}(c:i0 aq):aq.Nodup:=c.imp λ{g d} e z=>by rw[z,qD]at e;cases e
def SO{s:ai}{w:List ae}(e:L y=Z (s,We))(n:kq s=Z w):b2 (af L) y=Z ((w,Y),We):=by
 unfold b2;rw[gI e];show (kq s).map _=_;rw[n];rfl
theorem FW:∀(aq Wg:List bu),(aq.map λh=>(cX h,ae.ay aa)).foldl (λg q=>fs g q.1 q.2) (a4 Wg)=a4 (aq.foldl e3 Wg)
 |[],Wg=>rfl
 |h::aq,Wg=>by
  rw[cS,h4,h4,yG,FW]
def iJ(g d:bu):Bool:=(decide ((if g.1-d.1<0 then -(g.1-d.1) else g.1-d.1)+(if g.2-d.2<0 then -(g.2-d.2) else g.2-d.2)=1))
def p5{g d:bu}:iJ g d=aa↔d∈jb g:=by
 let⟨a,b⟩:=g;let⟨dY,dH⟩:=d;unfold iJ jb;rw[fF];simp only[cg,hi,h6,AI];lia
def P_(Wk:List bu)(h:bu):fe (X h) (aS Wk)=Z (decide (h∈Wk)):=by
 rw[JK,mI,nX,xD];rfl
def MC(t:List bu)(h:bu):eX (.im<|X h) (aS t)=Z (eU<|decide (h∈t)):=by
 show (fe (X h)<|aS t).map (λu=>ai.im<|.ay u)=_;rw[P_];rfl
def Oi(g d:bu):iJ g d=iJ d g:=by
 unfold iJ;rw[mM];split<;>split<;>split<;>split<;>omega
inductive hv (aq:List bu) (j:bu):bu->Prop
 | self:hv aq j j
 | step {g d:bu}:hv aq j g->d∈aq->iJ g d=aa->hv aq j d
def Rx(c:mc s=aa):∃h:bu,s=X h:=by
 unfold mc at c;split at c
 ·next g d=>
  rw[cy]at c;let⟨@a,rfl⟩:=ux c.1;let⟨@i,rfl⟩:=ux c.2;exact⟨(a,i),rfl⟩
 ·cases c
def RY(Wg:List bu)(h:bu):eH (.im<|X h) (.aH<|a4 Wg)=Z (eU<|!decide (h∈Wg)):=by
 have:=rX Wg h;show (fe (X h)<|.aH<|a4 Wg).map (λu=>ai.im<|.ay<|!u)=_;have E:(fe (X h)<|.aH<|a4 Wg).map (λu=>ai.im<|.ay u)=Z (eU<|decide (h∈Wg)):=this;let⟨@u,a,b⟩:=cU.mp E;rw[a];cases b;rfl
end G
namespace dK
def vB{Ww:Type}:List Ww->List Ww
 |[]=>[]
 |[g]=>[g]
 |g::_::u=>g::vB u
open Spec PyProof.Rows
end dK
namespace L2
open Spec PyProof.Rows
end L2
namespace G
open L2
variable{l x:List bu}{j h:bu}{q:List bu×List bu}{WC:Option ai}
def tn:bJ:=((dJ (ec (aY<|aB eX (ab 4)<|ab 0)<|aY<|aB eH (ab 4)<|ab 2) (bj (ih (aD<|.ay aa)<|kc 2 (d2 4) hZ)<|jd<|g8 hV 3 km<|ah (ab 4) ax) ep))
def JV:aF Bool:=((dN<|ab 3))
def uR:bJ:=((gh (b2<|af<|a7 1 G.kD<|ah (af<|g8 hV 3 tY ax) ax) (a0 4) G.tn))
def HM:bJ:=((bj (bV 2<|wz (d2 1)<|aD<|.ay aa)<|bj (bV 3<|eG<|ah (ab 1) ax)<|bj (jn G.JV G.uR 1000000)<|cA<|bo h9<|ah (af<|bo ib<|ah (ab 2) ax) ax))
def n0:dd:=(dp 2 5 [0,1] HM)
def Fq(a:aj):bJ:=((bj (dJ (eT (dT<|dN<|af<|a7 1 (G.q4 a)<|ah (ab 0) ax)<|aY<|aB dZ (af<|bo cF<|ah (ab 0) ax)<|af<|aD<|.int 0) (cA<|aD<|.ay aw) ep)<|cA<|aB dZ (af<|bo cF<|ah (af<|a7 2 G.n0<|ah (af<|a7 1 G.hu<|ah (ab 0) ax)<|ah (af<|aB bD (ab 0)<|af<|aD<|.int 0) ax) ax)<|af<|bo cF<|ah (ab 0) ax))
def gT(a:aj):dd:=(dp 1 1 [0] (Fq a))
theorem uz{Ww:Type}[DecidableEq Ww]:∀{t k:List Ww},t.Nodup->(∀f∈t,f∈k)->t.length<=k.length
 |[],_,_,_=>f7 _
 |f::t,k,ao,c=>by
  have bf:=iw.mp ao;have:=uz (k:=k.erase f) bf.2 λC a=>(HY (λe=>bf.1 (by rw[<-e];exact a))).mpr (c C<|.tail _ a);have e:=I_ (c f<|.head _);have q:=BI (c f<|.head _);rw[dm];lia
def en(aq:List bu)(q:List bu×List bu)(h:bu):List bu×List bu:=(if h∈aq/\h∉q.1 then (q.1++[h],q.2++[h]) else q)
abbrev h3(WC:Option ai)(aq:List bu)(q:List bu×List bu)(WI:Option ai):bc:=[Z (.aH<|a4 aq),WC,Z<|.aH<|a4 q.1,Z<|aS q.2,WI]
def Vg{aq:List bu}(A:q.1.length<10000)(E:q.2.length<10000):tn (h3 WC aq q<|Z<|.im<|X h)=Z (.bf,h3 WC aq (en aq q h)<|Z<|.im<|X h):=by
 have WD:aY (aB eX (ab 4)<|ab 0) (h3 WC aq q<|Z<|.im<|X h)=Z (decide (h∈aq),h3 WC aq q<|Z<|.im<|X h):=cm (d0<|rX aq h);have WR:aY (aB eH (ab 4)<|ab 2) (h3 WC aq q<|Z<|.im<|X h)=Z (!decide (h∈q.1),h3 WC aq q<|Z<|.im<|X h):=cm (d0<|RY q.1 h);unfold tn en;by_cases g:h∈aq
 ·rw[c1 g]at WD;by_cases d:h∈q.1
  ·rw[c1 d]at WR;rw[aP λa=>a.2 d];exact eD (f_ WD WR) rfl
  ·rw[cW d]at WR;rw[aJ ⟨g,d⟩];have b:hZ (.aH<|a4 q.1) (.im<|.tup<|cX h) (eU aa)=Z (.aH<|a4<|q.1++[h]):=by
    have e:e3 q.1 h=q.1++[h]:=by unfold e3;rw[aP d]
    rw[<-e,<-yG];exact aJ ⟨rfl,by unfold a4;rw[aZ];lia⟩
   refine gD (f_ WD WR) (bE (We:=[Z (.aH<|a4 aq),WC,Z<|.aH<|a4<|q.1++[h],Z<|aS q.2,Z<|.im<|X h]) ?_ ?_)
   ·refine tb rfl ?_;show (hZ (.aH<|a4 q.1) (.im<|.tup<|cX h)<|eU aa).map _=_;rw[b];rfl
   ·refine nQ (nj rfl rfl (a5 rfl rfl) rfl rfl (rf (by rw[aZ];lia)) ?_);show _=[Z (.aH<|a4 aq),WC,Z<|.aH<|a4<|q.1++[h],Z<|aS<|q.2++[h],Z<|.im<|X h];unfold aS;rw[d9];rfl
 ·rw[cW g]at WD;rw[aP λa=>g a.1];exact eD (jD WD) rfl
def OR(aq:List bu)(q:List bu×List bu)(h:bu):(en aq q h).1.length<=q.1.length+1/\(en aq q h).2.length<=q.2.length+1:=by
 unfold en;split
 ·rw[b_,b_];exact⟨bb _,bb _⟩
 ·exact⟨⋯,⋯⟩
theorem El{WC:Option ai}{aq:List bu}:∀(w:List bu) (q:List bu×List bu) (WI:Option ai),q.1.length+w.length<10000->q.2.length+w.length<10000->∃a,d5 (a0 4) tn (w.map X) (h3 WC aq q WI)=Z (.bf,h3 WC aq (w.foldl (en aq) q) a)
 |[],q,WI,_,_=>⟨WI,rfl⟩
 |h::w,q,WI,A,E=>by
  rw[dm]at A E;have t:=OR aq q h;let⟨a,b⟩:=El (WC:=WC) w (en aq q h) (Z<|.im<|X h) ⋯ ⋯;refine⟨a,?_⟩;rw[cS,d5];show (tn<|h3 WC aq q<|Z<|.im<|X h).bind _=_;rw[Vg ⋯ ⋯];exact b
structure n5(aq:List bu)(j:bu)(q:List bu×List bu):Prop where
 ao:q.1.Nodup
 yw:j∈q.1
 con:∀f∈q.1,hv aq j f
 sub:∀f∈q.1,f=j\/f∈aq
 y0:∀f∈q.2,f∈q.1
def n5.step{aq:List bu}{j f:bu}{q:List bu×List bu}(T:n5 aq j q)(b:f∈q.1){h:bu}(i:h∈jb f):n5 aq j (en aq q h):=by
 unfold en;split
 ·rename_i c;refine⟨?_,ed _ T.yw,λC a=>?_,λC a=>?_,λC a=>?_⟩
  ·rw[dD];exact⟨T.ao,e9 _ _,λg k d l e=>c.2 (by rw[<-cM.mp l,<-e];exact k)⟩
  ·rcases dw.mp a with z|z
   ·exact T.con C z
   ·rw[cM.mp z];exact .step (T.con f b) c.1 (p5.mpr i)
  ·rcases dw.mp a with z|z
   ·exact T.sub C z
   ·rw[cM.mp z];exact .inr c.1
  ·rcases dw.mp a with z|z
   ·exact ed _ (T.y0 C z)
   ·exact ej _ z
 ·exact T
def OG{aq:List bu}{C:bu}:(C∈q.1->C∈(en aq q h).1)/\(C∈q.2->C∈(en aq q h).2)/\(C∈(en aq q h).1->C∈q.1\/C∈(en aq q h).2)/\(h∈aq->h∈(en aq q h).1):=by
 unfold en;split
 ·rename_i c;refine⟨λz=>ed _ z,λz=>ed _ z,λz=>?_,λ_=>ej _<|.head _⟩;rcases dw.mp z with z|z
  ·exact .inl z
  ·exact .inr (ej _ z)
 ·rename_i c;refine⟨λz=>z,λz=>z,.inl,λz=>?_⟩;by_cases p:h∈q.1
  ·exact p
  ·exact absurd ⟨z,p⟩ c
theorem Cb{aq:List bu}{j f:bu}:∀(w:List bu) (q:List bu×List bu),(∀h∈w,h∈jb f)->f∈q.1->n5 aq j q->n5 aq j (w.foldl (en aq) q)/\(∀C,C∈q.1->C∈(w.foldl (en aq) q).1)/\(∀C,C∈q.2->C∈(w.foldl (en aq) q).2)/\(∀C,C∈(w.foldl (en aq) q).1->C∈q.1\/C∈(w.foldl (en aq) q).2)/\(∀h∈w,h∈aq->h∈(w.foldl (en aq) q).1)/\(w.foldl (en aq) q).1.length+q.2.length=(w.foldl (en aq) q).2.length+q.1.length
 |[],q,_,_,T=>⟨T,λ_ c=>c,λ_ c=>c,λ_ c=>.inl c,λh c=>(by cases c),sz _ _⟩
 |h::w,q,a,b,T=>by
  have k:=λC=>OG (aq:=aq) (q:=q) (h:=h) (C:=C);let@⟨i,d,g,m,n,o⟩:=Cb w (en aq q h) (λs hd=>a s<|.tail _ hd) ((k f).1 b) (T.step b<|a h<|.head _);refine⟨i,λC c=>d C<|(k C).1 c,λC c=>g C<|(k C).2.1 c,λC c=>?_,λs hd c=>?_,?_⟩
  ·rcases m C c with z|z
   ·rcases (k C).2.2.1 z with l|l
    ·exact .inl l
    ·exact .inr (g C l)
   ·exact .inr z
  ·rcases cg.mp hd with rfl|hd
   ·exact d s ((k s).2.2.2 c)
   ·exact n s hd c
  ·have e:(en aq q h).1.length+q.2.length=(en aq q h).2.length+q.1.length:=by
    unfold en;split
    ·rw[b_,b_,eO];lia
    ·exact sz _ _
   show (w.foldl (en aq)<|en aq q h).1.length+q.2.length=(w.foldl (en aq)<|en aq q h).2.length+q.1.length;lia
structure nv(aq:List bu)(j:bu)(q:List bu×List bu):Prop where
 i:n5 aq j q
 done:∀g∈q.1,g∉q.2->∀d∈aq,iJ g d=aa->d∈q.1
def n5.len{aq:List bu}(T:n5 aq j q):q.1.length<=aq.length+1:=
 uz (k:=j::aq) T.ao λf a=>by
  rcases T.sub f a with c|c
  ·rw[c];exact .head _
  ·exact .tail _ c
def nv.next{aq:List bu}{f:bu}(T:nv aq j (x,l++[f])):nv aq j ((jb f).foldl (en aq) (x,l))/\((jb f).foldl (en aq) (x,l)).1.length+l.length=((jb f).foldl (en aq) (x,l)).2.length+x.length:=by
 have k:f∈x:=T.i.y0 f (ej _<|.head _);let@⟨m,n,o,p,q,r⟩:=Cb (aq:=aq) (j:=j) (jb f) (x,l) (λ_ c=>c) k ⟨T.i.ao,T.i.yw,T.i.con,T.i.sub,λC s=>T.i.y0 C<|ed _ s⟩;refine⟨⟨m,λg t v d b e=>?_⟩,r⟩;have u:g∈x:=(p g t).resolve_right v;by_cases h:g=f
 ·subst h;exact q d (p5.mp e) b
 ·refine n d (T.done g u (λz=>?_) d b e);rcases dw.mp z with z|z
  ·exact v (o g z)
  ·exact h (cM.mp z)
def nv.fin{aq:List bu}(T:nv aq j (x,[]))(f:bu):f∈x↔hv aq j f:=by
 refine⟨T.i.con f,λc=>?_⟩;induction c with
 |self=>exact T.i.yw
 |step _ b e d=>exact T.done _ d (λg=>by cases g) _ b e
def Of{aq:List bu}{j f:bu}{WI:Option ai}(A:x.length<5000)(E:l.length<5000):∃a,uR (h3 WC aq (x,l++[f]) WI)=Z (.bf,h3 WC aq ((jb f).foldl (en aq) (x,l)) a):=by
 let⟨@a,b⟩:=El (WC:=WC) (aq:=aq) (jb f) (x,l) WI (by show _+4<_;lia) (by show _+4<_;lia);refine⟨a,?_⟩;unfold uR;refine iE (o:=Y) (We:=h3 WC aq (x,l) WI) (SO (s:=aS (jb f)) (cw (lB (gI<|nj (h:=aS (l++[f])) (c:=aS l) rfl rfl rfl rfl rfl ?_ rfl) rfl) rfl rfl (Ga f) rfl) rfl) b rfl;show (((l++[f]).map X).getLast?).map (λs=>(ai.im s,ai.lst ((l++[f]).map X).dropLast))=Z (.im<|X f,aS l);rw[d9,List.map_singleton,qw,H2];rfl
def IS{aq:List bu}(F:aq.length<=900):∃t,n0 [.aH (a4 aq),.im<|X j]=Z (av t,[.aH (a4 aq),.im<|X j])/\i0 t/\(∀f,f∈t↔hv aq j f):=by
 have p:nv aq j ([j],[j]):=⟨⟨e9 _ _,.head _,λf b=>by rw[cM.mp b];exact .self,λf b=>.inl<|cM.mp b,λf b=>b⟩,λg r v=>absurd r v⟩;let⟨@Wv,u,⟨x,@WI,rfl,T⟩⟩:=ps (h:=JV) (d:=uR) (λk y=>∃x l WI,y=h3 (Z<|.im<|X j) aq (x,l) WI/\nv aq j (x,l)/\l.length<=x.length/\k+x.length=aq.length+1+l.length) (λy=>∃x WI,y=h3 (Z<|.im<|X j) aq (x,[]) WI/\nv aq j (x,[])) (λk y ⟨x,l,WI,e,T,w,z⟩=>by
  subst e;have aW:=T.i.len;rcases List.eq_nil_or_concat l with rfl|⟨l,f,rfl⟩
  ·exact⟨aw,_,hW rfl rfl rfl,λc=>(by cases c),λ_=>⟨x,WI,rfl,T⟩⟩
  ·rw[List.concat_eq_append] at *;refine⟨aa,_,hW (s:=aS (l++[f])) rfl rfl ?_,λ_=>?_,λc=>by cases c⟩
   ·show Z (!((l++[f]).map X).isEmpty)=Z aa;rw[d9,List.isEmpty_eq_false_iff.mpr ↥0];rfl
   ·rw[b_,eO]at w z;let⟨@A,m⟩:=Of (aq:=aq) (j:=j) (f:=f) (x:=x) (l:=l) (WC:=Z (.im<|X j)) (WI:=WI) (by show _<_;dsimp only at aW;lia) (by dsimp only at aW;lia);let@⟨WM,i⟩:=T.next;have bz:=WM.i.len;generalize (jb f).foldl (en aq) (x,l)=q at m WM i bz;let⟨B,W4⟩:=q;dsimp only at aW bz i;exact⟨.bf,_,m,.inl rfl,k-1,by omega,B,W4,A,rfl,WM,by omega,by omega⟩) 1000000 (aq.length+1) (h3 (Z<|.im<|X j) aq ([j],[j]) Y) ⟨[j],[j],Y,rfl,p,bb _,by show _=aq.length+1+1;rfl⟩ ⋯
 have n:=T.i.ao;have o:=T.i.len;let⟨@t,C,D,E⟩:=M1 n (by dsimp only at o ⊢;lia);refine⟨t,?_,E,λf=>D.mem_iff.trans<|T.fin f⟩;have Wd:ib [.aH (a4 x)]=Z (aS t):=by
  show h2 ((a4 x).map λq=>.tup q.1)=_;have e:((a4 x).map λq=>ae.tup q.1)=x.map X:=by unfold a4;rw[fc];rfl
  rw[e];unfold h2;rw[aJ (rh.mpr (w4 n (by dsimp only at o ⊢;lia))),C]
 unfold n0 HM;refine dk (y:=h3 (Z<|.im<|X j) aq (x,[]) WI) rfl (bE (We:=[Z (.aH<|a4 aq),Z<|.im<|X j,Z<|.aH<|a4 [j],Y,Y]) rfl<|bE (We:=h3 (Z<|.im<|X j) aq ([j],[j]) Y) rfl<|bE u ?_) rfl;exact (eJ<|cL (a5 (aN<|cL (a5 rfl rfl) rfl Wd) rfl) rfl rfl)
def HE(a:Int):pk (.int a):=λg e=>by cases e
def Eu(h:Int×Int):n_ (X h):=⟨(λg e=>by cases e),λV_ e C a=>by
 cases e;rcases cg.mp a with rfl|a
 ·exact HE _
 ·rw[cM.mp a];exact HE _⟩
def Ft{aq:List (Int×Int)}{f:ae}(c:f∈aq.map X):n_ f:=by
 let⟨@h,W,rfl⟩:=cn.mp c;exact Eu h
def QS{I:List ae}(c:∀f∈I,n_ f)(a:I.length<=290):vF (.tup I):=⟨(λg e=>by cases e),λV_ e=>by cases e;exact⟨a,c⟩⟩
def Lc(I:List ae):pk (.tup I):=λg e=>by cases e
structure ir(aq:List bu):Prop where
 up:i0 aq
 dR:∀h∈aq,0<=h.1/\h.1<=30/\0<=h.2/\h.2<=30
 len:aq.length<=200
def ir.qm{aq:List bu}(N:ir aq):vF (.tup<|aq.map X):=QS (λf a=>Ft a) (by rw[aZ];have:=N.len;lia)
def ir.is{aq:List bu}(N:ir aq):xG (.tup<|aq.map X)=aa:=by
 show ((aq.map X).all jm&&s8 (aq.map X))=aa;rw[GG N.up,Bv,e_];intro f a;let⟨@h,b,rfl⟩:=cn.mp a;exact Lr (N.dR h b)
def OZ(g d:List bu):dZ (aC ((g.map X).length:Int)) (aC ((d.map X).length:Int))=Z (eU<|decide (g.length=d.length)):=by
 rw[mO,aZ,aZ];have:decide ((g.length:Int)=(d.length:Int))=decide (g.length=d.length):=mM.mpr ⟨λc=>⋯,λc=>⋯⟩;rw[this]
def LY(j:bu)(u:List bu):bD (av (j::u)) (aC 0)=Z (.im<|X j):=by
 show (dv ((j::u).map X) 0).map ai.im=_;rw[lr (jR 0) (s:=X j) rfl];rfl
def M6{x:aj}{u a:List bu}(N:ir (j::u))(b:n0 [.aH (a4 (j::u)),.im<|X j]=Z (av a,[.aH (a4 (j::u)),.im<|X j])):gT x [av (j::u)]=Z (eU<|decide (a.length=(j::u).length),[av (j::u)]):=by
 have e:=Mz (x:=x) N.qm;rw[N.is]at e;have aW:=N.len;have L:=Hb (aq:=j::u) (ub N.up) (by omega);have ne:dZ (aC (((j::u).map X).length:Int)) (aC 0)=Z (eU aw):=by
  rw[mO,cW (by rw[aZ,dm];omega)]
 have WD:dN (af<|a7 1 (G.q4 x)<|ah (ab 0) ax) [Z (av (j::u))]=Z (aa,[Z (av (j::u))]):=hW (aN<|cw (Q:=[.aO 0]) (J:=[av (j::u)]) (u:=eU aa) rfl rfl rfl e rfl) rfl rfl;have WR:aY (aB dZ (af<|bo cF<|ah (ab 0) ax)<|af<|aD<|.int 0) [Z (av (j::u))]=Z (aw,[Z (av (j::u))]):=cm (b0 (aN<|cL (a5 rfl rfl) rfl rfl) rfl rfl rfl ne);have c:a7 2 G.n0 (ah (af<|a7 1 G.hu<|ah (ab 0) ax)<|ah (af<|aB bD (ab 0)<|af<|aD<|.int 0) ax) [Z (av (j::u))]=Z (av a,[Z (av (j::u))]):=cw (Q:=[.cC (.aH<|a4 (j::u)),.cC<|.im<|X j]) (a5 (aN<|cw (Q:=[.aO 0]) (J:=[av (j::u)]) rfl rfl rfl L rfl)<|a5 (aN<|d0<|LY j u) rfl) rfl rfl b rfl;unfold gT Fq;exact dk (y:=[Z (av (j::u))]) rfl (bE (eD (c9 (jg WD) WR) rfl)<|eJ<|b0 (aN<|cL (a5 (aN c) rfl) rfl rfl) (aN<|cL (a5 rfl rfl) rfl rfl) rfl rfl<|OZ a (j::u)) rfl
end G
namespace L2
open Spec PyProof.Rows
end L2
namespace G
open L2
variable{d g:bu}{x:aj}{f:ae}{t:List bu}
def sT(a:aj):aF ai:=((fZ<|ec (aY<|a7 1 G.iO<|ah (ab 0) ax)<|aY<|aB eX (ab 0)<|ab 1))
def G9(a:aj):aF ai:=((aB eX (ab 1)<|af<|a7 1 G.kD<|ah (ab 0) ax))
def yT(a:aj):bJ:=((bj (dJ (eT (dT<|dN<|af<|a7 1 (G.gT a)<|ah (ab 0) ax)<|eT (dT<|dN<|af<|hT "tuple"<|ab 1)<|aY<|aB dZ (af<|bo cF<|ah (ab 1) ax)<|af<|aD<|.int 0) (cA<|aD<|.ay aw) ep)<|bj (bV 2<|a7 1 G.hu<|ah (ab 0) ax)<|bj (dJ (dT<|dN<|af<|bo gN<|ah (af<|b4 1 [2] (b2<|ab 1) (a0 0) cB<|G.sT a) ax) (cA<|aD<|.ay aw) ep)<|cA<|bo gN<|ah (af<|b4 2 [] (jS<|ah (ab 1)<|ah (af<|cZ (ab 1) (c6<|aD<|.int 1) di) ax) (h5 2<|eu (a0 0)<|eu (a0 1) hM) cB<|G.G9 a) ax))
def n7(a:aj):dd:=(dp 2 3 [0,1] (yT a))
def et(h:Nat->bu)(a:Nat):bu:=(((h<|a+1).1-(h a).1,(h<|a+1).2-(h a).2))
abbrev aq(h:Nat->bu)(r:Nat):List bu:=(range r).map h
def qI:List bu->Bool
 |g::d::u=>iJ g d&&qI (d::u)
 |_=>aa
def il(t:List bu):ae->Bool
 |.tup [.int g,.int d]=>decide ((g,d)∈t)
 |_=>aw
def tk:ae->bu
 |.tup [.int g,.int d]=>(g,d)
 |_=>(0,0)
def wV(t:List bu):ae->Bool
 |.tup I=>!I.isEmpty&&(I.all (il t)&&qI (I.map tk))
 |_=>aw
def vu(f:ae):Prop:=(n_ f/\∀V_,f=.tup V_->ae.bI 8 f=aa)
def Dj(s:ae):Prop:=(pk s/\∀I,s=.tup I->I.length<=290/\∀f∈I,vu f)
def Qd(t:List bu)(h:bu):il t (X h)=decide (h∈t):=rfl
def IB(c:il t f=aa):∃h,f=X h/\h∈t:=by
 unfold il at c;split at c
 ·exact⟨_,rfl,hh c⟩
 ·cases c
theorem JT{t:List bu}:∀{I:List ae},I.all (il t)=aa->∃H:List bu,I=H.map X/\∀h∈H,h∈t
 |[],_=>⟨[],rfl,λ_ c=>by cases c⟩
 |f::I,c=>by
  rw[G6,cy]at c;let⟨h,rfl,b⟩:=IB c.1;let⟨H,rfl,d⟩:=JT c.2;exact⟨h::H,rfl,λC a=>by
   rcases cg.mp a with rfl|a
   ·exact b
   ·exact d C a⟩
def P6(H:List bu):(H.map X).map tk=H:=by
 rw[fc];exact List.map_id'' (λ_=>rfl) H
def QE(c:n_ f):sT x [Z (.im f),Z<|.aH<|a4 t]=Z (.im<|.ay<|il t f,[Z (.im f),Z<|.aH<|a4 t]):=by
 have dj:aY (a7 1 G.iO<|ah (ab 0) ax) [Z (.im f),Z<|.aH<|a4 t]=Z (mc f,[Z (.im f),Z<|.aH<|a4 t]):=wm (cw (lB rfl rfl) rfl rfl (xU c) rfl);unfold sT;cases a:mc f with
 |false=>
  rw[a]at dj;have:il t f=aw:=by
   cases b:il t f with
   |false=>rfl
   |true=>let⟨h,rfl,W⟩:=IB b;cases a
  rw[this];exact jh (jD dj)
 |true=>
  rw[a]at dj;let⟨h,rfl⟩:=Rx a;exact jh (f_ dj<|wm<|mu rfl rfl rfl rfl<|rX t h)
theorem Fs:∀H:List bu,((H.zip<|H.drop 1).all λq=>iJ q.1 q.2)=qI H
 |[]=>rfl
 |[g]=>rfl
 |g::d::u=>by
  show (iJ g d&&((d::u).zip<|(d::u).drop 1).all λq=>iJ q.1 q.2)=_;rw[Fs (d::u)];rfl
def Vw{s:ae}(N:ir t)(j:gT x [av t]=Z (eU aa,[av t]))(hd:Dj s):n7 x [av t,.im s]=Z (eU<|wV t s,[av t,.im s]):=by
 have WD:∀o,dN (af<|a7 1 (G.gT x)<|ah (ab 0) ax) [Z (av t),Z<|.im s,o]=Z (aa,[Z (av t),Z<|.im s,o]):=λo=>r2 (gI<|cw (Q:=[.aO 0]) rfl rfl rfl j rfl) rfl rfl;have aW:=N.len;have lk:=Hb (aq:=t) (ub N.up) ⋯;have k:∀{s:ae},tm "tuple" (.im s)=Z aw->wV t s=aw->(∀o,dN (af<|a7 1 (G.gT x)<|ah (ab 0) ax) [Z (av t),Z<|.im s,o]=Z (aa,[Z (av t),Z<|.im s,o]))->n7 x [av t,.im s]=Z (eU<|wV t s,[av t,.im s]):=λ{s} S h WD=>by
  rw[h];have WR:dN (af<|hT "tuple"<|ab 1) [Z (av t),Z<|.im s,Y]=Z (aw,[Z (av t),Z<|.im s,Y]):=by
   refine r2 (gI (s:=eU aw) ?_) rfl rfl;show (tm "tuple"<|.im s).map _=_;rw[S];rfl
  unfold n7 yT;exact dk (y:=[Z (av t),Z<|.im s,Y]) rfl (hx<|gD (c9 (jg<|WD Y)<|lK<|Er WR) rfl) rfl
 cases s with
 |fn g=>exact absurd rfl (hd.1 g)
 |tup I=>
  let⟨l,m⟩:=hd.2 I rfl;have WR:∀o,dN (af<|hT "tuple"<|ab 1) [Z (av t),Z<|.im<|.tup I,o]=Z (aa,[Z (av t),Z<|.im<|.tup I,o]):=λo=>r2 rfl rfl rfl;unfold n7 yT;cases I with
  |nil=>exact dk (y:=[Z (av t),Z<|.im<|.tup [],Y]) rfl (hx<|gD (c9 (jg<|WD Y)<|c9 (jg<|WR Y) rfl) rfl) rfl
  |cons a g4=>
   have n:aY (aB dZ (af<|bo cF<|ah (ab 1) ax)<|af<|aD<|.int 0) [Z (av t),Z<|.im<|.tup (a::g4),Y]=Z (aw,[Z (av t),Z<|.im<|.tup (a::g4),Y]):=wm (mu (gI<|vv (lB rfl rfl) rfl rfl) rfl rfl rfl ((mO _ _).trans (congrArg (λd=>Z<|eU d) (cW (by rw[dm];lia)))));show _=Z (eU<|((a::g4).all<|il t)&&qI ((a::g4).map tk),_);generalize a::g4=I at *;have p:b4 1 [2] (b2<|ab 1) (a0 0) cB (G.sT x) [Z (av t),Z<|.im<|.tup I,Z<|.aH<|a4 t]=Z (.lst<|I.map λf=>.ay<|il t f,[Z (av t),Z<|.im<|.tup I,Z<|.aH<|a4 t]):=by
    refine fz (w:=I.map id) (o:=Y) (We:=[Z (av t),Z<|.im<|.tup I,Z<|.aH<|a4 t]) (by rw[mG];rfl) (fR id (λf=>.ay<|il t f) _ (λf r=>?_) ⋯) rfl;exact⟨[Z (.im f),Z<|.aH<|a4 t],_,[Z (.im f),Z<|.aH<|a4 t],rfl,rfl,QE (m f r).1,rfl⟩
   have b:dT (dN<|af<|bo gN<|ah (af<|b4 1 [2] (b2<|ab 1) (a0 0) cB<|G.sT x) ax) [Z (av t),Z<|.im<|.tup I,Z<|.aH<|a4 t]=Z (!(I.all<|il t),[Z (av t),Z<|.im<|.tup I,Z<|.aH<|a4 t]):=ma (r2 (gI<|vv (lB (gI p) rfl) rfl<|vn (il t) I) rfl rfl);refine dk (y:=[Z (av t),Z<|.im<|.tup I,Z<|.aH<|a4 t]) rfl (bE (We:=[Z (av t),Z<|.im<|.tup I,Y]) (eD (c9 (jg<|WD Y)<|c9 (jg<|WR Y) n) rfl)<|bE (We:=[Z (av t),Z<|.im<|.tup I,Z<|.aH<|a4 t]) (hO (cw (Q:=[.aO 0]) rfl rfl rfl lk rfl) (eM rfl) rfl) ?_) rfl;cases c:I.all (il t) with
   |false=>
    rw[c]at b;exact hx (gD b rfl)
   |true=>
    rw[c]at b;refine bE (eD b rfl) ?_;let⟨H,rfl,h⟩:=JT c;rw[P6];have u:b4 2 [] (jS<|ah (ab 1)<|ah (af<|cZ (ab 1) (c6<|aD<|.int 1) di) ax) (h5 2<|eu (a0 0)<|eu (a0 1) hM) cB (G.G9 x) [Z (av t),Z<|.im<|.tup<|H.map X,Z<|.aH<|a4 t]=Z (.lst<|(H.zip<|H.drop 1).map λq=>.ay<|iJ q.1 q.2,[Z (av t),Z<|.im<|.tup<|H.map X,Z<|.aH<|a4 t]):=by
     have A:gP (H.map X) ((H.map X).drop 1)=(H.zip<|H.drop 1).map λq=>.tup [X q.1,X q.2]:=by
      rw[Ac,<-jE,List.zip_map,fc];rfl
     refine fz (w:=(H.zip<|H.drop 1).map λq=>.tup [X q.1,X q.2]) (o:=Y) (We:=[Z (av t),Z<|.im<|.tup<|H.map X,Z<|.aH<|a4 t]) ?_ (fR (λq:bu×bu=>.tup [X q.1,X q.2]) (λq=>.ay<|iJ q.1 q.2) _ (λq B=>?_) ?_) rfl
     ·rw[<-A];exact rM (lB rfl (lB (gI (ft (a:=.im (.tup<|(H.map X).drop 1)) rfl rfl rfl rfl (by show Z (ai.im<|.tup<|bO (H.map X) (Z ((1:Nat):Int)) Y)=_;rw[qv]))) rfl)) rfl
     ·have e:decide (q.2∈jb q.1)=iJ q.1 q.2:=by
       rw[k6,fF];exact p5.symm
      have v:=MC (jb q.1) q.2;rw[e]at v;exact⟨[Z (.im<|X q.1),Z<|.im<|X q.2],_,[Z (.im<|X q.1),Z<|.im<|X q.2],rfl,rfl,mu rfl (gI<|cw (Q:=[.aO 0]) rfl rfl rfl (Ga q.1) rfl) rfl rfl v,rfl⟩
     ·rw[ox,f9];rw[aZ]at l;lia
    have i:=vn (λq:bu×bu=>iJ q.1 q.2) (H.zip<|H.drop 1);rw[Fs]at i;exact eJ (vv (lB (gI u) rfl) rfl i)
 |_=>exact k rfl rfl WD
def OH(h:bu):vu (X h):=⟨Eu h,λ_ W=>mI h⟩
def Ql{l:List bu}(c:f∈l.map X):vu f:=by
 let⟨h,W,rfl⟩:=cn.mp c;exact OH h
def M7{I:List ae}(c:∀f∈I,vu f)(a:I.length<=290):Dj (.tup I):=⟨Lc I,λV_ e=>by cases e;exact⟨a,c⟩⟩
abbrev uM(c:ai)(Wo W:List ae)(WQ WI WU R I W6:Option ai):bc:=[Z c,Z<|.im<|.tup Wo,Z<|.im<|.tup W,WQ,WI,WU,R,I,W6]
def hv.fL{aq:List bu}{h:bu}(c:hv aq g d)(n:hv aq d h):hv aq g h:=by
 induction n with
 |self=>exact c
 |step _ a e b=>exact .step b a e
def hv.back{aq:List bu}(c:hv aq g d)(a:g∈aq):hv aq d g:=by
 induction c with
 |self=>exact .self
 |step q i e b=>
  rename_i f C;have h:f∈aq:=by
   cases q with
   |self=>exact a
   |step _ c _=>exact c
  exact hv.fL (.step .self h (by rw[Oi];exact e)) b
def NZ{aq t:List bu}{j:bu}(T:ir t)(a:∀f,f∈t↔hv aq j f):gT x [av t]=Z (eU aa,[av t]):=by
 have own:∀f,hv aq j f->hv t j f:=λf c=>by
  induction c with
  |self=>exact .self
  |step q b e k=>exact .step k ((a _).mpr<|.step q b e) e
 have Wd:j∈t:=(a j).mpr .self;cases t with
 |nil=>cases Wd
 |cons g u=>
  have aW:=T.len;let⟨h,l,m,i⟩:=IS (aq:=g::u) (j:=g) ⋯;have e:=M6 (x:=x) T l;have all:∀f∈g::u,f∈h:=λf d=>(i f).mpr ((hv.back (own g<|(a g).mp<|.head _) Wd).fL<|own f<|(a f).mp d);have sub:∀f∈h,f∈g::u:=λf d=>by
   cases (i f).mp d with
   |self=>exact .head _
   |step _ b _=>exact b
  rw[c1 (Nat.le_antisymm (uz (ub m) sub)<|uz (ub T.up) all)]at e;exact e
end G
namespace L2
open Spec PySem.Calls PyProof.Rows
def Vs{Wf:bS}{l:bA}(s:aj)(hd:(s==jW)=aw)(o:bk)(V_:Array DictEntry)(W2:Nat)(a:o.data=.dict V_ W2):
  MeetsIn Wf l (bl.«dict.__len__» ⟨[.ref s],[]⟩) (λ_ Wb j=>j.heap.get? s=Z o/\Wb (.ok<|.ret<|.int V_.size j.toks) {j with toks:=j.toks+1}):=
 .of_wp λP Wb j ⟨b,c⟩=>by
  show wpAny _ _ (dictSize s >>= _) _ _ j;unfold dictSize;refine aA (aA<|uE b a<|aU ?_);show wpAny _ _ (bl.Dict.pendingCount s >>= _) _ _ j;refine aA (wpAny_pendingCount_other hd ?_);refine Fn ?_;rw[AR];exact c
section
variable{b:aR}
def P8:fl b (.builtin "len") (λw m G=>∃g Wm,w=[ar.ref g]/\m g=Z (.aH Wm)/\G (.int Wm.length) m):=by
 intro R j D m w Wy G H u c;let⟨g,Wm,rfl,e,p⟩:=c;let⟨J,rfl,f⟩:=iS u;cases f;let⟨h,hd,w,i,o,V_,W2,A,E,l,n,W⟩:=Ax H.bg e;have a:j.TypeIs (.ref g) "dict" := ⟨o,A,E.1⟩;have d:V_.size=Wm.length:=by
  have a8:V_.toList.length=w.length:=by rw[n,aZ]
  have bz:=eP.length i;rw[eb]at a8;lia
 have q:(V_.size:Int)<2^63:=by rw[d];rw[wU]at h;lia
 refine zL kind_len plain_len entry_len (args_len1 _) ?_;unfold bl.«len»;refine aA (m:=oneArg "len" _) (aU ?_);refine aA (m:=callSpecial? (.ref g) (aI.ofString "__len__")) (lG (name:=aI.ofString "__len__") a Cz
  (call_meetsIn Cz a F.entry_dict_len (F.args_dict_len_1 _) (Vs g hd o V_ W2 l) ⟨A,?_⟩));show wpAny _ _ _ _ _ {j with toks:=j.toks+1};refine aA (fK<|aU ?_);refine aA (n3 ?_);show wpAny _ _ (if ((V_.size:Nat):Int)<0 then _ else _) _ _ _;rw[aP (by omega)];show wpAny _ _ (if ((V_.size:Nat):Int) >= 2^63 then _ else _) _ _ _;rw[aP (by omega)];refine aA (wpAny_mkInt (aU ⟨_,rfl,.int Wm.length,m,H.tok _,⟨_,by rw[d]⟩,p⟩))
@[simp] def uc:iZ:=λI=>match I with
 |[.aH f]=>Z (.im<|.int f.length)
 |_=>Y
def If:ia b (.builtin "len") uc:=by
 refine P8.imp λw m G ⟨I,s,c,e,p⟩=>?_;unfold uc at e;split at e
 ·cases e;let⟨v,rfl,W,q,i,rfl,A,E,W⟩:=gy c;exact⟨q,i,rfl,A,by rw[<-E.length];exact cq.i p rfl⟩
 ·cases e
end
end L2
namespace L2
open Spec PyProof.Rows
section
open PySem.SeqAt
open PySem.AutoSeq1 (wpAny_loadPart')
open PySem.MeetsSeq PySem.MeetsSeq2 PySem.MeetsSeq3
def Le(t:aj)(Wr:Array ag)(r:Nat)(d:aj)(a:Array ag)(b:Nat)(e:Option aj)(aO:Array (Option ag))(m:¬(!Wr.isEmpty&&bl.List.listTooLong (Wr.size+a.size))=aa)(n:Wr.size<=sizeLine)(g:Wr.size+a.size<=sizeLine+1):
  Meets (bl.«list.extend» ⟨[.ref t,.ref d],[]⟩)
   (λP Wb j=>j.heap.get? t=Z {cls:=.type "list",data:=.seq Wr r}/\j.heap.get? d=Z {cls:=.type "tuple",dict:=e,data:=.seq a b,slots:=aO}/\
    Wb (.ok<|.ret .none) {j with heap:=j.heap.update t (bk.mapSeq λf=>f++a)}):=
 .of_wp λWf l P Wb j c=>by
  let⟨o,L,s,WN,Q⟩:=j;let⟨h,i,c⟩:=c;have p:=AutoSeq1.idx_int;have q:=A7;have u:=AutoSeq1.sub_list_list;have v:=AutoSeq1.sub_tuple_list
  wp_walk using wpAny_loadPart' h,wpAny_loadPart' i
  have k:(bk.mapSeq (λf=>f++a) {cls:=ag.type "list",data:=oC.seq Wr r}).data.pastItsLine=Y:=by
   show oC.pastItsLine (.seq (Wr++a) _)=Y;unfold oC.pastItsLine;have:(Wr++a).size<=sizeLine+1:=by rw[G7];exact g
   simp only[G7]at this ⊢;split<;>first|rfl|(exfalso;lia)
  rw[k];exact aU (aU ⟨_,rfl,c⟩)
end
section
variable{b:aR}
@[simp] def u7:ai->List ai->Option (ai×ai):=λh I=>match h,I with
 |.lst w,[.im (.tup Wn)]=>if w.length+Wn.length<=100000 then Z (.im .a6,.lst<|w++Wn) else Y
 |_,_=>Y
def Pu:rq b "list.extend" u7:=by
 intro R j D m f V7 v Wy G H k l n;let⟨h,I,u,an,Wb,Wo,q,s,ao,e,p⟩:=n;unfold u7 at e;split at e
 ·split at e
  ·rename_i w;cases e;let⟨t,Wn,rfl,A,E,rfl⟩:=q;let⟨C,B,ap,as,rfl,⟨⟨d,Q,rfl,x,c⟩,rfl⟩,⟨rfl,rfl⟩,rfl⟩:=s;have h:ht m t:=⟨_,A,(λ_ e=>by cases e),(λ_ W e=>by cases e)⟩;cases k;let⟨J,rfl,z⟩:=l.one;cases z;let⟨a1,Wl,r,u,a2,e⟩:=H.jc A;let⟨bd,a,g,o,L,M,O,P⟩:=H.bg d _ x;let⟨be,bi,bm,S⟩:=o;let⟨T,U⟩:=Prod.mk.inj M;cases T;cases U;cases P;have bn:=g.length;have bs:Wn.length+Q.length<=sizeLine:=n1 (by rw[<-E.length,<-c.length];exact w);have al:Wl.toArray.size+a.toArray.size<=sizeLine:=by rw[cV,cV];lia
   have am:¬ (!Wl.toArray.isEmpty&&bl.List.listTooLong (Wl.toArray.size+a.toArray.size))=aa:=by
    rw[Sf al,Hu];exact dz
   refine ro F.slot_list_extend ⟨_,e,rfl⟩ F.entry_list_extend (F.args_list_extend_2 _ _)
    (Le t Wl.toArray r d a.toArray O _ S am (by rw[cV];lia) ⋯) ⟨e,L,?_⟩;refine⟨.a6,_,H.u0 (y:=Wl++a) A e ↥0 (u.append g) (by rw[b_];lia),rfl,p .a6 _ [] [t] ⟨rfl,rfl⟩ ?_ (bG.chg (.head _) h (e9 _ _) λf i=>by
    rw[pw]at i;exact ed _ i)⟩
   exact⟨t,_,rfl,fB,(E.app c).mono<|cR.mT h,rfl⟩
  ·cases e
 ·cases e
end
end L2
namespace G
open L2
variable{Xi Xa W5 W6 I WI WW WQ:Option ai}{c:ai}{k r:Nat}{f:bX}{L:aF bX}{Wt V b:List aL}{x:aj}{Ww:Type}{y:bc}{H l:bQ}{d g h:aL}{F:List bQ}
def DD:bJ:=((cA<|fZ<|ec (aY<|a7 1 G.iO<|ah (ab 1) ax)<|aY<|aB eX (ab 1)<|ab 0))
def q5:dd:=(dp 2 2 [0,1] DD)
def DC:aF ai:=((a7 1 G.iO<|ah (ab 0) ax))
def C4:bJ:=((cA<|fZ<|ec (aY<|hT "tuple"<|ab 0)<|aY<|bo gN<|ah (af<|b4 1 [] (b2<|ab 0) (a0 0) cB G.DC) ax))
def oZ:dd:=(dp 1 1 [0] C4)
def x4(a:aj):aF ai:=((qs 1 a 1 G.oZ<|ah (ab 0) ax))
def Hx(a:aj):aF ai:=((aB ri (ab 0)<|ab 1))
def Hs(a:aj):bJ:=((bj (dJ (eT (dT<|dN<|af<|hT "tuple"<|ab 0)<|dT<|dN<|af<|bo gN<|ah (af<|b4 1 [1] (b2<|ab 0) (a0 0) cB<|G.x4 a) ax) (cA<|aD<|.ay aw) ep)<|cA<|bo gN<|ah (af<|b4 2 [] (jS<|ah (ab 0)<|ah (af<|cZ (ab 0) (c6<|aD<|.int 1) di) ax) (h5 2<|eu (a0 0)<|eu (a0 1) hM) cB<|G.Hx a) ax))
def qe(a:aj):dd:=(dp 2 2 [0,1] (Hs a))
def ye(a:aj):aF ai:=((qs 1 a 1 G.iO<|ah (ab 0) ax))
def It(a:aj):aF ai:=((aB ri (ab 0)<|ab 1))
def CS(a:aj):bJ:=((bj (dJ (eT (dT<|dN<|af<|hT "tuple"<|ab 0)<|dT<|dN<|af<|bo gN<|ah (af<|b4 1 [1] (b2<|ab 0) (a0 0) cB<|G.ye a) ax) (cA<|aD<|.ay aw) ep)<|cA<|bo gN<|ah (af<|b4 2 [] (jS<|ah (ab 0)<|ah (af<|cZ (ab 0) (c6<|aD<|.int 1) di) ax) (h5 2<|eu (a0 0)<|eu (a0 1) hM) cB<|G.It a) ax))
def rp(a:aj):dd:=(dp 2 2 [0,1] (CS a))
def Iv(a:aj):bJ:=((cA<|fZ<|ec (aY<|a7 1 (G.gT a)<|ah (ab 0) ax)<|ec (aY<|a7 2 G.q5<|ah (ab 0)<|ah (ab 1) ax)<|ec (aY<|a7 2 G.q5<|ah (ab 0)<|ah (ab 2) ax)<|ec (aY<|aB gd (ab 1)<|ab 2)<|aY<|aB eH (ab 2)<|af<|a7 1 G.kD<|ah (ab 1) ax))
def rD(a:aj):dd:=(dp 3 3 [0,1,2] (Iv a))
def EZ:aF ai:=((d2 0))
def GO:aF Bool:=((aY<|aB eH (ab 0)<|ab 1))
def B8:bJ:=((bj (bV 4<|a7 1 G.hu<|ah (ab 3) ax)<|bj (dJ (eT (aY<|aB eX (ab 1)<|ab 4)<|aY<|aB eX (ab 2)<|ab 4) (cA<|aD<|.ay aw) ep)<|cA<|aB eH (ab 2)<|af<|a7 2 G.n0<|ah (af<|a7 1 G.hu<|ah (af<|b4 1 [4] (b2<|ab 0) (a0 0) G.GO G.EZ) ax)<|ah (ab 1) ax))
def pY:dd:=(dp 4 5 [0,1,2,3] B8)
def m4(a:aj):bJ:=((bj (dJ (eT (dT<|dN<|af<|a7 2 (G.n7 a)<|ah (ab 0)<|ah (ab 5) ax)<|eT (aY<|aB gd (af<|aB bD (ab 5)<|af<|aD<|.int 0)<|ab 1)<|aY<|aB gd (af<|aB bD (ab 5)<|af<|jI<|aD<|.int 1)<|ab 2) (cA<|aD<|.ay aw) ep)<|jd<|g8 hV 4 u7<|ah (af<|cZ (ab 5) (c6<|aD<|.int 1)<|c6<|jI<|aD<|.int 1) ax))
def D1(a:aj):bJ:=((bj (bV 4<|eG<|ah (ab 1)<|ah (ab 2) ax)<|bj (gh (b2<|ab 3) (a0 5)<|G.m4 a)<|cA<|aB dZ (af<|bo uc<|ah (af<|a7 1 G.hu<|ah (ab 4) ax) ax)<|af<|bo cF<|ah (ab 4) ax))
def rv(a:aj):dd:=(dp 4 6 [0,1,2,3] (D1 a))
def Cy(a b c:aj):bJ:=((bj (dJ (eT (dT<|dN<|af<|a7 3 (G.rD a)<|ah (ab 0)<|ah (ab 1)<|ah (ab 2) ax)<|eT (dT<|dN<|af<|a7 2 (G.rp b)<|ah (ab 3)<|ah (af<|aD<|.fn b) ax)<|dT<|dN<|af<|a7 2 (G.qe c)<|ah (ab 4)<|ah (af<|aD<|.fn c) ax) (cA<|aD<|.ay aw) ep)<|cA<|fZ<|ec (aY<|aB dZ (af<|bo cF<|ah (ab 3) ax)<|af<|bo cF<|ah (ab 4) ax)<|ec (aY<|a7 4 G.pY<|ah (ab 0)<|ah (ab 1)<|ah (ab 2)<|ah (ab 3) ax)<|aY<|a7 4 (G.rv a)<|ah (ab 0)<|ah (ab 1)<|ah (ab 2)<|ah (ab 4) ax))
def ov(a b c:aj):dd:=(dp 5 5 [0,1,2,3,4] (Cy a b c))
def zz:aF ai:=((cQ<|ah (ab 0)<|ah (af<|aD<|.ay aa) ax))
def D3:bJ:=((bj (bV 5<|aB bD (ab 1)<|af<|a7 2 G.fP<|ah (ab 0)<|ah (af<|bo cF<|ah (ab 1) ax) ax)<|bj (bV 6<|a7 2 G.fP<|ah (ab 0)<|ah (af<|bo cF<|ah (ab 4) ax) ax)<|bj (bV 7<|eG<|ah (ab 4)<|ah (af<|cQ ax)<|ah (af<|cZ (ab 4) (c6<|aD<|.int 1) di)<|ah (af<|aB b8 (af<|cZ (ab 4) di<|c6<|d2 6)<|af<|cZ (ab 4) (c6<|aB b8 (ab 6)<|af<|aD<|.int 1) di)<|ah (af<|jT<|ab 4)<|ah (af<|aB b8 (ab 4)<|af<|cZ (ab 4) (c6<|jI<|aD<|.int 1) di) ax)<|bj (jd<|g8 hV 7 km<|ah (af<|bo h9<|ah (af<|bo ku<|ah (af<|aB b8 (ab 4)<|af<|cQ<|ah (ab 2) ax) ax) ax) ax)<|bj (bV 7<|aB b8 (ab 7)<|af<|eG<|ah (af<|bo h9<|ah (af<|bo ib<|ah (af<|bo js<|ah (af<|b4 1 [] (b2<|af<|aB b8 (ab 4)<|af<|cQ<|ah (ab 5) ax) (a0 0) cB G.zz) ax) ax) ax)<|ah (ab 1)<|ah (af<|bo h9<|ah (af<|bo ku<|ah (af<|aB b8 (ab 4)<|af<|cQ<|ah (ab 3) ax) ax) ax) ax)<|cA<|aB b8 (ab 7)<|af<|eG<|ah (af<|bo h9<|ah (af<|bo ku<|ah (af<|aB b8 (af<|aB b8 (af<|cZ (ab 4) di<|c6<|d2 6)<|af<|cQ<|ah (ab 5) ax)<|af<|cZ (ab 4) (c6<|aB b8 (ab 6)<|af<|aD<|.int 1) di) ax) ax)<|ah (af<|cQ<|ah (ab 5) ax) ax))
def ni:dd:=(dp 5 8 [0,1,2,3,4] D3)
def pW:bJ:=((dJ (aY<|aB eX (ab 7)<|ab 1) (jd<|g8 hV 6 km<|ah (af<|aB b8 (af<|aB b8 (af<|cZ (ab 4) di<|c6<|aB b8 (ab 5)<|af<|aD<|.int 1)<|af<|cQ<|ah (ab 7) ax)<|af<|cZ (ab 4) (c6<|d2 5) di) ax) ep))
def zt:aF ai:=((bo h9<|ah (af<|bo ku<|ah (af<|aB b8 (af<|aB b8 (af<|cZ (ab 1) di<|c6<|d2 2)<|af<|cQ<|ah (ab 0) ax)<|af<|cZ (ab 1) (c6<|aB b8 (ab 2)<|af<|aD<|.int 1) di) ax) ax))
def Ik:bJ:=((bj (bV 3<|a7 2 G.fP<|ah (ab 0)<|ah (af<|bo cF<|ah (ab 2) ax) ax)<|bj (bV 4<|aB bD (ab 2)<|ab 3)<|bj (bV 5<|a7 2 G.fP<|ah (ab 0)<|ah (af<|bo cF<|ah (ab 4) ax) ax)<|bj (bV 6<|eG<|ah (af<|jT<|ab 4)<|ah (af<|aB b8 (af<|cZ (ab 4) di<|c6<|d2 5)<|af<|cZ (ab 4) (c6<|aB b8 (ab 5)<|af<|aD<|.int 1) di)<|ah (af<|cZ (ab 4) (c6<|d2 5) di)<|ah (af<|cZ (ab 4) di<|c6<|aB b8 (ab 5)<|af<|aD<|.int 1)<|ah (af<|aB b8 (af<|aB b8 (ab 4)<|af<|cZ (af<|jT<|ab 4) (c6<|aD<|.int 1) di)<|af<|cZ (ab 4) (c6<|aD<|.int 1) di) ax)<|bj (gh (b2<|af<|a7 1 G.kj<|ah (af<|aB bD (ab 4)<|ab 5) ax) (a0 7) G.pW)<|bj (bV 8<|eG<|ah (ab 2)<|ah (af<|cQ ax)<|ah (af<|cZ (ab 2) (c6<|aD<|.int 1) di)<|ah (af<|jT<|ab 2)<|ah (af<|aB b8 (ab 2)<|af<|cZ (ab 2) (c6<|jI<|aD<|.int 1) di)<|ah (af<|aB b8 (af<|cZ (ab 2) di<|c6<|d2 3)<|af<|cZ (ab 2) (c6<|aB b8 (ab 3)<|af<|aD<|.int 1) di) ax)<|cA<|aB b8 (ab 8)<|af<|b4 1 [2,3] (b2<|ab 6) (a0 0) cB G.zt))
def o_:dd:=(dp 3 9 [0,1,2] Ik)
def Ir(a b c:aj):aF ai:=((cQ<|ah (ab 0)<|ah (ab 1) ax))
def I5(a b c:aj):aF ai:=((cQ<|ah (ab 1)<|ah (ab 0) ax))
def Aa(a b c:aj):aF ai:=((cQ<|ah (af<|aB bD (ab 1)<|af<|aB hP (ab 0)<|af<|bo cF<|ah (ab 1) ax)<|ah (af<|aB bD (af<|aB bD (ab 2)<|ab 0)<|af<|aD<|.int 1) ax))
def ti(a b c:aj):bJ:=((bj (bV 13<|a7 5 (G.ov a b c)<|ah (ab 3)<|ah (ab 5)<|ah (ab 6)<|ah (ab 11)<|ah (ab 12) ax)<|dJ (eT (dT<|dN<|af<|hT "bool"<|ab 13)<|aY<|aB gd (ab 13)<|af<|a7 5 G.r8<|ah (ab 3)<|ah (ab 5)<|ah (ab 6)<|ah (ab 11)<|ah (ab 12) ax) (cA<|aD<|.ay aw) ep))
def xg(a b c:aj):bJ:=((bj (bV 2<|a7 2 G.o6<|ah (ab 0)<|ah (ab 1) ax)<|bj (bV 3<|a7 2 G.pD<|ah (ab 2)<|ah (af<|aD<|.int 24) ax)<|bj (bV 4<|a7 2 G.oX<|ah (ab 2)<|ah (ab 3) ax)<|dJ (aY<|aB (rI aa) (ab 4)<|af<|aD .a6) (bj (ih (d2 4)<|h5 2<|eu (a0 5)<|eu (a0 6) hM)<|bj (ih (a7 3 G.p3<|ah (ab 3)<|ah (ab 5)<|ah (ab 6) ax)<|h5 2<|eu (a0 7)<|eu (a0 8) hM)<|bj (dJ (aY<|aB (rI aa) (af<|a7 5 (G.ov a b c)<|ah (ab 3)<|ah (ab 5)<|ah (ab 6)<|ah (ab 7)<|ah (ab 8) ax)<|af<|aD<|.ay aa) (cA<|aD<|.ay aw) ep)<|bj (bV 9<|b4 1 [8] (b2<|af<|a7 5 G.ni<|ah (ab 2)<|ah (ab 3)<|ah (ab 5)<|ah (ab 6)<|ah (ab 7) ax) (a0 0) cB<|G.Ir a b c)<|bj (bV 9<|aB b8 (ab 9)<|af<|b4 1 [7] (b2<|af<|a7 3 G.o_<|ah (ab 2)<|ah (ab 3)<|ah (ab 8) ax) (a0 0) cB<|G.I5 a b c)<|bj (bV 10<|a7 5 G.ni<|ah (ab 2)<|ah (ab 3)<|ah (ab 5)<|ah (ab 6)<|ah (ab 7) ax)<|bj (bV 9<|aB b8 (ab 9)<|af<|b4 1 [10,9] (ip<|ah (af<|bo cF<|ah (ab 9) ax) ax) (a0 0) cB<|G.Aa a b c)<|gh (b2<|ab 9) (h5 2<|eu (a0 11)<|eu (a0 12) hM)<|G.ti a b c) ep))
def EW(a b c:aj):bJ:=((bj (gh (ip<|ah (af<|aD<|.int 3) ax) (a0 1)<|G.xg a b c)<|cA<|aD<|.ay aa))
def rb(a b c:aj):dd:=(dp 1 14 [0] (EW a b c))
theorem sF{Ww:Type}{b:List Ww->Ww->List Ww}(c:∀t f,(f∈t->b t f=t)/\(f∉t->b t f=t++[f])):∀(t a:List Ww),(t.foldl b a).length<=a.length+t.length
 |[],a=>by rw[BB,gB];exact bb _
 |f::t,a=>by
  rw[h4,dm];refine fu (sF c t<|b a f) ?_;by_cases d:f∈a
  ·rw[(c a f).1 d];lia
  ·rw[(c a f).2 d,b_,eO];lia
theorem Ab{Ww:Type}{d:List Ww->Ww->List Ww}(c:∀t f,(f∈t->d t f=t)/\(f∉t->d t f=t++[f])):∀(t a:List Ww),a.Nodup->((t.foldl d a).length=a.length+t.length↔(a++t).Nodup)
 |[],a,ao=>by rw[BB,gB,cO];exact⟨λ_=>ao,λ_=>rfl⟩
 |f::t,a,ao=>by
  rw[h4,dm];by_cases b:f∈a
  ·rw[(c a f).1 b];have:=sF c t a;refine⟨λe=>⋯,λe=>?_⟩;exact absurd rfl ((dD.mp e).2.2 f b f (.head _))
  ·have g:(a++[f]).Nodup:=dD.mpr ⟨ao,e9 _ _,λC h j i e=>by rw[cM.mp i]at e;exact b (e ▸ h)⟩;rw[(c a f).2 b];have:=Ab c t (a++[f]) g;rw[b_,eO,bM,q1,sz 1]at this;exact this
theorem vt{Ww:Type}{b:List Ww->Ww->List Ww}(c:∀t f,(f∈t->b t f=t)/\(f∉t->b t f=t++[f])):∀(t a:List Ww) (f:Ww),f∈t.foldl b a↔f∈a\/f∈t
 |[],a,f=>by rw[BB];simp
 |C::t,a,f=>by
  rw[h4,vt c t (b a C) f];by_cases d:C∈a
  ·rw[(c a C).1 d,cg];refine⟨λe=>e.elim .inl λe=>.inr<|.inr e,λe=>?_⟩;rcases e with e|e|e
   ·exact .inl e
   ·exact .inl (e ▸ d)
   ·exact .inr e
  ·rw[(c a C).2 d,dw,cM,cg,or_assoc]
theorem u3{Ww:Type}{b:List Ww->Ww->List Ww}(c:∀t f,(f∈t->b t f=t)/\(f∉t->b t f=t++[f])):∀(t a:List Ww),a.Nodup->(t.foldl b a).Nodup
 |[],a,ao=>ao
 |f::t,a,ao=>by
  rw[h4];refine u3 c t _ ?_;by_cases d:f∈a
  ·rw[(c a f).1 d];exact ao
  ·rw[(c a f).2 d];exact dD.mpr ⟨ao,e9 _ _,λC g i h e=>by rw[cM.mp h]at e;exact d (e ▸ g)⟩
theorem y3{Ww:Type}{b:List Ww->Ww->List Ww}(c:∀t f,(f∈t->b t f=t)/\(f∉t->b t f=t++[f])):∀(t a:List Ww),(a++t).Nodup->t.foldl b a=a++t
 |[],a,_=>(cO a).symm
 |f::t,a,ao=>by
  have d:f∉a:=λe=>(dD.mp ao).2.2 f e f (.head _) rfl;rw[h4,(c a f).2 d,y3 c t (a++[f]) (by rw[bM];exact ao),bM];rfl
def nC(t:List aL)(f:aL):(f∈t->e3 t f=t)/\(f∉t->e3 t f=t++[f]):=⟨λc=>aJ c,λc=>aP c⟩
def kR(t:List bQ)(f:bQ):List bQ:=(if f∈t then t else t++[f])
def ra(t:List bQ)(f:bQ):(f∈t->kR t f=t)/\(f∉t->kR t f=t++[f]):=⟨λc=>aJ c,λc=>aP c⟩
theorem z9:∀b Wt:List aL,fh (b.map X) (Wt.map X)=decide (b=Wt)
 |[],[]=>rfl
 |[],_::_=>rfl
 |_::_,[]=>rfl
 |f::b,C::Wt=>by
  rw[cS,cS,fh,tO,z9 b Wt,k6,cy,fF,fF,fF,sV]
theorem HT:∀b Wt:List bQ,fh (b.map az) (Wt.map az)=decide (b=Wt)
 |[],[]=>rfl
 |[],_::_=>rfl
 |_::_,[]=>rfl
 |f::b,C::Wt=>by
  rw[cS,cS,fh,HT b Wt];show (fh (f.map X) (C.map X)&&_)=_;rw[z9,k6,cy,fF,fF,fF,sV]
theorem Ap{Ww:Type}{Wb:Ww->Ww->Bool}(fL:∀f C a,Wb f C=aa->Wb C a=aa->Wb f a=aa):∀t:List Ww,((t.zip<|t.drop 1).all λq=>Wb q.1 q.2)=aa↔t.Pairwise λg d=>Wb g d=aa
 |[]=>⟨λ_=>.nil,λ_=>rfl⟩
 |[f]=>⟨λ_=>e9 _ _,λ_=>rfl⟩
 |f::C::u=>by
  have e:=Ap fL (C::u);show (Wb f C&&((C::u).zip<|(C::u).drop 1).all λq=>Wb q.1 q.2)=aa↔_;rw[cy,e];refine⟨λ⟨A,E⟩=>gL.mpr ⟨λa b=>?_,E⟩,λc=>⟨(gL.mp c).1 C (.head _),(gL.mp c).2⟩⟩;rcases cg.mp b with rfl|b
  ·exact A
  ·exact fL f C a A ((gL.mp E).1 a b)
def Qw(f C a:aL)(A:bp (X f) (X C)=aa)(E:bp (X C) (X a)=aa):bp (X f) (X a)=aa:=q8 (r:=6) rfl rfl A E
def Sk(f C a:bQ)(A:bp (az f) (az C)=aa)(E:bp (az C) (az a)=aa):bp (az f) (az a)=aa:=q8 (r:=6) (show fa 6 (az f) (az C)=aa from px f C) (show fa 6 (az C) (az a)=aa from px C a) A E
def HW(a:b.length<=1000):js [.lst (b.map λh=>.tup [X h,.ay aa])]=Z (.aH<|a4<|b.foldl e3 []):=by
 show (jV<|b.map λh=>.tup [X h,.ay aa]).bind _=_;rw[Gz];show (if ((a4 b).all λq=>ae.keys 7 q.1)=aa/\(a4 b).length<=1000 then Z (ai.aH<|hE<|a4 b) else Y)=_;rw[aJ ⟨BZ b,by unfold a4;rw[aZ];exact a⟩];exact congrArg (λc=>Z<|ai.aH c) (FW b [])
def Rp(k:∀h∈b,h∈V)(g:b.length<=1000):∃B:Bool,tx [av V,av b]=Z (.im<|.ay B,[av V,av b])/\(B=aa↔mi b):=by
 have m:b4 1 [0] (b2<|ab 1) (a0 0) cB G.Fw [Z (av V),Z<|av b]=Z (.lst<|b.map λ_=>.ay aa,[Z (av V),Z<|av b]):=by
  refine fz (w:=b.map X) (o:=Y) (We:=[Z (av V),Z<|av b]) rfl (fR X (λ_=>.ay aa) _ (λh i=>?_) ⋯) rfl;exact⟨[Z (.im<|X h),Z<|av V],_,[Z (.im<|X h),Z<|av V],rfl,rfl,cw (Q:=[.aO 1,.cC<|.im<|az [h]]) (a5 rfl<|a5 (aN rfl) rfl) rfl rfl (R4 (l:=[h]) (ie rfl) (AD _ _) (λf n=>by rw[cM.mp n];exact k h i) rfl) rfl,rfl⟩
 have p:b4 1 [] (b2<|ab 1) (a0 0) cB G.BX [Z (av V),Z<|av b]=Z (.lst<|b.map λh=>.tup [X h,.ay aa],[Z (av V),Z<|av b]):=by
  refine fz (w:=b.map X) (o:=Y) (We:=[Z (av V),Z<|av b]) rfl (fR X (λh=>.tup [X h,.ay aa]) _ (λh i=>?_) ⋯) rfl;exact⟨[Z (.im<|X h)],_,[Z (.im<|X h)],rfl,rfl,rfl,rfl⟩
 have lk:=sF nC b [];rw[gB]at lk;let⟨a,d,WT,up⟩:=A6 (u3 nC b [] gU) ⋯;have r:ib [.aH (a4<|b.foldl e3 [])]=Z (aS a):=by
  show h2 ((a4<|b.foldl e3 []).map λq=>.tup q.1)=_;rw[yR];exact d
 have s:dZ (aS b) (aS a)=Z (.im<|.ay<|decide (b=a)):=by
  show (if (ae.de 8 (b.map X)&&ae.de 8 (a.map X))=aa then Z (ai.im<|.ay<|fh (b.map X)<|a.map X) else Y)=_;rw[nX,nX,aJ<|show (aa&&aa)=aa from rfl,z9]
 refine⟨decide (b=a),?_,?_⟩
 ·unfold tx HX;exact dk (y:=[Z (av V),Z<|av b]) rfl (bE (eD (c9 (We:=[Z (av V),Z<|av b]) rfl<|jg<|hW (aN<|cL (a5 (aN m) rfl) rfl<|uQ b) rfl rfl) rfl)<|eJ<|b0 (aN<|cL (a5 rfl rfl) rfl rfl) (aN<|cL (a5 (aN<|cL (a5 (aN p) rfl) rfl<|HW g) rfl) rfl r) rfl rfl s) rfl
 ·rw[fF];refine⟨λe=>e ▸ up,λc=>?_⟩;have u:b.foldl e3 []=b:=y3 nC b [] c.ao;rw[u]at WT d;have o:=w4 c.ao g;unfold h2 at d;rw[aJ (rh.mpr o),<-JH o.ord (List.Perm.refl _) (kH.mpr c)]at d;have v:=ai.lst.inj (Option.some.inj d);have:=congrArg (List.map mQ) v;rw[fc,fc]at this;have j:∀t:List aL,t.map (mQ ∘ X)=t:=λt=>(k_ λh W=>u4 h).trans (mG t)
  rwa [j,j]at this
def QF(Wg:List bQ)(l:bQ):((gX Wg).any λq=>decide (q.1=l.map X))=decide (l∈Wg):=by
 rw[k6,pR,fF];constructor
 ·rintro⟨q,a,e⟩;let⟨f,b,rfl⟩:=cn.mp a;exact DG (congrArg ae.tup<|hh e) ▸ b
 ·intro c;exact⟨_,cn.mpr ⟨l,c,rfl⟩,c1 rfl⟩
def Lx(Wg:List bQ)(l:bQ):fs (gX Wg) (l.map X) (.ay aa)=gX (kR Wg l):=by
 unfold fs;rw[QF];by_cases c:l∈Wg
 ·rw[c1 c,aJ rfl,(ra Wg l).1 c];unfold gX;rw[fc];refine k_ λf W=>?_;show (if f.map X=l.map X then (f.map X,ae.ay aa) else (f.map X,ae.ay aa))=_;split<;>rfl
 ·rw[cW c,aP dz,(ra Wg l).2 c];unfold gX;rw[d9];rfl
theorem EK:∀F Wg:List bQ,(gX F).foldl (λg q=>fs g q.1 q.2) (gX Wg)=gX (F.foldl kR Wg)
 |[],Wg=>rfl
 |l::F,Wg=>by
  show (gX F).foldl (λg q=>fs g q.1 q.2) (fs (gX Wg) (l.map X)<|.ay aa)=_;rw[Lx,EK F,h4]
def TU(a:F.length<=1000):js [.lst (F.map λl=>.tup [az l,.ay aa])]=Z (.aH<|gX<|F.foldl kR []):=by
 have A:((gX F).all λq=>ae.keys 7 q.1)=aa:=by
  rw[e_];intro q b;let⟨f,d,rfl⟩:=cn.mp b;exact D0 f
 show (jV<|F.map λl=>.tup [az l,.ay aa]).bind _=_;rw[Mb];show (if ((gX F).all λq=>ae.keys 7 q.1)=aa/\(gX F).length<=1000 then Z (ai.aH<|hE<|gX F) else Y)=_;rw[aJ ⟨A,by unfold gX;rw[aZ];exact a⟩];exact congrArg (λc=>Z<|ai.aH c) (EK F [])
structure jy(V:List aL)(F:List bQ):Prop where
 ei:F.length<=100
 ne:∀l∈F,l≠[]
 len:∀l∈F,l.length<=290
 dR:∀l∈F,∀h∈l,h∈V
def lU(g d:aL)(l:bQ):Prop:=(∃k,l=g::(k++[d]))
def Ds:(∀l∈F,l.length<=290)->(F.flatMap dO).length<=290*F.length:=by
 induction F with
 |nil=>intro W;exact bb _
 |cons l F a=>
  intro c;have:=a λl b=>c l (.tail _ b);have A:=c l (.head _);have E:(dO l).length<=l.length:=by unfold dO;rw[FC,f9];lia
  rw[rk,b_,dm];lia
def TQ(c:h∈dO l):h∈l:=lj ((List.dropLast_sublist _).subset c)
def S0(h:l≠[])(i:¬ lU g d l):mK [Z (av V),Z<|.im<|X g,Z<|.im<|X d,WQ,Z<|aS H,Z<|.im<|az l]=Z (.eI<|.im<|.ay aw,[Z (av V),Z<|.im<|X g,Z<|.im<|X d,WQ,Z<|aS H,Z<|.im<|az l]):=by
 unfold mK;let⟨f,u,rfl⟩:=FL h;by_cases a:u=[]
 ·subst a;exact hx (gD (We:=[Z (av V),Z<|.im<|X g,Z<|.im<|X d,WQ,Z<|aS H,Z<|.im<|az [f]]) (lK rfl) rfl)
 ·let⟨k,C,rfl⟩:=zN a;have a8:cF [.im (az (f::(k++[C])))]=Z (aC ((k.length+2:Nat):Int)):=by
   show Z (ai.im<|.int (((f::(k++[C])).map X).length:Int))=_;rw[aZ,dm,b_,eO]
  have bz:vR (aC ((k.length+2:Nat):Int)) (aC 2)=Z (.im<|.ay aw):=by
   show Z (ai.im<|.ay<|decide (((k.length+2:Nat):Int)<2))=_;rw[cW ⋯]
  have j:bD (.im<|az (f::(k++[C]))) (aC<|-1)=Z (.im<|X C):=by
   show (dv ((f::(k++[C])).map X)<|-1).map ai.im=_;rw[pT (s:=X C) (by rw[<-nD,d9];exact qw)];rfl
  have b:bD (.im<|az (f::(k++[C]))) (aC 0)=Z (.im<|X f):=by
   show (dv ((f::(k++[C])).map X) 0).map ai.im=_;rw[lr (jR 0) (s:=X f) rfl];rfl
  refine hx (gD (We:=[Z (av V),Z<|.im<|X g,Z<|.im<|X d,WQ,Z<|aS H,Z<|.im<|az (f::(k++[C]))]) (c9 (cm<|b0 (aN<|cL (a5 rfl rfl) rfl a8) rfl rfl rfl bz) ?_) rfl);by_cases c:f=g
  ·subst c;have m:C≠d:=λe=>i ⟨k,by rw[e]⟩;exact c9 (cm (b0 (aN<|d0 b) rfl rfl rfl ((ko f f).trans (by rw[c1 rfl];rfl)))) (cm (b0 (aN<|b0 rfl (aN rfl) rfl rfl j) rfl rfl rfl ((ko C d).trans (by rw[cW m];rfl))))
  ·exact lK (cm (b0 (aN<|d0 b) rfl rfl rfl ((ko f g).trans (by rw[cW c];rfl))))
theorem D2{V:List aL}{g d:aL}{WQ:Option ai}:∀(F:List bQ) (H:bQ) (WU:Option ai),(∀l∈F,l≠[])->(∀l∈F,l.length<=290)->H.length+290*F.length<=40000->
  (∃a,d5 (a0 5) mK (F.map az) [Z (av V),Z<|.im<|X g,Z<|.im<|X d,WQ,Z<|aS H,WU]=Z (.bf,[Z (av V),Z<|.im<|X g,Z<|.im<|X d,WQ,Z<|aS<|H++F.flatMap dO,a])/\∀l∈F,lU g d l)\/
  ∃Wv,d5 (a0 5) mK (F.map az) [Z (av V),Z<|.im<|X g,Z<|.im<|X d,WQ,Z<|aS H,WU]=Z (.eI<|.im<|.ay aw,Wv)/\Wv.take 4=[Z (av V),Z<|.im<|X g,Z<|.im<|X d,WQ]/\¬ ∀l∈F,lU g d l
 |[],H,WU,_,_,_=>.inl ⟨WU,by rw[F7,cO];rfl,(λl hw=>nomatch hw)⟩
 |l::F,H,WU,f,h,i=>by
  have hw:=h l (.head _);rw[dm]at i;rw[cS,d5];show (∃a,(mK [Z (av V),Z<|.im<|X g,Z<|.im<|X d,WQ,Z<|aS H,Z<|.im<|az l]).bind _=_/\_)\/∃Wv,(mK [Z (av V),Z<|.im<|X g,Z<|.im<|X d,WQ,Z<|aS H,Z<|.im<|az l]).bind _=_/\_;by_cases b:lU g d l
  ·let⟨k,rfl⟩:=b;have j:k.length<=290:=by rw[dm,b_]at hw;lia
   rw[O2 ⋯ ⋯];rcases D2 (V:=V) (WQ:=WQ) F (H++k) (Z<|.im<|az (g::(k++[d]))) (λl hw=>f l<|.tail _ hw) (λl hw=>h l<|.tail _ hw) (by rw[b_];lia) with ⟨a,e,L⟩|⟨Wv,e,s,L⟩
   ·refine .inl ⟨a,?_,λl hw=>?_⟩
    ·rw[rk,xI,<-bM];exact e
    ·rcases cg.mp hw with rfl|hw
     ·exact⟨k,rfl⟩
     ·exact L l hw
   ·exact .inr ⟨Wv,e,s,λc=>L λl hw=>c l<|.tail _ hw⟩
  ·rw[S0 (f l<|.head _) b];exact .inr ⟨_,rfl,rfl,λc=>b<|c l<|.head _⟩
def UW(t:List (List ae))(f:List ae):(f∈t->hI t f=t)/\(f∉t->hI t f=t++[f]):=⟨λc=>aJ c,λc=>aP c⟩
def Pg(H:List aL):(gH<|H.map cX).length=H.length↔H.Nodup:=by
 have:=Ab UW (H.map cX) [] gU;rw[gB,BA,aZ,pw]at this;refine this.trans ⟨λc=>?_,u2 λf W C W e=>oF e⟩;rw[m3,kH]at c;exact m3.mpr (c.imp λ{f C} e z=>e (by rw[z]))
def Uk{H:List aL}{a:Nat}(c:y[a]?=Z (Z<|aS H))(d:∀h∈H,h∈V)(l:V.length<=200):qZ (ah (ab a) ax) y=Z (aC ((gH<|H.map cX).length:Int),y):=by
 have e:H.map X=(H.map cX).map .tup:=by rw[fc];rfl
 have hd:(gH<|H.map cX).length<=(V.map cX).length:=(N6 _).length_le_of_subset λn b=>by
  let⟨f,g,rfl⟩:=cn.mp (J4.mp b);exact cn.mpr ⟨f,d f g,rfl⟩
 rw[aZ]at hd;have i:r4 (H.map cX)=aa:=FX.mpr ⟨λn b=>by
  let⟨f,W,rfl⟩:=cn.mp b;exact nY f,⋯⟩
 have j:ah (ab a) ax y=Z ([.aO a],y):=by simp -implicitDefEqProofs [c]
 have k:hr y [.aO a]=Z [aS H]:=by simp -implicitDefEqProofs [c]
 unfold qZ;rw[j];show (hr y [.aO a]).bind _=_;rw[k];show (qE<|H.map X).bind _=_;rw[e,H5];show (if r4 (H.map cX)=aa then Z (ai.im<|.int ((gH<|H.map cX).length:Int),y) else Y)=_;rw[aJ i]
structure H_(g d:aL)(F:List bQ):Prop where
 ch:∀l∈F,gq l=aa
 up:mC F
 jH:∀l∈F,lU g d l
 ao:(F.flatMap dO).Nodup
 na:g∉F.flatMap dO
 nb:d∉F.flatMap dO
def LH(H:V.length<=200)(m:jy V F):∃B:Bool,rW [av V,.im<|X g,.im<|X d,.im<|.tup<|F.map az]=Z (.im<|.ay B,[av V,.im<|X g,.im<|X d,.im<|.tup<|F.map az])/\(B=aa↔H_ g d F):=by
 have ei:=m.ei;have I:b4 1 [0] (b2<|ab 3) (a0 0) cB G.yO [Z (av V),Z<|.im<|X g,Z<|.im<|X d,Z<|.im<|.tup<|F.map az,Y,Y]=Z (.lst<|F.map λl=>.ay<|gq l,[Z (av V),Z<|.im<|X g,Z<|.im<|X d,Z<|.im<|.tup<|F.map az,Y,Y]):=by
  refine fz (w:=F.map az) (o:=Y) (We:=[Z (av V),Z<|.im<|X g,Z<|.im<|X d,Z<|.im<|.tup<|F.map az,Y,Y]) rfl (fR az (λl=>.ay<|gq l) _ (λl b=>?_) ⋯) rfl;exact⟨[Z (.im<|az l),Z<|av V],_,[Z (.im<|az l),Z<|av V],rfl,rfl,cw (Q:=[.aO 1,.aO 0]) rfl rfl rfl (Dy (by have:=m.len l b;lia) (m.ne l b)<|m.dR l b) rfl,rfl⟩
 have WD:dT (dN<|af<|bo gN<|ah (af<|b4 1 [0] (b2<|ab 3) (a0 0) cB G.yO) ax) [Z (av V),Z<|.im<|X g,Z<|.im<|X d,Z<|.im<|.tup<|F.map az,Y,Y]=Z (!(F.all gq),[Z (av V),Z<|.im<|X g,Z<|.im<|X d,Z<|.im<|.tup<|F.map az,Y,Y]):=ma (hW (aN<|cL (a5 (aN I) rfl) rfl<|sG gq F) rfl rfl);unfold rW IL;cases i:F.all gq with
 |false=>
  rw[i]at WD;refine⟨aw,dk (y:=[Z (av V),Z<|.im<|X g,Z<|.im<|X d,Z<|.im<|.tup<|F.map az,Y,Y]) rfl (hx<|gD (c9 (We:=[Z (av V),Z<|.im<|X g,Z<|.im<|X d,Z<|.im<|.tup<|F.map az,Y,Y]) rfl WD) rfl) rfl,(λa=>by cases a),λT=>?_⟩;rw[e_.mpr T.ch]at i;cases i
 |true=>
  rw[i]at WD;have J:b4 1 [] (b2<|ab 3) (a0 0) cB G.yC [Z (av V),Z<|.im<|X g,Z<|.im<|X d,Z<|.im<|.tup<|F.map az,Y,Y]=Z (.lst<|F.map λl=>.tup [az l,.ay aa],[Z (av V),Z<|.im<|X g,Z<|.im<|X d,Z<|.im<|.tup<|F.map az,Y,Y]):=by
   refine fz (w:=F.map az) (o:=Y) (We:=[Z (av V),Z<|.im<|X g,Z<|.im<|X d,Z<|.im<|.tup<|F.map az,Y,Y]) rfl (fR az (λl=>.tup [az l,.ay aa]) _ (λl b=>?_) ⋯) rfl;exact⟨[Z (.im<|az l)],_,[Z (.im<|az l)],rfl,rfl,rfl,rfl⟩
  have lk:=sF ra F [];rw[gB]at lk;have L:∀l∈F.foldl kR [],l∈F:=λl b=>((vt ra F [] l).mp b).resolve_left hi;let⟨f,j,WT,up⟩:=CX (u3 ra F [] gU) ⋯ λl b=>m.ne l (L l b);have M:ib [.aH (gX<|F.foldl kR [])]=Z (.lst<|f.map az):=by
   have e:((gX<|F.foldl kR []).map λq=>ae.tup q.1)=(F.foldl kR []).map az:=by unfold gX;rw[fc];rfl
   show h2 ((gX<|F.foldl kR []).map λq=>.tup q.1)=_;rw[e];exact j
  have ne:gd (.lst<|F.map az) (.lst<|f.map az)=Z (.im<|.ay<|!decide (F=f)):=by
   show (if (ae.de 8 (F.map az)&&ae.de 8 (f.map az))=aa then Z (ai.im<|.ay<|!fh (F.map az) (f.map az)) else Y)=_;rw[za,za,aJ<|show (aa&&aa)=aa from rfl,HT]
  have WR:aY (aB gd (af<|bo qF<|ah (ab 3) ax)<|af<|bo ib<|ah (af<|bo js<|ah (af<|b4 1 [] (b2<|ab 3) (a0 0) cB G.yC) ax) ax) [Z (av V),Z<|.im<|X g,Z<|.im<|X d,Z<|.im<|.tup<|F.map az,Y,Y]=Z (!decide (F=f),[Z (av V),Z<|.im<|X g,Z<|.im<|X d,Z<|.im<|.tup<|F.map az,Y,Y]):=cm (b0 (aN<|cL (a5 rfl rfl) rfl rfl) (aN (cL (a5 (aN (cL (a5 (aN J) rfl) rfl (TU ⋯))) rfl) rfl M)) rfl rfl ne);have N:mC F->F=f:=λc=>by
   have O:F.foldl kR []=F:=y3 ra F [] c.ao;rw[O]at WT j;have o:=Hd c.ao ⋯ m.ne;unfold h2 at j;rw[aJ (rh.mpr o),<-JH o.ord (List.Perm.refl _) (kH.mpr c)]at j;have:=congrArg (List.map oh) (ai.lst.inj<|Option.some.inj j);rw[fc,fc]at this;have C:∀t:List bQ,t.map (oh ∘ az)=t:=λt=>(k_ λh W=>tP h).trans (mG t)
   rwa [C,C]at this
  by_cases n:F=f
  ·rw[c1 n]at WR;have P:mC F:=n ▸ up;have aW:=Ds m.len;have R:∀h∈F.flatMap dO,h∈V:=λh i=>by
    let⟨l,b,c⟩:=zJ.mp i;exact m.dR l b h (TQ c)
   rcases D2 (V:=V) (g:=g) (d:=d) (WQ:=Z (.im<|.tup<|F.map az)) F [] Y m.ne m.len (by rw[gB];lia) with ⟨WU,p,jH⟩|⟨Wv,p,s,jH⟩
   ·rw[pw]at p;have a8:cF [aS (F.flatMap dO)]=Z (aC ((F.flatMap dO).length:Int)):=by
     show Z (ai.im<|.int (((F.flatMap dO).map X).length:Int))=_;rw[aZ]
    have k:aY (aB dZ (af<|bo cF<|ah (ab 4) ax)<|af<|qZ<|ah (ab 4) ax) [Z (av V),Z<|.im<|X g,Z<|.im<|X d,Z<|.im<|.tup<|F.map az,Z<|aS<|F.flatMap dO,WU]=Z (decide (F.flatMap dO).Nodup,[Z (av V),Z<|.im<|X g,Z<|.im<|X d,Z<|.im<|.tup<|F.map az,Z<|aS<|F.flatMap dO,WU]):=by
     refine cm (b0 (aN<|cL (a5 rfl rfl) rfl a8) (aN<|Uk rfl R H) rfl rfl<|(mO _ _).trans ?_);have:((F.flatMap dO).length:Int)=((gH<|(F.flatMap dO).map cX).length:Int)↔(F.flatMap dO).Nodup:=by
      rw[<-Pg];exact⟨λc=>⋯,λc=>⋯⟩
     rw[mM.mpr this]
    have r:aY (aB eH (ab 1)<|ab 4) [Z (av V),Z<|.im<|X g,Z<|.im<|X d,Z<|.im<|.tup<|F.map az,Z<|aS<|F.flatMap dO,WU]=Z (!decide (g∈F.flatMap dO),[Z (av V),Z<|.im<|X g,Z<|.im<|X d,Z<|.im<|.tup<|F.map az,Z<|aS<|F.flatMap dO,WU]):=cm (d0<|sA _ g);have S:aY (aB eH (ab 2)<|ab 4) [Z (av V),Z<|.im<|X g,Z<|.im<|X d,Z<|.im<|.tup<|F.map az,Z<|aS<|F.flatMap dO,WU]=Z (!decide (d∈F.flatMap dO),[Z (av V),Z<|.im<|X g,Z<|.im<|X d,Z<|.im<|.tup<|F.map az,Z<|aS<|F.flatMap dO,WU]):=cm (d0<|sA _ d);have fin:∃B,ec (aY<|aB dZ (af<|bo cF<|ah (ab 4) ax)<|af<|qZ<|ah (ab 4) ax) (ec (aY<|aB eH (ab 1)<|ab 4)<|aY<|aB eH (ab 2)<|ab 4) [Z (av V),Z<|.im<|X g,Z<|.im<|X d,Z<|.im<|.tup<|F.map az,Z<|aS<|F.flatMap dO,WU]=Z (B,[Z (av V),Z<|.im<|X g,Z<|.im<|X d,Z<|.im<|.tup<|F.map az,Z<|aS<|F.flatMap dO,WU])/\(B=aa↔(F.flatMap dO).Nodup/\g∉F.flatMap dO/\d∉F.flatMap dO):=by
     by_cases A:(F.flatMap dO).Nodup
     ·rw[c1 A]at k;by_cases E:g∈F.flatMap dO
      ·rw[c1 E]at r;exact⟨aw,f_ k<|jD r,(λa=>by cases a),λa=>absurd E a.2.1⟩
      ·rw[cW E]at r;refine⟨_,f_ k<|f_ r S,?_⟩;rw[k2,lx];exact⟨λa=>⟨A,E,a⟩,λa=>a.2.2⟩
     ·rw[cW A]at k;exact⟨aw,jD k,(λa=>by cases a),λa=>absurd a.1 A⟩
    let⟨B,U,al⟩:=fin;refine⟨B,dk (y:=[Z (av V),Z<|.im<|X g,Z<|.im<|X d,Z<|.im<|.tup<|F.map az,Z<|aS<|F.flatMap dO,WU]) rfl (bE (eD (c9 (We:=[Z (av V),Z<|.im<|X g,Z<|.im<|X d,Z<|.im<|.tup<|F.map az,Y,Y]) rfl WD) rfl)<|bE (eD WR rfl)<|bE (We:=[Z (av V),Z<|.im<|X g,Z<|.im<|X d,Z<|.im<|.tup<|F.map az,Z<|aS [],Y]) rfl<|bE (iE (o:=Y) (w:=F.map az) (We:=[Z (av V),Z<|.im<|X g,Z<|.im<|X d,Z<|.im<|.tup<|F.map az,Z<|aS [],Y]) rfl p rfl)<|eJ<|jh U) rfl,?_⟩;rw[al];exact⟨λ⟨am,an,ap⟩=>⟨e_.mp i,P,jH,am,an,ap⟩,λT=>⟨T.ao,T.na,T.nb⟩⟩
   ·obtain⟨x,as⟩:∃x,Wv=Z (av V)::Z (.im<|X g)::Z (.im<|X d)::Z (.im<|.tup<|F.map az)::x:=by
     match Wv,s with
     |x0::a1::a2::bd::u,s=>simp only[xX,pX,sV,and_true]at s;let⟨rfl,rfl,rfl,rfl⟩:=s;exact⟨u,rfl⟩
     |[],s=>cases s
     |[_],s=>cases s
     |[_,_],s=>cases s
     |[_,_,_],s=>cases s
    subst as;refine⟨aw,dk (y:=Z (av V)::Z (.im<|X g)::Z (.im<|X d)::Z (.im<|.tup<|F.map az)::x) rfl (bE (eD (c9 (We:=[Z (av V),Z<|.im<|X g,Z<|.im<|X d,Z<|.im<|.tup<|F.map az,Y,Y]) rfl WD) rfl)<|bE (eD WR rfl)<|bE (We:=[Z (av V),Z<|.im<|X g,Z<|.im<|X d,Z<|.im<|.tup<|F.map az,Z<|aS [],Y]) rfl<|hx<|iE (o:=Y) (w:=F.map az) (We:=[Z (av V),Z<|.im<|X g,Z<|.im<|X d,Z<|.im<|.tup<|F.map az,Z<|aS [],Y]) rfl p rfl) rfl,(λa=>by cases a),λT=>absurd T.jH jH⟩
  ·rw[cW n]at WR;exact⟨aw,dk (y:=[Z (av V),Z<|.im<|X g,Z<|.im<|X d,Z<|.im<|.tup<|F.map az,Y,Y]) rfl (bE (eD (c9 (We:=[Z (av V),Z<|.im<|X g,Z<|.im<|X d,Z<|.im<|.tup<|F.map az,Y,Y]) rfl WD) rfl)<|hx<|gD WR rfl) rfl,(λa=>by cases a),λT=>absurd (N T.up) n⟩
structure Bt(V:List aL)(g d:aL)(b:List aL)(F:List bQ):Prop where
 up:mi b
 na:g∉b
 nb:d∉b
 uN:¬ ez (V.filter λh=>!decide (h∈b)) g d
 w:H_ g d F
 n:F.length=b.length
def Mk(t:V.length<=200)(J:∀h∈b,h∈V)(L:b.length<=1000)(m:jy V F):∃B:Bool,r8 [av V,.im<|X g,.im<|X d,av b,.im<|.tup<|F.map az]=Z (.im<|.ay B,[av V,.im<|X g,.im<|X d,av b,.im<|.tup<|F.map az])/\(B=aa↔Bt V g d b F):=by
 let⟨u,M,A⟩:=Rp J L;let⟨x,N,E⟩:=R3 (V:=V) (g:=g) (d:=d) (f:=av b) (.inr rfl) t;let⟨C,O,H⟩:=LH (g:=g) (d:=d) t m;have i:aY (aB eX (ab 1)<|ab 3) [Z (av V),Z<|.im<|X g,Z<|.im<|X d,Z<|av b,Z<|.im<|.tup<|F.map az]=Z (decide (g∈b),[Z (av V),Z<|.im<|X g,Z<|.im<|X d,Z<|av b,Z<|.im<|.tup<|F.map az]):=cm (d0<|uB b g);have k:aY (aB eX (ab 2)<|ab 3) [Z (av V),Z<|.im<|X g,Z<|.im<|X d,Z<|av b,Z<|.im<|.tup<|F.map az]=Z (decide (d∈b),[Z (av V),Z<|.im<|X g,Z<|.im<|X d,Z<|av b,Z<|.im<|.tup<|F.map az]):=cm (d0<|uB b d);have o:dT (dN<|af<|a7 2 G.tx<|ah (ab 0)<|ah (ab 3) ax) [Z (av V),Z<|.im<|X g,Z<|.im<|X d,Z<|av b,Z<|.im<|.tup<|F.map az]=Z (!u,[Z (av V),Z<|.im<|X g,Z<|.im<|X d,Z<|av b,Z<|.im<|.tup<|F.map az]):=ma (hW (aN<|cw (Q:=[.aO 0,.aO 3]) rfl rfl rfl M rfl) rfl rfl);have j:dT (dN<|af<|a7 4 G.r0<|ah (ab 0)<|ah (ab 1)<|ah (ab 2)<|ah (ab 3) ax) [Z (av V),Z<|.im<|X g,Z<|.im<|X d,Z<|av b,Z<|.im<|.tup<|F.map az]=Z (!x,[Z (av V),Z<|.im<|X g,Z<|.im<|X d,Z<|av b,Z<|.im<|.tup<|F.map az]):=ma (hW (aN<|cw (Q:=[.aO 0,.aO 1,.aO 2,.aO 3]) rfl rfl rfl N rfl) rfl rfl);have a8:cF [.im (.tup<|F.map az)]=Z (aC (F.length:Int)):=by
  show Z (ai.im<|.int ((F.map az).length:Int))=_;rw[aZ]
 have bz:=Aw b;have P:aY (aB dZ (af<|bo cF<|ah (ab 4) ax)<|af<|bo cF<|ah (ab 3) ax) [Z (av V),Z<|.im<|X g,Z<|.im<|X d,Z<|av b,Z<|.im<|.tup<|F.map az]=Z (decide (F.length=b.length),[Z (av V),Z<|.im<|X g,Z<|.im<|X d,Z<|av b,Z<|.im<|.tup<|F.map az]):=cm (b0 (aN<|cL (a5 rfl rfl) rfl a8) (aN<|cL (a5 rfl rfl) rfl bz) rfl rfl ((mO _ _).trans (by rw[mM.mpr (show (F.length:Int)=(b.length:Int)↔F.length=b.length from ⟨λc=>⋯,λc=>⋯⟩)])));have I:aY (a7 4 G.rW<|ah (ab 0)<|ah (ab 1)<|ah (ab 2)<|ah (ab 4) ax) [Z (av V),Z<|.im<|X g,Z<|.im<|X d,Z<|av b,Z<|.im<|.tup<|F.map az]=Z (C,[Z (av V),Z<|.im<|X g,Z<|.im<|X d,Z<|av b,Z<|.im<|.tup<|F.map az]):=cm (cw (Q:=[.aO 0,.aO 1,.aO 2,.aO 4]) rfl rfl rfl O rfl);unfold r8 DF;have p:∀{h:aF Bool},h [Z (av V),Z<|.im<|X g,Z<|.im<|X d,Z<|av b,Z<|.im<|.tup<|F.map az]=Z (aa,[Z (av V),Z<|.im<|X g,Z<|.im<|X d,Z<|av b,Z<|.im<|.tup<|F.map az])->∀{Wb:bJ},dp 5 5 [0,1,2,3,4] (bj (dJ h (cA<|aD<|.ay aw) ep) Wb) [av V,.im<|X g,.im<|X d,av b,.im<|.tup<|F.map az]=Z (.im<|.ay aw,[av V,.im<|X g,.im<|X d,av b,.im<|.tup<|F.map az]):=λ{h} c {Wb}=>dk (y:=[Z (av V),Z<|.im<|X g,Z<|.im<|X d,Z<|av b,Z<|.im<|.tup<|F.map az]) rfl (hx<|gD c rfl) rfl;cases u with
 |false=>exact⟨aw,p<|lK o,(λa=>by cases a),λT=>absurd (A.mpr T.up) dz⟩
 |true=>
 by_cases q:g∈b
 ·rw[c1 q]at i;exact⟨aw,p<|c9 o<|lK i,(λa=>by cases a),λT=>absurd q T.na⟩
 rw[cW q]at i;by_cases s:d∈b
 ·rw[c1 s]at k;exact⟨aw,p<|c9 o<|c9 i<|lK k,(λa=>by cases a),λT=>absurd s T.nb⟩
 rw[cW s]at k;cases x with
 |false=>exact⟨aw,p<|c9 o<|c9 i<|c9 k j,(λa=>by cases a),λT=>absurd (E.mpr T.uN) dz⟩
 |true=>
 cases C with
 |false=>exact⟨aw,dk (y:=[Z (av V),Z<|.im<|X g,Z<|.im<|X d,Z<|av b,Z<|.im<|.tup<|F.map az]) rfl (bE (eD (c9 o<|c9 i<|c9 k j) rfl)<|eJ<|jh<|jD I) rfl,(λa=>by cases a),λT=>absurd (H.mpr T.w) dz⟩
 |true=>
  refine⟨_,dk (y:=[Z (av V),Z<|.im<|X g,Z<|.im<|X d,Z<|av b,Z<|.im<|.tup<|F.map az]) rfl (bE (eD (c9 o<|c9 i<|c9 k j) rfl)<|eJ<|jh<|f_ I P) rfl,?_⟩;rw[fF];exact⟨λe=>⟨A.mp rfl,q,s,E.mp rfl,H.mp rfl,e⟩,λT=>T.n⟩
def Bk(h:aL):iO [.im (X h)]=Z (.im<|.ay aa,[.im (X h)]):=xU (Ft (aq:=[h])<|.head _)
def Hf(a:Ww->ae)(t:List Ww):gP (t.map a) (bO (t.map a) (Z 1) Y)=(t.zip<|t.drop 1).map λq=>.tup [a q.1,a q.2]:=by
 rw[pb,show (1:Int)=((1:Nat):Int) from rfl,qv,xR]
def LF(d:b.length<=1000):rp x [av b,.im<|.fn x]=Z (.im<|.ay<|(b.zip<|b.drop 1).all λq=>bp (X q.1)<|X q.2,[av b,.im<|.fn x]):=by
 have a:b4 1 [1] (b2<|ab 0) (a0 0) cB (G.ye x) [Z (av b),Z<|.im<|.fn x]=Z (.lst<|b.map λ_=>.ay aa,[Z (av b),Z<|.im<|.fn x]):=by
  refine fz (w:=b.map X) (o:=Y) (We:=[Z (av b),Z<|.im<|.fn x]) rfl (fR X (λ_=>.ay aa) _ (λh W=>?_) ⋯) rfl;refine⟨[Z (.im<|X h),Z<|.im<|.fn x],_,[Z (.im<|X h),Z<|.im<|.fn x],rfl,rfl,?_,rfl⟩;unfold ye;show (if x=x then _ else _)=_;rw[aJ rfl];exact cw (Q:=[.aO 0]) rfl rfl rfl (Bk h) rfl
 have e:(b.zip<|b.drop 1).length<=1000:=by rw[ox];lia
 have c:b4 2 [] (jS<|ah (ab 0)<|ah (af<|cZ (ab 0) (c6<|aD<|.int 1) di) ax) (h5 2<|eu (a0 0)<|eu (a0 1) hM) cB (G.It x) [Z (av b),Z<|.im<|.fn x]=Z (.lst<|(b.zip<|b.drop 1).map λq=>.ay<|bp (X q.1)<|X q.2,[Z (av b),Z<|.im<|.fn x]):=by
  refine fz (w:=(b.zip<|b.drop 1).map λq=>.tup [X q.1,X q.2]) (o:=Y) (We:=[Z (av b),Z<|.im<|.fn x]) ?_ (fR (λq:aL×aL=>.tup [X q.1,X q.2]) (λq=>.ay<|bp (X q.1)<|X q.2) _ (λq W=>?_) ⋯) rfl
  ·rw[<-Hf];exact rM (a5 rfl<|a5 (aN<|ft rfl rfl rfl rfl rfl) rfl) rfl
  ·exact⟨[Z (.im<|X q.1),Z<|.im<|X q.2],_,[Z (.im<|X q.1),Z<|.im<|X q.2],rfl,rfl,b0 rfl rfl rfl rfl rfl,rfl⟩
 unfold rp CS;exact dk (y:=[Z (av b),Z<|.im<|.fn x]) rfl (bE (eD (c9 (We:=[Z (av b),Z<|.im<|.fn x]) rfl<|jg<|hW (aN<|cL (a5 (aN a) rfl) rfl<|uQ b) rfl rfl) rfl)<|eJ<|cL (a5 (aN c) rfl) rfl<|sG _ _) rfl
def ME(b:l.length<=1000):oZ [.im (az l)]=Z (.im<|.ay aa,[.im (az l)]):=by
 have a:b4 1 [] (b2<|ab 0) (a0 0) cB G.DC [Z (.im<|az l)]=Z (.lst<|l.map λ_=>.ay aa,[Z (.im<|az l)]):=by
  refine fz (w:=l.map X) (o:=Y) (We:=[Z (.im<|az l)]) rfl (fR X (λ_=>.ay aa) _ (λh W=>?_) ⋯) rfl;exact⟨[Z (.im<|X h)],_,[Z (.im<|X h)],rfl,rfl,cw (Q:=[.aO 0]) rfl rfl rfl (Bk h) rfl,rfl⟩
 unfold oZ C4;exact dk (y:=[Z (.im<|az l)]) rfl (eJ<|jh<|f_ (We:=[Z (.im<|az l)]) rfl<|cm<|cL (a5 (aN a) rfl) rfl<|uQ l) rfl
def O3(e:F.length<=1000)(a:∀l∈F,l.length<=1000):qe x [.im (.tup<|F.map az),.im<|.fn x]=Z (.im<|.ay<|(F.zip<|F.drop 1).all λq=>bp (az q.1)<|az q.2,[.im (.tup<|F.map az),.im<|.fn x]):=by
 have b:b4 1 [1] (b2<|ab 0) (a0 0) cB (G.x4 x) [Z (.im<|.tup<|F.map az),Z<|.im<|.fn x]=Z (.lst<|F.map λ_=>.ay aa,[Z (.im<|.tup<|F.map az),Z<|.im<|.fn x]):=by
  refine fz (w:=F.map az) (o:=Y) (We:=[Z (.im<|.tup<|F.map az),Z<|.im<|.fn x]) rfl (fR az (λ_=>.ay aa) _ (λl c=>?_) ⋯) rfl;refine⟨[Z (.im<|az l),Z<|.im<|.fn x],_,[Z (.im<|az l),Z<|.im<|.fn x],rfl,rfl,?_,rfl⟩;unfold x4;show (if x=x then _ else _)=_;rw[aJ rfl];exact cw (Q:=[.aO 0]) rfl rfl rfl (ME<|a l c) rfl
 have f:(F.zip<|F.drop 1).length<=1000:=by rw[ox];lia
 have d:b4 2 [] (jS<|ah (ab 0)<|ah (af<|cZ (ab 0) (c6<|aD<|.int 1) di) ax) (h5 2<|eu (a0 0)<|eu (a0 1) hM) cB (G.Hx x) [Z (.im<|.tup<|F.map az),Z<|.im<|.fn x]=Z (.lst<|(F.zip<|F.drop 1).map λq=>.ay<|bp (az q.1)<|az q.2,[Z (.im<|.tup<|F.map az),Z<|.im<|.fn x]):=by
  refine fz (w:=(F.zip<|F.drop 1).map λq=>.tup [az q.1,az q.2]) (o:=Y) (We:=[Z (.im<|.tup<|F.map az),Z<|.im<|.fn x]) ?_ (fR (λq:bQ×bQ=>.tup [az q.1,az q.2]) (λq=>.ay<|bp (az q.1)<|az q.2) _ (λq W=>?_) ⋯) rfl
  ·rw[<-Hf];exact rM (a5 rfl<|a5 (aN<|ft rfl rfl rfl rfl rfl) rfl) rfl
  ·have lt:ri (.im<|az q.1) (.im<|az q.2)=Z (.im<|.ay<|bp (az q.1)<|az q.2):=aJ (show fa 6 (az q.1) (az q.2)=aa from px q.1 q.2);exact⟨[Z (.im<|az q.1),Z<|.im<|az q.2],_,[Z (.im<|az q.1),Z<|.im<|az q.2],rfl,rfl,d0 lt,rfl⟩
 unfold qe Hs;exact dk (y:=[Z (.im<|.tup<|F.map az),Z<|.im<|.fn x]) rfl (bE (eD (c9 (We:=[Z (.im<|.tup<|F.map az),Z<|.im<|.fn x]) rfl<|jg<|hW (aN<|cL (a5 (aN b) rfl) rfl<|uQ F) rfl rfl) rfl)<|eJ<|cL (a5 (aN d) rfl) rfl<|sG _ _) rfl
def BY(c:g∈V):q5 [av V,.im<|X g]=Z (.im<|.ay aa,[av V,.im<|X g]):=by
 unfold q5 DD;exact dk (y:=[Z (av V),Z<|.im<|X g]) rfl (eJ (jh (f_ (cm<|cw (Q:=[.aO 1]) rfl rfl rfl (Bk g) rfl) (cm (d0 ((uB V g).trans (by rw[c1 c]))))))) rfl
def La(a:gT x [av V]=Z (.im<|.ay aa,[av V]))(b:g∈V)(c:d∈V)(e:g≠d)(D:d∉c7 g):rD x [av V,.im<|X g,.im<|X d]=Z (.im<|.ay aa,[av V,.im<|X g,.im<|X d]):=by
 unfold rD Iv;exact dk (y:=[Z (av V),Z<|.im<|X g,Z<|.im<|X d]) rfl (eJ (jh (f_ (cm<|cw (Q:=[.aO 0]) rfl rfl rfl a rfl) (f_ (cm<|cw (Q:=[.aO 0,.aO 1]) rfl rfl rfl (BY b) rfl) (f_ (cm<|cw (Q:=[.aO 0,.aO 2]) rfl rfl rfl (BY c) rfl) (f_ (cm (d0 ((ko g d).trans (by rw[cW e];rfl)))) (cm (b0 rfl (aN<|cw (Q:=[.aO 1]) rfl rfl rfl (Hm g) rfl) rfl rfl ((sA (c7 g) d).trans (by rw[cW D];rfl)))))))))) rfl
def CR{aq:List aL}{j f:aL}:hv aq j f↔ez aq j f:=by
 constructor
 ·intro c;induction c with
  |self=>exact .self
  |step _ A E a=>exact .step a A (p5.mp E)
 ·intro c;induction c with
  |self=>exact .self
  |step _ A E a=>exact .step a A (p5.mpr E)
def NB(c:b.length<10000):hu [av b]=Z (.aH<|a4<|b.foldl e3 [],[av b]):=by
 let⟨o,a⟩:=tA (Z<|av b) b [] Y (by show 0+_<_;lia);unfold hu t2;exact dk (y:=[Z (av b),Z .dS,o]) rfl (bE (We:=[Z (av b),Z<|.aH [],Y]) rfl<|bE (iE (o:=Y) rfl a rfl) rfl) rfl
def SJ(c:b.length<90000):hu [aS b]=Z (.aH<|a4<|b.foldl e3 [],[aS b]):=by
 let⟨o,a⟩:=tA (Z .dS) b [] Y (by show 0+_<_;lia);unfold hu t2;exact dk (y:=[Z (aS b),Z .dS,o]) rfl (bE (We:=[Z (aS b),Z<|.aH [],Y]) rfl<|bE (iE (o:=Z (0,aS b)) (We:=[Z .dS,Z<|.aH [],Y]) rfl a rfl) rfl) rfl
def Li(Wg:List aL)(h:aL):eH (.im<|X h) (.aH<|a4 Wg)=Z (.im<|.ay<|!decide (h∈Wg)):=by
 show (fe (.tup<|cX h)<|.aH<|a4 Wg).map (λu=>ai.im<|.ay<|!u)=_;rw[Bm,aJ<|nY h,AG];rfl
def Nu(ao:V.Nodup)(v:V.length<=200)(x:b.length<=1000):∃B:Bool,pY [av V,.im<|X g,.im<|X d,av b]=Z (.im<|.ay B,[av V,.im<|X g,.im<|X d,av b])/\(B=aa↔g∉b/\d∉b/\¬ ez (V.filter λh=>!decide (h∈b)) g d):=by
 have n:∀h,h∈b.foldl e3 []↔h∈b:=λh=>(vt nC b [] h).trans ⟨λc=>c.resolve_left hi,.inr⟩;have f:∀h,decide (h∈b.foldl e3 [])=decide (h∈b):=λh=>mM.mpr (n h);have p:=NB (b:=b) ⋯;generalize b.foldl e3 []=Wg at p n f;have e:aY (aB eX (ab 1)<|ab 4) [Z (av V),Z<|.im<|X g,Z<|.im<|X d,Z<|av b,Z<|.aH<|a4 Wg]=Z (decide (g∈b),[Z (av V),Z<|.im<|X g,Z<|.im<|X d,Z<|av b,Z<|.aH<|a4 Wg]):=cm (d0 ((rX Wg g).trans (by rw[f])));have i:aY (aB eX (ab 2)<|ab 4) [Z (av V),Z<|.im<|X g,Z<|.im<|X d,Z<|av b,Z<|.aH<|a4 Wg]=Z (decide (d∈b),[Z (av V),Z<|.im<|X g,Z<|.im<|X d,Z<|av b,Z<|.aH<|a4 Wg]):=cm (d0 ((rX Wg d).trans (by rw[f])));have m:bV 4 (a7 1 G.hu<|ah (ab 3) ax) [Z (av V),Z<|.im<|X g,Z<|.im<|X d,Z<|av b,Y]=Z (.bf,[Z (av V),Z<|.im<|X g,Z<|.im<|X d,Z<|av b,Z<|.aH<|a4 Wg]):=hO (cw (Q:=[.aO 3]) rfl rfl rfl p rfl) (eM rfl) rfl;unfold pY B8;by_cases k:g∈b
 ·rw[c1 k]at e;exact⟨aw,dk (y:=[Z (av V),Z<|.im<|X g,Z<|.im<|X d,Z<|av b,Z<|.aH<|a4 Wg]) rfl (bE m<|hx<|gD (lK e) rfl) rfl,(λa=>by cases a),λa=>absurd k a.1⟩
 rw[cW k]at e;by_cases l:d∈b
 ·rw[c1 l]at i;exact⟨aw,dk (y:=[Z (av V),Z<|.im<|X g,Z<|.im<|X d,Z<|av b,Z<|.aH<|a4 Wg]) rfl (bE m<|hx<|gD (c9 e i) rfl) rfl,(λa=>by cases a),λa=>absurd l a.2.1⟩
 rw[cW l]at i;have q:b4 1 [4] (b2<|ab 0) (a0 0) G.GO G.EZ [Z (av V),Z<|.im<|X g,Z<|.im<|X d,Z<|av b,Z<|.aH<|a4 Wg]=Z (aS<|V.filter λh=>!decide (h∈b),[Z (av V),Z<|.im<|X g,Z<|.im<|X d,Z<|av b,Z<|.aH<|a4 Wg]):=by
  refine fz (w:=V.map X) (o:=Y) (We:=[Z (av V),Z<|.im<|X g,Z<|.im<|X d,Z<|av b,Z<|.aH<|a4 Wg]) rfl (mm X (λh=>!decide (h∈b)) X _ [] (λh W=>?_) (by rw[gB];lia)) rfl;exact⟨[Z (.im<|X h),Z<|.aH<|a4 Wg],[Z (.im<|X h),Z<|.aH<|a4 Wg],rfl,cm (d0 ((Li Wg h).trans (by rw[f]))),λ_=>rfl,λ_=>⟨[Z (.im<|X h),Z<|.aH<|a4 Wg],rfl,rfl⟩⟩
 have pB:=rF (λh=>!decide (h∈b)) V;have r:=NJ (aq:=V.filter λh=>!decide (h∈b)) (ao.filter _) ⋯;let⟨t,s,W,u⟩:=IS (aq:=V.filter λh=>!decide (h∈b)) (j:=g) ⋯;refine⟨!decide (d∈t),dk (y:=[Z (av V),Z<|.im<|X g,Z<|.im<|X d,Z<|av b,Z<|.aH<|a4 Wg]) rfl (bE m<|bE (eD (c9 e i) rfl)<|eJ<|b0 rfl (aN<|cw (Q:=[.cC (.aH<|a4<|V.filter λh=>!decide (h∈b)),.aO 1]) (a5 (aN<|cw (Q:=[.cC (aS<|V.filter λh=>!decide (h∈b))]) (a5 (aN q) rfl) rfl rfl r rfl) rfl) rfl rfl s rfl) rfl rfl<|wC t d) rfl,?_⟩;rw[k2,lx,u,CR];exact⟨λa=>⟨k,l,a⟩,λa=>a.2.2⟩
def UQ(f C:aL):iJ f C=decide (C∈c7 f):=by
 rw[k6,fF];exact p5
theorem FG:∀l:bQ,qI l=gq l
 |[]=>rfl
 |[f]=>rfl
 |f::C::u=>by
  rw[GP,<-FG (C::u),<-UQ];rfl
def CN(N:ir V)(b:gT x [av V]=Z (.im<|.ay aa,[av V]))(d:l≠[])(g:l.length<=290)(i:∀h∈l,h∈V):n7 x [av V,.im<|az l]=Z (.im<|.ay<|gq l,[av V,.im<|az l]):=by
 have e:=Vw (s:=.tup (l.map X)) N b (M7 (λf a=>Ql a) (by rw[aZ];exact g));have c:wV V (.tup<|l.map X)=gq l:=by
  show (!(l.map X).isEmpty&&((l.map X).all (il V)&&qI ((l.map X).map tk)))=_;have A:(l.map X).isEmpty=aw:=by
   cases l with
   |nil=>exact absurd rfl d
   |cons=>rfl
  have E:(l.map X).all (il V)=aa:=by
   rw[e_];intro f a;let⟨h,j,rfl⟩:=cn.mp a;rw[Qd,c1<|i h j]
  have k:(l.map X).map tk=l:=by
   rw[fc];exact (k_ λh W=>rfl).trans (mG l)
  rw[A,E,k,FG];rfl
 rw[c]at e;exact e
def Qz{w Wn:List ae}(c:w.length+Wn.length<=100000):u7 (.lst w) [.im (.tup Wn)]=Z (.im .a6,.lst<|w++Wn):=aJ c
def T9{k:bQ}(N:ir V)(c:gT x [av V]=Z (.im<|.ay aa,[av V]))(a:(g::(k++[d])).length<=290)(i:∀h∈g::(k++[d]),h∈V)(j:gq (g::(k++[d]))=aa)(o:H.length<=50000):m4 x [Z (av V),Z<|.im<|X g,Z<|.im<|X d,WQ,Z<|aS H,Z<|.im<|az (g::(k++[d]))]=Z (.bf,[Z (av V),Z<|.im<|X g,Z<|.im<|X d,WQ,Z<|aS<|H++k,Z<|.im<|az (g::(k++[d]))]):=by
 have e:=CN N c (AD _ _) a i;rw[j]at e;have p:k.length<=290:=by rw[dm,b_]at a;lia
 have l:bD (.im<|az (g::(k++[d]))) (aC<|-1)=Z (.im<|X d):=by
  show (dv ((g::(k++[d])).map X)<|-1).map ai.im=_;rw[pT (s:=X d) (by rw[<-nD,d9];exact qw)];rfl
 have m:bD (.im<|az (g::(k++[d]))) (aC 0)=Z (.im<|X g):=by
  show (dv ((g::(k++[d])).map X) 0).map ai.im=_;rw[lr (jR 0) (s:=X g) rfl];rfl
 have b:∀f:aL,gd (.im<|X f) (.im<|X f)=Z (.im<|.ay aw):=λf=>(ko f f).trans (by rw[c1 rfl];rfl);have n:lS (.im<|az (g::(k++[d]))) (Z 1) (Z<|-1)=Z (av k):=by
  show Z (ai.im<|.tup<|bO ((g::(k++[d])).map X) (Z 1)<|Z<|-1)=_;rw[pb,GA]
 unfold m4;refine bE (eD (c9 (jg<|hW (aN<|cw (Q:=[.aO 0,.aO 5]) rfl rfl rfl e rfl) rfl rfl)<|c9 (cm<|b0 (aN<|d0 m) rfl rfl rfl<|b g)<|cm<|b0 (aN<|b0 rfl (aN rfl) rfl rfl l) rfl rfl rfl<|b d) rfl) (nQ (nj (h:=aS H) rfl rfl (a5 (aN<|ft rfl rfl rfl rfl n) rfl) rfl rfl (Qz (by rw[aZ,aZ];lia)) ?_));show _=[Z (av V),Z<|.im<|X g,Z<|.im<|X d,WQ,Z<|ai.lst<|(H++k).map X,Z<|.im<|az (g::(k++[d]))];rw[d9];rfl
def UP(N:ir V)(n:gT x [av V]=Z (.im<|.ay aa,[av V]))(o:g≠d)(j:l≠[])(p:l.length<=290)(q:∀h∈l,h∈V)(r:¬ (gq l=aa/\lU g d l)):m4 x [Z (av V),Z<|.im<|X g,Z<|.im<|X d,WQ,Z<|aS H,Z<|.im<|az l]=Z (.eI<|.im<|.ay aw,[Z (av V),Z<|.im<|X g,Z<|.im<|X d,WQ,Z<|aS H,Z<|.im<|az l]):=by
 have e:=CN N n j p q;unfold m4;cases i:gq l with
 |false=>
  rw[i]at e;exact hx (gD (lK<|Er<|hW (aN<|cw (Q:=[.aO 0,.aO 5]) rfl rfl rfl e rfl) rfl rfl) rfl)
 |true=>
  rw[i]at e;obtain⟨f,C,a,t,v⟩:∃f C,bD (.im<|az l) (aC 0)=Z (.im<|X f)/\bD (.im<|az l) (aC<|-1)=Z (.im<|X C)/\(f≠g\/C≠d):=by
   let⟨f,u,rfl⟩:=FL j;have a:bD (.im<|az (f::u)) (aC 0)=Z (.im<|X f):=by
    show (dv ((f::u).map X) 0).map ai.im=_;rw[lr (jR 0) (s:=X f) rfl];rfl
   by_cases m:u=[]
   ·subst m;refine⟨f,f,a,rfl,?_⟩;by_cases c:f=g
    ·exact .inr λb=>o (c.symm.trans b)
    ·exact .inl c
   ·let⟨k,C,rfl⟩:=zN m;refine⟨f,C,a,?_,?_⟩
    ·show (dv ((f::(k++[C])).map X)<|-1).map ai.im=_;rw[pT (s:=X C) (by rw[<-nD,d9];exact qw)];rfl
    ·by_cases c:f=g
     ·exact .inr λb=>r ⟨i,k,by rw[c,b]⟩
     ·exact .inl c
  refine hx (gD (We:=[Z (av V),Z<|.im<|X g,Z<|.im<|X d,WQ,Z<|aS H,Z<|.im<|az l]) (c9 (jg<|hW (aN<|cw (Q:=[.aO 0,.aO 5]) rfl rfl rfl e rfl) rfl rfl) ?_) rfl);by_cases c:f=g
  ·exact c9 (cm (b0 (aN<|d0 a) rfl rfl rfl ((ko f g).trans (by rw[c1 c];rfl)))) (cm (b0 (aN<|b0 rfl (aN rfl) rfl rfl t) rfl rfl rfl ((ko C d).trans (by rw[cW (v.resolve_left λb=>b c)];rfl))))
  ·exact lK (cm (b0 (aN<|d0 a) rfl rfl rfl ((ko f g).trans (by rw[cW c];rfl))))
theorem Jb{x:aj}{V:List aL}{g d:aL}{WQ:Option ai}(N:ir V)(c:gT x [av V]=Z (.im<|.ay aa,[av V]))(i:g≠d):∀(F:List bQ) (H:bQ) (WU:Option ai),jy V F->H.length+290*F.length<=40000->
  (∃b,d5 (a0 5) (m4 x) (F.map az) [Z (av V),Z<|.im<|X g,Z<|.im<|X d,WQ,Z<|aS H,WU]=Z (.bf,[Z (av V),Z<|.im<|X g,Z<|.im<|X d,WQ,Z<|aS<|H++F.flatMap dO,b])/\∀l∈F,gq l=aa/\lU g d l)\/
  ∃Wv,d5 (a0 5) (m4 x) (F.map az) [Z (av V),Z<|.im<|X g,Z<|.im<|X d,WQ,Z<|aS H,WU]=Z (.eI<|.im<|.ay aw,Wv)/\Wv.take 4=[Z (av V),Z<|.im<|X g,Z<|.im<|X d,WQ]/\¬ ∀l∈F,gq l=aa/\lU g d l
 |[],H,WU,_,_=>.inl ⟨WU,by rw[F7,cO];rfl,(λl hw=>nomatch hw)⟩
 |l::F,H,WU,m,n=>by
  have V6:jy V F:=⟨by have:=m.ei;rw[dm]at this;lia,λv a=>m.ne v<|.tail _ a,λv a=>m.len v<|.tail _ a,λv a=>m.dR v<|.tail _ a⟩;have hw:=m.len l (.head _);rw[dm]at n;rw[cS,d5];show (∃b,(m4 x [Z (av V),Z<|.im<|X g,Z<|.im<|X d,WQ,Z<|aS H,Z<|.im<|az l]).bind _=_/\_)\/∃Wv,(m4 x [Z (av V),Z<|.im<|X g,Z<|.im<|X d,WQ,Z<|aS H,Z<|.im<|az l]).bind _=_/\_;by_cases f:gq l=aa/\lU g d l
  ·let⟨j,k,rfl⟩:=f;have o:k.length<=290:=by rw[dm,b_]at hw;lia
   rw[T9 N c hw (m.dR _<|.head _) j ⋯];rcases Jb (V:=V) (WQ:=WQ) N c i F (H++k) (Z<|.im<|az (g::(k++[d]))) V6 (by rw[b_];lia) with ⟨b,e,L⟩|⟨Wv,e,s,L⟩
   ·refine .inl ⟨b,?_,λl hw=>?_⟩
    ·rw[rk,xI,<-bM];exact e
    ·rcases cg.mp hw with rfl|hw
     ·exact⟨j,k,rfl⟩
     ·exact L l hw
   ·exact .inr ⟨Wv,e,s,λh=>L λl hw=>h l<|.tail _ hw⟩
  ·rw[UP N c i (m.ne l<|.head _) hw (m.dR l<|.head _) f];exact .inr ⟨_,rfl,rfl,λh=>f<|h l<|.head _⟩
def RD(N:ir V)(h:gT x [av V]=Z (.im<|.ay aa,[av V]))(i:g≠d)(m:jy V F):∃B:Bool,rv x [av V,.im<|X g,.im<|X d,.im<|.tup<|F.map az]=Z (.im<|.ay B,[av V,.im<|X g,.im<|X d,.im<|.tup<|F.map az])/\(B=aa↔(∀l∈F,gq l=aa/\lU g d l)/\([g,d]++F.flatMap dO).Nodup):=by
 have ei:=m.ei;have aW:=Ds m.len;unfold rv D1;rcases Jb (WQ:=Z (.im<|.tup<|F.map az)) N h i F [g,d] Y m (by show 2+_<=_;lia) with ⟨WU,e,jH⟩|⟨Wv,e,s,jH⟩
 ·generalize j:[g,d]++F.flatMap dO=a at e;have p:a.length<=40000:=by rw[<-j,b_];show 2+_<=_;lia
  have k:=SJ (b:=a) ⋯;have a8:uc [.aH (a4<|a.foldl e3 [])]=Z (aC ((a.foldl e3 []).length:Int)):=by
   show Z (ai.im<|.int ((a4<|a.foldl e3 []).length:Int))=_;unfold a4;rw[aZ]
  have bz:cF [aS a]=Z (aC (a.length:Int)):=by
   show Z (ai.im<|.int ((a.map X).length:Int))=_;rw[aZ]
  have iff:=Ab nC a [] gU;rw[gB,BA,pw]at iff;refine⟨decide (((a.foldl e3 []).length:Int)=(a.length:Int)),dk (y:=[Z (av V),Z<|.im<|X g,Z<|.im<|X d,Z<|.im<|.tup<|F.map az,Z<|aS a,WU]) rfl (bE (We:=[Z (av V),Z<|.im<|X g,Z<|.im<|X d,Z<|.im<|.tup<|F.map az,Z<|aS [g,d],Y]) rfl<|bE (iE (o:=Y) (w:=F.map az) (We:=[Z (av V),Z<|.im<|X g,Z<|.im<|X d,Z<|.im<|.tup<|F.map az,Z<|aS [g,d],Y]) rfl e rfl)<|eJ<|b0 (aN<|cL (a5 (aN<|cw (Q:=[.aO 4]) rfl rfl rfl k rfl) rfl) rfl a8) (aN<|cL (a5 rfl rfl) rfl bz) rfl rfl<|mO _ _) rfl,?_⟩;rw[fF];exact⟨λc=>⟨jH,iff.mp ⋯⟩,λc=>by have:=iff.mpr c.2;lia⟩
 ·obtain⟨f,n⟩:∃f,Wv=Z (av V)::Z (.im<|X g)::Z (.im<|X d)::Z (.im<|.tup<|F.map az)::f:=by
   match Wv,s with
   |x0::q::r::t::u,s=>simp only[xX,pX,sV,and_true]at s;let⟨rfl,rfl,rfl,rfl⟩:=s;exact⟨u,rfl⟩
   |[],s=>cases s
   |[_],s=>cases s
   |[_,_],s=>cases s
   |[_,_,_],s=>cases s
  subst n;exact⟨aw,dk (y:=Z (av V)::Z (.im<|X g)::Z (.im<|X d)::Z (.im<|.tup<|F.map az)::f) rfl (bE (We:=[Z (av V),Z<|.im<|X g,Z<|.im<|X d,Z<|.im<|.tup<|F.map az,Z<|aS [g,d],Y]) rfl<|hx<|iE (o:=Y) (w:=F.map az) (We:=[Z (av V),Z<|.im<|X g,Z<|.im<|X d,Z<|.im<|.tup<|F.map az,Z<|aS [g,d],Y]) rfl e rfl) rfl,(λc=>by cases c),λc=>absurd c.1 jH⟩
def ML{t:List aL}(b:g≠d):([g,d]++t).Nodup↔t.Nodup/\g∉t/\d∉t:=by
 show (g::d::t).Nodup↔_;rw[iw,iw,cg,not_or];exact⟨λ⟨A,E,a⟩=>⟨a,A.2,E⟩,λ⟨A,E,a⟩=>⟨⟨b,E⟩,a,A⟩⟩
def C2{t bL j:aj}(N:ir V)(s:gT t [av V]=Z (.im<|.ay aa,[av V]))(M:g∈V)(O:d∈V)(k:g≠d)(D:d∉c7 g)(u:b.length<=1000)(m:jy V F):
  ∃B:Bool,ov t bL j [av V,.im<|X g,.im<|X d,av b,.im<|.tup<|F.map az]=Z (.im<|.ay B,[av V,.im<|X g,.im<|X d,av b,.im<|.tup<|F.map az])/\(B=aa↔Bt V g d b F):=by
 have ei:=m.ei;have P:=La s M O k D;have A:=LF (x:=bL) u;have C:=O3 (x:=j) (F:=F) ⋯ λl e=>by have:=m.len l e;lia
 have o:=Ap Qw b;have p:=Ap Sk F;generalize ((b.zip<|b.drop 1).all λq=>bp (X q.1)<|X q.2)=E at A o;generalize ((F.zip<|F.drop 1).all λq=>bp (az q.1)<|az q.2)=t3 at C p;let⟨H,R,I⟩:=Nu (g:=g) (d:=d) (b:=b) (mi.ao N.up) N.len u;let⟨J,S,U⟩:=RD N s k m;let y:bc:=[Z (av V),Z<|.im<|X g,Z<|.im<|X d,Z<|av b,Z<|.im<|.tup<|F.map az]
 have WD:dT (dN<|af<|a7 3 (G.rD t)<|ah (ab 0)<|ah (ab 1)<|ah (ab 2) ax) y=Z (aw,y):=jg (hW (aN<|cw (Q:=[.aO 0,.aO 1,.aO 2]) rfl rfl rfl P rfl) rfl rfl);have WR:dT (dN<|af<|a7 2 (G.rp bL)<|ah (ab 3)<|ah (af<|aD<|.fn bL) ax) y=Z (!E,y):=ma (hW (aN<|cw (Q:=[.aO 3,.cC<|.im<|.fn bL]) rfl rfl rfl A rfl) rfl rfl);have h:dT (dN<|af<|a7 2 (G.qe j)<|ah (ab 4)<|ah (af<|aD<|.fn j) ax) y=Z (!t3,y):=ma (hW (aN<|cw (Q:=[.aO 4,.cC<|.im<|.fn j]) rfl rfl rfl C rfl) rfl rfl);have a8:cF [.im (.tup<|F.map az)]=Z (aC (F.length:Int)):=by
  show Z (ai.im<|.int ((F.map az).length:Int))=_;rw[aZ]
 have f:aY (aB dZ (af<|bo cF<|ah (ab 3) ax)<|af<|bo cF<|ah (ab 4) ax) y=Z (decide (F.length=b.length),y):=cm (b0 (aN<|cL (a5 rfl rfl) rfl<|Aw b) (aN<|cL (a5 rfl rfl) rfl a8) rfl rfl ((mO _ _).trans (by rw[mM.mpr (show (b.length:Int)=(F.length:Int)↔F.length=b.length from ⟨λc=>⋯,λc=>⋯⟩)])));have L:aY (a7 4 G.pY<|ah (ab 0)<|ah (ab 1)<|ah (ab 2)<|ah (ab 3) ax) y=Z (H,y):=cm (cw (Q:=[.aO 0,.aO 1,.aO 2,.aO 3]) rfl rfl rfl R rfl);have al:aY (a7 4 (G.rv t)<|ah (ab 0)<|ah (ab 1)<|ah (ab 2)<|ah (ab 4) ax) y=Z (J,y):=cm (cw (Q:=[.aO 0,.aO 1,.aO 2,.aO 4]) rfl rfl rfl S rfl);unfold ov Cy;cases E with
 |false=>exact⟨aw,dk (y:=y) rfl (hx<|gD (c9 WD<|lK WR) rfl) rfl,(λa=>by cases a),λT=>absurd (o.mpr T.up) dz⟩
 |true=>
 cases t3 with
 |false=>exact⟨aw,dk (y:=y) rfl (hx<|gD (c9 WD<|c9 WR h) rfl) rfl,(λa=>by cases a),λT=>absurd (p.mpr T.w.up) dz⟩
 |true=>
 by_cases i:F.length=b.length
 ·rw[c1 i]at f;cases H with
  |false=>exact⟨aw,dk (y:=y) rfl (bE (eD (c9 WD<|c9 WR h) rfl)<|eJ<|jh<|f_ f<|jD L) rfl,(λa=>by cases a),λT=>absurd (I.mpr ⟨T.na,T.nb,T.uN⟩) dz⟩
  |true=>
   refine⟨J,dk (y:=y) rfl (bE (eD (c9 WD<|c9 WR h) rfl)<|eJ<|jh<|f_ f<|f_ L al) rfl,?_⟩;rw[U,ML k];let⟨v,am,uN⟩:=I.mp rfl;exact⟨λa=>⟨o.mp rfl,v,am,uN,⟨λl e=>(a.1 l e).1,p.mp rfl,λl e=>(a.1 l e).2,a.2.1,a.2.2.1,a.2.2.2⟩,i⟩,λT=>⟨λl e=>⟨T.w.ch l e,T.w.jH l e⟩,T.w.ao,T.w.na,T.w.nb⟩⟩
 ·rw[cW i]at f;exact⟨aw,dk (y:=y) rfl (bE (eD (c9 WD<|c9 WR h) rfl)<|eJ<|jh<|jD f) rfl,(λa=>by cases a),λT=>absurd T.n i⟩
def F3{w:List Ww}{M S:Option Int}{f:Ww}(c:f∈bO w M S):f∈w:=lj (nt c)
def oY(w:List Ww)(M S:Option Int):(bO w M S).length<=w.length:=by
 unfold bO;rw[gK,f9];lia
def jw(b:List aL)(M S:Option Int):lS (av b) M S=Z (av<|bO b M S):=by
 show Z (ai.im<|.tup<|bO (b.map X) M S)=_;rw[pb]
def kl(c:b.length+Wt.length<=100000):b8 (av b) (av Wt)=Z (av<|b++Wt):=by
 show (if (b.map X).length+(Wt.map X).length<=100000 then Z (ai.im<|.tup<|b.map X++Wt.map X) else Y)=_;rw[aJ (by rw[aZ,aZ];exact c),<-d9]
def AP(a:L y=Z (f,y))(c:dQ y f=Z (av b)):jT L y=Z (av b.reverse,y):=by
 unfold jT;rw[a];show (dQ y f).bind _=_;rw[c];show Z (ai.im<|.tup (b.map X).reverse,y)=_;rw[<-Bl]
def yU(d:b.length<=1000):∃a:List aL,ku [av b]=Z (aS a)/\a.Perm b:=by
 let⟨a,WT,e⟩:=BD (ju<|b.map X);refine⟨a,?_,WT⟩;have o:l0 (b.map X)=aa:=by
  unfold l0;rw[cy,cy,pQ,fF,aZ,e_,e_];refine⟨⟨d,λf c=>e_.mpr λC g=>?_⟩,.inl λf c=>?_⟩
  ·let⟨h,W,rfl⟩:=cn.mp c;let⟨s,W,rfl⟩:=cn.mp g;rfl
  ·let⟨h,W,rfl⟩:=cn.mp c;rfl
 show (if l0 (b.map X)=aa then Z (ai.lst<|hy bp<|b.map X) else Y)=_;rw[aJ o,e]
def G1(b:List aL):cF [av b]=Z (aC (b.length:Int)):=Aw b
def eY(V b:List aL)(r:Nat):Prop:=((∀h∈b,h∈V)/\b.length<=r)
def eY.app(c:eY V b r)(n:eY V Wt k):eY V (b++Wt) (r+k):=⟨λh a=>(dw.mp a).elim (c.1 h)<|n.1 h,by have:=c.2;have:=n.2;rw[b_];lia⟩
def eY.cut(c:eY V b r)(M S:Option Int):eY V (bO b M S) r:=⟨λh a=>c.1 h<|F3 a,fu (oY _ _ _) c.2⟩
def eY.one(c:h∈V):eY V [h] 1:=⟨λf a=>by rw[cM.mp a];exact c,bb _⟩
def eY.perm(c:eY V b r)(q:Wt.Perm b):eY V Wt r:=⟨λh a=>c.1 h<|q.mem_iff.mp a,by rw[q.length_eq];exact c.2⟩
def eY.mono(c:eY V b r)(n:r<=k):eY V b k:=⟨c.1,fu c.2 n⟩
abbrev hS(p:List ae)(V:List aL)(g d:aL)(b:List aL)(WU R I:Option ai):bc:=[Z (.lst p),Z<|av V,Z<|.im<|X g,Z<|.im<|X d,Z<|av b,WU,R,I]
def GK(m:ew (r+2) c)(R:V≠[])(aW:V.length<=200)(T:g∈V)(al:d∈V)(am:b≠[])(i:eY V b 200):
  ∃(U:ai) (B:List bQ),ni [c,av V,.im<|X g,.im<|X d,av b]=Z (.lst<|B.map az,[U,av V,.im<|X g,.im<|X d,av b])/\ew r U/\B.length=12/\∀Wt∈B,eY V Wt 1000:=by
 have bL:=lp.mpr R;have cr:=lp.mpr am;have cs:=i.2;let⟨J,A,an,ap,db,Wh⟩:=ik (r:=r+1) (k:=(V.length:Int)) m ⋯ ⋯;let⟨v,E,as,ds,dL,Ws⟩:=ik (r:=r) (k:=(b.length:Int)) Wh ⋯ ⋯;obtain⟨a,L⟩:∃a,V[J.toNat]?=Z a:=⟨V[J.toNat]'⋯,by simp⟩;have C:=fH L;have a1:bD (av V) (aC J)=Z (.im<|X a):=by
  show (dv (V.map X) J).map ai.im=_;rw[oO ap L];rfl
 let⟨a2,rfl⟩:=m.lst;let⟨N,rfl⟩:=Wh.lst;let⟨f,rfl⟩:=Ws.lst;let⟨l,WY,bd⟩:=yU (b:=b++[g]) (by rw[b_,eO];lia);let⟨p,be,bi⟩:=yU (b:=b++[d]) (by rw[b_,eO];lia);have D:eY V (bO b Y (Z v)++[a]++bO b (Z<|v+1) Y) (200+1+200):=((i.cut _ _).app<|.one C).app (i.cut _ _);let⟨F,bm,bn⟩:=yU (fu D.2<|ie rfl);have u:eY V (b++[a]) (200+1):=i.app (.one C);have lk:=sF nC (b++[a]) [];let⟨n,bs,W4,W⟩:=A6 (u3 nC (b++[a]) [] gU) (by have:=u.2;rw[gB]at lk;lia);have WZ:ib [.aH (a4<|(b++[a]).foldl e3 [])]=Z (aS n):=by
  show h2 ((a4<|(b++[a]).foldl e3 []).map λq=>.tup q.1)=_;rw[yR];exact bs
 have bv:eY V n 201:=⟨λh t=>u.1 h<|((vt nC (b++[a]) [] h).mp<|W4.mem_iff.mp t).resolve_left hi,by rw[W4.length_eq];have:=u.2;rw[gB]at lk;lia⟩;have x:=λM S=>oY b M S;have ca:∀{I:Option ai},aB b8 (af<|cZ (ab 4) di<|c6<|d2 6) (af<|cZ (ab 4) (c6<|aB b8 (ab 6)<|af<|aD<|.int 1) di) (hS f V g d b (Z<|.im<|X a) (Z<|aC v) I)=Z (av<|bO b Y (Z v)++bO b (Z<|v+1) Y,hS f V g d b (Z<|.im<|X a) (Z<|aC v) I):=λ{I}=>b0 (aN<|ft rfl rfl rfl rfl<|jw b _ _) (aN<|ft (M:=Z (v+1)) rfl rfl rfl rfl<|jw b _ _) rfl rfl (kl (by have:=x Y (Z v);have:=x (Z<|v+1) Y;lia));have O:bV 7 (eG<|ah (ab 4)<|ah (af<|cQ ax)<|ah (af<|cZ (ab 4) (c6<|aD<|.int 1) di)<|ah (af<|aB b8 (af<|cZ (ab 4) di<|c6<|d2 6)<|af<|cZ (ab 4) (c6<|aB b8 (ab 6)<|af<|aD<|.int 1) di)<|ah (af<|jT<|ab 4)<|ah (af<|aB b8 (ab 4)<|af<|cZ (ab 4) (c6<|jI<|aD<|.int 1) di) ax) (hS f V g d b (Z<|.im<|X a) (Z<|aC v) Y)=Z (.bf,hS f V g d b (Z<|.im<|X a) (Z<|aC v)<|Z<|.lst<|[b,[],bO b (Z 1) Y,bO b Y (Z v)++bO b (Z<|v+1) Y,b.reverse,b++bO b (Z<|-1) Y].map az):=
  jx (qk (a5 rfl (a5 (aN (s:=av []) rfl) (a5 (aN<|ft rfl rfl rfl rfl<|jw b _ _) (a5 (aN ca) (a5 (aN<|AP rfl rfl) (a5 (aN (b0 rfl (aN<|ft rfl rfl rfl rfl<|jw b _ _) rfl rfl (kl (by have:=x (Z<|-1) Y;lia)))) rfl)))))) rfl (ie rfl) rfl) (eM rfl) rfl;generalize P:[b,[],bO b (Z 1) Y,bO b Y (Z v)++bO b (Z<|v+1) Y,b.reverse,b++bO b (Z<|-1) Y]=j at O;have H:j.length=6:=by rw[<-P];rfl
 have cd:∀Wt∈j,eY V Wt 1000:=by
  rw[<-P];intro Wt e;simp only[cg,hi,h6]at e;rcases e with rfl|rfl|rfl|rfl|rfl|rfl
  ·exact i.mono ⋯
  ·exact⟨(λh t=>nomatch t),f7 _⟩
  ·exact (i.cut _ _).mono ⋯
  ·exact ((i.cut _ _).app<|i.cut _ _).mono ⋯
  ·exact (i.perm<|zl b).mono ⋯
  ·exact (i.app<|i.cut _ _).mono ⋯
 have ce:jd (g8 hV 7 km<|ah (af<|bo h9<|ah (af<|bo ku<|ah (af<|aB b8 (ab 4)<|af<|cQ<|ah (ab 2) ax) ax) ax) ax) (hS f V g d b (Z<|.im<|X a) (Z<|aC v)<|Z<|.lst<|j.map az)=Z (.bf,hS f V g d b (Z<|.im<|X a) (Z<|aC v)<|Z<|.lst<|(j++[l]).map az):=by
  refine nQ (nj (h:=.lst (j.map az)) rfl rfl (a5 (aN (cL (a5 (aN (cL (a5 (aN (b0 rfl (aN (s:=av [g]) rfl) rfl rfl (kl (by show _+1<=_;lia)))) rfl) rfl WY)) rfl) rfl rfl)) rfl) rfl rfl (rf (by rw[aZ];lia)) ?_);rw[d9];rfl
 have ch:∀{I:Option ai},b4 1 [] (b2<|af<|aB b8 (ab 4)<|af<|cQ<|ah (ab 5) ax) (a0 0) cB G.zz (hS f V g d b (Z<|.im<|X a) (Z<|aC v) I)=Z (.lst<|(b++[a]).map λh=>.tup [X h,.ay aa],hS f V g d b (Z<|.im<|X a) (Z<|aC v) I):=λ{I}=>by
  have ci:aB b8 (ab 4) (af<|cQ<|ah (ab 5) ax) (hS f V g d b (Z<|.im<|X a) (Z<|aC v) I)=Z (av<|b++[a],hS f V g d b (Z<|.im<|X a) (Z<|aC v) I):=b0 rfl (aN (s:=av [a]) rfl) rfl rfl (kl (by show _+1<=_;lia));refine fz (w:=(b++[a]).map X) (o:=Y) (We:=hS f V g d b (Z<|.im<|X a) (Z<|aC v) I) ?_ (fR X (λh=>.tup [X h,.ay aa]) _ (λh t=>?_) (by have:=u.2;lia)) rfl
  ·unfold b2;rw[gI ci];rfl
  ·exact⟨[Z (.im<|X h)],_,[Z (.im<|X h)],rfl,rfl,rfl,rfl⟩
 have cl:bV 7 (aB b8 (ab 7)<|af<|eG<|ah (af<|bo h9<|ah (af<|bo ib<|ah (af<|bo js<|ah (af<|b4 1 [] (b2<|af<|aB b8 (ab 4)<|af<|cQ<|ah (ab 5) ax) (a0 0) cB G.zz) ax) ax) ax)<|ah (ab 1)<|ah (af<|bo h9<|ah (af<|bo ku<|ah (af<|aB b8 (ab 4)<|af<|cQ<|ah (ab 3) ax) ax) ax) ax) (hS f V g d b (Z<|.im<|X a) (Z<|aC v)<|Z<|.lst<|(j++[l]).map az)=Z (.bf,hS f V g d b (Z<|.im<|X a) (Z<|aC v)<|Z<|.lst<|(j++[l]++[n,V,p]).map az):=by
  refine jx (b0 rfl (aN (qk (a5 (aN (cL (a5 (aN (cL (a5 (aN (cL (a5 (aN ch) rfl) rfl (HW (by have:=u.2;lia)))) rfl) rfl WZ)) rfl) rfl rfl)) (a5 rfl (a5 (aN (cL (a5 (aN (cL (a5 (aN (b0 rfl (aN (s:=av [d]) rfl) rfl rfl (kl (by show _+1<=_;lia)))) rfl) rfl be)) rfl) rfl rfl)) rfl))) rfl (ie rfl) rfl)) rfl rfl ?_) (eM rfl) rfl;show (if ((j++[l]).map az).length+3<=100000 then Z (ai.lst<|(j++[l]).map az++[az n,az V,az p]) else Y)=_;rw[aJ (by rw[aZ,b_,H];exact ie rfl),d9 (l₂:=[n,V,p])];rfl
 refine⟨.lst f,j++[l]++[n,V,p]++[F,[a]],?_,Ws,by rw[b_,b_,b_,H];rfl,λWt e=>?_⟩
 ·unfold ni D3;refine dk (y:=hS f V g d b (Z<|.im<|X a) (Z<|aC v) (Z<|.lst<|(j++[l]++[n,V,p]).map az)) rfl (bE (We:=hS N V g d b (Z<|.im<|X a) Y Y) (hO (mu (We:=hS a2 V g d b Y Y Y) (WO:=hS N V g d b Y Y Y) rfl (gI<|cw (Q:=[.aO 0,.cC<|aC (V.length:Int)]) (a5 rfl<|a5 (aN<|cL (a5 rfl rfl) rfl<|G1 V) rfl) rfl rfl an rfl) rfl rfl a1) (eM rfl) rfl)<|bE (We:=hS f V g d b (Z<|.im<|X a) (Z<|aC v) Y) (hO (cw (Q:=[.aO 0,.cC<|aC (b.length:Int)]) (a5 rfl<|a5 (aN<|cL (a5 rfl rfl) rfl<|G1 b) rfl) rfl rfl as rfl) (eM rfl) rfl)<|bE O<|bE ce<|bE cl<|eJ ?_) rfl;refine b0 rfl (aN (qk (a5 (aN (cL (a5 (aN (cL (a5 (aN (b0 (aN (b0 (aN<|ft rfl rfl rfl rfl<|jw b _ _) (aN (s:=av [a]) rfl) rfl rfl (kl (by have:=x Y (Z v);show _+1<=_;lia)))) (aN<|ft (M:=Z (v+1)) rfl rfl rfl rfl<|jw b _ _) rfl rfl (kl (by have:=D.2;rw[b_]at this;lia)))) rfl) rfl bm)) rfl) rfl rfl))<|a5 (aN (s:=av [a]) rfl) rfl) rfl (ie rfl) rfl)) rfl rfl ?_;show (if ((j++[l]++[n,V,p]).map az).length+2<=100000 then Z (ai.lst<|(j++[l]++[n,V,p]).map az++[az F,az [a]]) else Y)=_;rw[aJ (by rw[aZ,b_,b_,H];exact ie rfl),d9 (l₂:=[F,[a]])];rfl
 ·rcases dw.mp e with e|e
  ·rcases dw.mp e with e|e
   ·rcases dw.mp e with e|e
    ·exact cd Wt e
    ·rw[cM.mp e];exact ((i.app<|.one T).perm bd).mono ⋯
   ·simp only[cg,hi,h6]at e;rcases e with rfl|rfl|rfl
    ·exact bv.mono ⋯
    ·exact⟨λh t=>t,⋯⟩
    ·exact ((i.app<|.one al).perm bi).mono ⋯
  ·simp only[cg,hi,h6]at e;rcases e with rfl|rfl
   ·exact (D.perm bn).mono ⋯
   ·exact (eY.one C).mono ⋯
def hn(Wt:List bQ):ae:=(.tup (Wt.map az))
abbrev dy(Wt:List bQ):ai:=.im (hn Wt)
def p8(F:List bQ)(M S:Option Int):lS (dy F) M S=Z (dy<|bO F M S):=by
 show Z (ai.im<|.tup<|bO (F.map az) M S)=_;rw[pb];rfl
def vG{b Wt:List bQ}(c:b.length+Wt.length<=100000):b8 (dy b) (dy Wt)=Z (dy<|b++Wt):=by
 show (if (b.map az).length+(Wt.map az).length<=100000 then Z (ai.im<|.tup<|b.map az++Wt.map az) else Y)=_;rw[aJ (by rw[aZ,aZ];exact c),<-d9];rfl
def S8{b:List bQ}(a:L y=Z (f,y))(c:dQ y f=Z (dy b)):jT L y=Z (dy b.reverse,y):=by
 unfold jT;rw[a];show (dQ y f).bind _=_;rw[c];show Z (ai.im<|.tup (b.map az).reverse,y)=_;rw[<-Bl];rfl
def RX{b:List bQ}(d:b.length<=1000)(ne:∀l∈b,l≠[]):∃a:List bQ,ku [dy b]=Z (.lst<|a.map az)/\a.Perm b:=by
 let⟨a,WT,e⟩:=IP (ju<|b.map az);refine⟨a,?_,WT⟩;have o:l0 (b.map az)=aa:=by
  unfold l0;rw[cy,cy,pQ,fF,aZ,e_,e_,e_];refine⟨⟨d,λf c=>e_.mpr λC g=>?_⟩,.inr λf c=>?_⟩
  ·let⟨h,W,rfl⟩:=cn.mp c;let⟨s,W,rfl⟩:=cn.mp g;exact px h s
  ·let⟨h,i,rfl⟩:=cn.mp c;cases h with
   |nil=>exact absurd rfl (ne _ i)
   |cons=>rfl
 show (if l0 (b.map az)=aa then Z (ai.lst<|hy bp<|b.map az) else Y)=_;rw[aJ o,e]
def jz(V:List aL)(l:bQ):Prop:=(eY V l 290/\l≠[])
def jy.of(c:∀l∈F,jz V l)(n:F.length<=100):jy V F:=⟨n,λl a=>(c l a).2,λl a=>(c l a).1.2,λl a=>(c l a).1.1⟩
abbrev gn(p:List ae)(V:List aL)(F:List bQ)(WQ WI WU R I W6:Option ai):bc:=[Z (.lst p),Z<|av V,Z<|dy F,WQ,WI,WU,R,I,W6]
def Mh(F:List bQ):cF [dy F]=Z (aC (F.length:Int)):=by
 show Z (ai.im<|.int ((F.map az).length:Int))=_;rw[aZ]
def Sr(l:bQ):cF [.im (az l)]=Z (aC (l.length:Int)):=by
 show Z (ai.im<|.int ((l.map X).length:Int))=_;rw[aZ]
theorem Jx{V:List aL}{F:List bQ}{p:List ae}{l:bQ}{n:Nat}{WQ W6:Option ai}(e:eY V l 90):∀(Wu:List aL) (a:List bQ) (I:Option ai),a.length+Wu.length<=20->(∀o∈a,jz V o)->
  ∃(g:List bQ) (j:Option ai),d5 (a0 7) pW (Wu.map X) (gn p V F WQ (Z<|.im<|az l) (Z<|aC (n:Int)) (Z<|.lst<|a.map az) I W6)=Z (.bf,gn p V F WQ (Z<|.im<|az l) (Z<|aC (n:Int)) (Z<|.lst<|g.map az) j W6)/\g.length<=a.length+Wu.length/\∀o∈g,jz V o
 |[],a,I,_,c=>⟨a,I,rfl,bb _,c⟩
 |h::Wu,a,I,k,c=>by
  rw[dm]at k;have f:aY (aB eX (ab 7)<|ab 1) (gn p V F WQ (Z<|.im<|az l) (Z<|aC (n:Int)) (Z<|.lst<|a.map az) (Z<|.im<|X h) W6)=Z (decide (h∈V),gn p V F WQ (Z<|.im<|az l) (Z<|aC (n:Int)) (Z<|.lst<|a.map az) (Z<|.im<|X h) W6):=cm (d0<|uB V h);have go:∃b:List bQ,pW (gn p V F WQ (Z<|.im<|az l) (Z<|aC (n:Int)) (Z<|.lst<|a.map az) (Z<|.im<|X h) W6)=Z (.bf,gn p V F WQ (Z<|.im<|az l) (Z<|aC (n:Int)) (Z<|.lst<|b.map az) (Z<|.im<|X h) W6)/\b.length<=a.length+1/\∀o∈b,jz V o:=by
   by_cases i:h∈V
   ·rw[c1 i]at f;have Wo:eY V (bO l Y (Z<|(n:Int)+1)++[h]++bO l (Z (n:Int)) Y) (90+1+90):=((e.cut _ _).app<|.one i).app (e.cut _ _);have A:=oY l Y (Z<|(n:Int)+1);have E:=oY l (Z (n:Int)) Y;have w:=e.2;refine⟨a++[bO l Y (Z<|(n:Int)+1)++[h]++bO l (Z (n:Int)) Y],?_,by rw[b_,eO];exact bb _,λo d=>?_⟩
    ·unfold pW;refine gD f (nQ (nj (h:=.lst (a.map az)) rfl rfl (a5 (aN (b0 (aN (b0 (aN<|ft (s:=av l) (S:=Z ((n:Int)+1)) rfl rfl rfl rfl<|jw l _ _) (aN (s:=av [h]) rfl) rfl rfl (kl (by show _+1<=_;lia)))) (aN<|ft (s:=av l) (M:=Z (n:Int)) rfl rfl rfl rfl<|jw l _ _) rfl rfl (kl (by rw[b_,eO];lia)))) rfl) rfl rfl (rf (by rw[aZ];lia)) ?_));rw[d9 (l₁:=a)];rfl
    ·rcases dw.mp d with d|d
     ·exact c o d
     ·rw[cM.mp d];exact⟨Wo.mono ⋯,λm=>by
       have:=congrArg List.length m;rw[b_,b_,eO,gB]at this;lia⟩
   ·rw[cW i]at f;exact⟨a,eD f rfl,⋯,c⟩
  let⟨b,q,a8,r⟩:=go;let⟨t,WW,u,bz,v⟩:=Jx (F:=F) (p:=p) (n:=n) (WQ:=WQ) (W6:=W6) e Wu b (Z<|.im<|X h) ⋯ r;refine⟨t,WW,?_,by rw[dm];lia,v⟩;rw[cS,d5];show (pW<|gn p V F WQ (Z<|.im<|az l) (Z<|aC (n:Int)) (Z<|.lst<|a.map az) (Z<|.im<|X h) W6).bind _=_;rw[q];exact u
def TY(m:ew (r+2) c)(bi:F≠[])(Xm:F.length<=4)(O:∀l∈F,eY V l 90/\2<=l.length):
  ∃(U:ai) (g:List (List bQ)),o_ [c,av V,dy F]=Z (.lst<|g.map hn,[U,av V,dy F])/\ew r U/\g.length<=30/\∀Wt∈g,jy V Wt:=by
 have ev:=lp.mpr bi;have L:∀l∈F,jz V l:=λl D=>⟨(O l D).1.mono ⋯,λH=>by have:=(O l D).2;rw[H,gB]at this;lia⟩;let⟨v,A,bm,bn,ex,Wh⟩:=ik (r:=r+1) (k:=(F.length:Int)) m ⋯ ⋯;obtain⟨l,D⟩:∃l,F[v.toNat]?=Z l:=⟨F[v.toNat]'⋯,by simp⟩;have bs:=fH D;let⟨W,fd⟩:=O l bs;have fn:=W.2;let⟨j,E,bv,T,fr,Ws⟩:=ik (r:=r) (k:=(l.length:Int)) Wh ⋯ ⋯;let⟨n,rfl⟩:=Int.eq_ofNat_of_zero_le T;have f0:n<l.length:=⋯
 obtain⟨h,ca⟩:∃h,l[n]?=Z h:=⟨l[n],by simp⟩;have cd:bD (dy F) (aC v)=Z (.im<|az l):=by
  show (dv (F.map az) v).map ai.im=_;rw[lr bn (by rw[fp,D];rfl)];rfl
 have ce:bD (.im<|az l) (aC (n:Int))=Z (.im<|X h):=by
  show (dv (l.map X) (n:Int)).map ai.im=_;rw[oO T (h:=h) ca];rfl
 let⟨f1,rfl⟩:=m.lst;let⟨al,rfl⟩:=Wh.lst;let⟨a,rfl⟩:=Ws.lst;have WD:((n:Int)+1)=((n+1:Nat):Int):=⋯
 have ck:bO l Y (Z ((n:Nat):Int))=l.take n:=JC l n;have ch:bO l Y (Z<|(n:Int)+1)=l.take (n+1):=by rw[WD];exact JC l (n+1)
 have ci:bO l (Z ((n:Nat):Int)) Y=l.drop n:=qv l n;have cl:bO l (Z<|(n:Int)+1) Y=l.drop (n+1):=by rw[WD];exact qv l (n+1)
 have R:=λM S=>oY l M S;have am:∀M S,(bO l.reverse M S).length<=l.length:=λM S=>by have:=oY l.reverse M S;rw[mZ]at this;exact this
 have an:bV 6 (eG<|ah (af<|jT<|ab 4)<|ah (af<|aB b8 (af<|cZ (ab 4) di<|c6<|d2 5)<|af<|cZ (ab 4) (c6<|aB b8 (ab 5)<|af<|aD<|.int 1) di)<|ah (af<|cZ (ab 4) (c6<|d2 5) di)<|ah (af<|cZ (ab 4) di<|c6<|aB b8 (ab 5)<|af<|aD<|.int 1)<|ah (af<|aB b8 (af<|aB b8 (ab 4)<|af<|cZ (af<|jT<|ab 4) (c6<|aD<|.int 1) di)<|af<|cZ (ab 4) (c6<|aD<|.int 1) di) ax) (gn a V F (Z<|aC v) (Z<|.im<|az l) (Z<|aC (n:Int)) Y Y Y)=Z (.bf,gn a V F (Z<|aC v) (Z<|.im<|az l) (Z<|aC (n:Int)) (Z<|.lst<|[l.reverse,bO l Y (Z (n:Int))++bO l (Z<|(n:Int)+1) Y,bO l (Z (n:Int)) Y,bO l Y<|Z<|(n:Int)+1,l++bO l.reverse (Z 1) Y++bO l (Z 1) Y].map az) Y Y):=
  jx (qk (a5 (aN<|AP (b:=l) rfl rfl) (a5 (aN (b0 (aN<|ft (s:=av l) (S:=Z (n:Int)) rfl rfl rfl rfl<|jw l _ _) (aN<|ft (s:=av l) (M:=Z ((n:Int)+1)) rfl rfl rfl rfl<|jw l _ _) rfl rfl (kl (by have:=R Y (Z (n:Int));have:=R (Z<|(n:Int)+1) Y;lia)))) (a5 (aN<|ft (s:=av l) (M:=Z (n:Int)) rfl rfl rfl rfl<|jw l _ _) (a5 (aN<|ft (s:=av l) (S:=Z ((n:Int)+1)) rfl rfl rfl rfl<|jw l _ _) (a5 (aN (b0 (aN (b0 rfl (aN<|ft (aN<|AP (b:=l) rfl rfl) rfl rfl rfl<|jw l.reverse _ _) rfl rfl (kl (by have:=am (Z 1) Y;lia)))) (aN<|ft (s:=av l) rfl rfl rfl rfl<|jw l _ _) rfl rfl (kl (by have:=am (Z 1) Y;have:=R (Z 1) Y;rw[b_];lia)))) rfl))))) rfl (ie rfl) rfl) (eM rfl) rfl;have Wb:eY V l.reverse 90:=W.perm (zl l);have J:∀{f:bQ},1<=f.length->f≠[]:=λ{f} c H=>by rw[H,gB]at c;lia
 have ap:∀o∈[l.reverse,bO l Y (Z (n:Int))++bO l (Z<|(n:Int)+1) Y,bO l (Z (n:Int)) Y,bO l Y<|Z<|(n:Int)+1,l++bO l.reverse (Z 1) Y++bO l (Z 1) Y],jz V o:=by
  intro o t;simp only[cg,hi,h6]at t;rcases t with rfl|rfl|rfl|rfl|rfl
  ·exact⟨Wb.mono ⋯,J (by rw[mZ];lia)⟩
  ·exact⟨((W.cut _ _).app<|W.cut _ _).mono ⋯,J (by rw[ck,cl,b_,gK,f9];lia)⟩
  ·exact⟨(W.cut _ _).mono ⋯,J (by rw[ci,f9];lia)⟩
  ·exact⟨(W.cut _ _).mono ⋯,J (by rw[ch,gK];lia)⟩
  ·exact⟨((W.app<|Wb.cut _ _).app<|W.cut _ _).mono ⋯,J (by rw[b_,b_];lia)⟩
 generalize co:[l.reverse,bO l Y (Z (n:Int))++bO l (Z<|(n:Int)+1) Y,bO l (Z (n:Int)) Y,bO l Y<|Z<|(n:Int)+1,l++bO l.reverse (Z 1) Y++bO l (Z 1) Y]=B at an ap;have as:B.length=5:=by rw[<-co];rfl
 let⟨i,I,cr,cs,a1⟩:=Jx (F:=F) (p:=a) (n:=n) (WQ:=Z (aC v)) (W6:=Y) W (c7 h) B Y (by rw[as,Bj];decide) ap;rw[as,Bj]at cs;have db:gh (b2<|af<|a7 1 G.kj<|ah (af<|aB bD (ab 4)<|ab 5) ax) (a0 7) G.pW (gn a V F (Z<|aC v) (Z<|.im<|az l) (Z<|aC (n:Int)) (Z<|.lst<|B.map az) Y Y)=Z (.bf,gn a V F (Z<|aC v) (Z<|.im<|az l) (Z<|aC (n:Int)) (Z<|.lst<|i.map az) I Y):=by
  refine iE (o:=Y) (w:=(c7 h).map X) (We:=gn a V F (Z<|aC v) (Z<|.im<|az l) (Z<|aC (n:Int)) (Z<|.lst<|B.map az) Y Y) ?_ cr rfl;have ds:a7 1 G.kj (ah (af<|aB bD (ab 4)<|ab 5) ax) (gn a V F (Z<|aC v) (Z<|.im<|az l) (Z<|aC (n:Int)) (Z<|.lst<|B.map az) Y Y)=Z (aS<|c7 h,gn a V F (Z<|aC v) (Z<|.im<|az l) (Z<|aC (n:Int)) (Z<|.lst<|B.map az) Y Y):=cw (Q:=[.cC (.im<|X h)]) (a5 (aN<|d0 ce) rfl) rfl rfl (tQ h) rfl;unfold b2;rw[gI ds];rfl
 have q:=λM S=>oY F M S;have a2:bV 8 (eG<|ah (ab 2)<|ah (af<|cQ ax)<|ah (af<|cZ (ab 2) (c6<|aD<|.int 1) di)<|ah (af<|jT<|ab 2)<|ah (af<|aB b8 (ab 2)<|af<|cZ (ab 2) (c6<|jI<|aD<|.int 1) di)<|ah (af<|aB b8 (af<|cZ (ab 2) di<|c6<|d2 3)<|af<|cZ (ab 2) (c6<|aB b8 (ab 3)<|af<|aD<|.int 1) di) ax) (gn a V F (Z<|aC v) (Z<|.im<|az l) (Z<|aC (n:Int)) (Z<|.lst<|i.map az) I Y)=Z (.bf,gn a V F (Z<|aC v) (Z<|.im<|az l) (Z<|aC (n:Int)) (Z<|.lst<|i.map az) I<|Z<|.lst<|[F,[],bO F (Z 1) Y,F.reverse,F++bO F (Z<|-1) Y,bO F Y (Z v)++bO F (Z<|v+1) Y].map hn):=
  jx (qk (a5 rfl (a5 (aN (s:=dy []) rfl) (a5 (aN<|ft (s:=dy F) rfl rfl rfl rfl<|p8 F _ _) (a5 (aN<|S8 (b:=F) rfl rfl) (a5 (aN (b0 rfl (aN<|ft (s:=dy F) rfl rfl rfl rfl<|p8 F _ _) rfl rfl (vG (by have:=q (Z<|-1) Y;lia)))) (a5 (aN (b0 (aN<|ft (s:=dy F) (S:=Z v) rfl rfl rfl rfl<|p8 F _ _) (aN<|ft (s:=dy F) (M:=Z (v+1)) rfl rfl rfl rfl<|p8 F _ _) rfl rfl (vG (by have:=q Y (Z v);have:=q (Z<|v+1) Y;lia)))) rfl)))))) rfl (ie rfl) rfl) (eM rfl) rfl;have C:∀M S,∀f∈bO F M S,jz V f:=λM S f d=>L f (F3 d);have app:∀{P WA:List bQ},(∀f∈P,jz V f)->(∀f∈WA,jz V f)->∀f∈P++WA,jz V f:=λA E f d=>(dw.mp d).elim (A f) (E f);have bd:∀Wt∈[F,[],bO F (Z 1) Y,F.reverse,F++bO F (Z<|-1) Y,bO F Y (Z v)++bO F (Z<|v+1) Y],jy V Wt:=by
  intro Wt u;simp only[cg,hi,h6]at u;rcases u with rfl|rfl|rfl|rfl|rfl|rfl
  ·exact .of L ⋯
  ·exact .of (λf d=>nomatch d) (f7 _)
  ·exact .of (C _ _) (by have:=q (Z 1) Y;lia)
  ·exact .of (λf d=>L f<|Ef.mp d) (by rw[mZ];lia)
  ·exact .of (app L<|C _ _) (by have:=q (Z<|-1) Y;rw[b_];lia)
  ·exact .of (app (C _ _)<|C _ _) (by have:=q Y (Z v);have:=q (Z<|v+1) Y;rw[b_];lia)
 generalize dL:[F,[],bO F (Z 1) Y,F.reverse,F++bO F (Z<|-1) Y,bO F Y (Z v)++bO F (Z<|v+1) Y]=g at a2 bd;have be:g.length=6:=by rw[<-dL];rfl
 have iA:∀o:bQ,(bO F Y (Z v)++[o]++bO F (Z<|v+1) Y).length<=9:=λo=>by have:=q Y (Z v);have:=q (Z<|v+1) Y;rw[b_,b_,eO];lia
 have x:∀o:bQ,∃N:List bQ,jz V o->ku [dy (bO F Y (Z v)++[o]++bO F (Z<|v+1) Y)]=Z (.lst<|N.map az)/\jy V N:=λo=>by
  by_cases t:jz V o
  ·have all:=app (app (C Y<|Z v) (λf d=>by rw[cM.mp d];exact t:∀f∈[o],jz V f)) (C (Z<|v+1) Y);let⟨N,e,WT⟩:=RX (b:=bO F Y (Z v)++[o]++bO F (Z<|v+1) Y) (by have:=iA o;lia) λf d=>(all f d).2;exact⟨N,λ_=>⟨e,.of (λf d=>all f<|WT.mem_iff.mp d) (by rw[WT.length_eq];have:=iA o;lia)⟩⟩
  ·exact⟨[],λH=>absurd H t⟩
 have et:∀o,jz V o->ku [dy (bO F Y (Z v)++[o]++bO F (Z<|v+1) Y)]=Z (.lst<|(x o).choose.map az)/\jy V (x o).choose:=λo=>(x o).choose_spec;have eq:b4 1 [2,3] (b2<|ab 6) (a0 0) cB G.zt (gn a V F (Z<|aC v) (Z<|.im<|az l) (Z<|aC (n:Int)) (Z<|.lst<|i.map az) I<|Z<|.lst<|g.map hn)=Z (.lst<|i.map λo=>hn (x o).choose,gn a V F (Z<|aC v) (Z<|.im<|az l) (Z<|aC (n:Int)) (Z<|.lst<|i.map az) I<|Z<|.lst<|g.map hn):=by
  refine fz (w:=i.map az) (o:=Z (6,.lst<|i.map az)) (We:=gn a V F (Z<|aC v) (Z<|.im<|az l) (Z<|aC (n:Int)) (Z .dS) I (Z<|.lst<|g.map hn)) rfl (fR az (λo=>hn (x o).choose) _ (λo t=>?_) ⋯) rfl;refine⟨[Z (.im<|az o),Z<|dy F,Z<|aC v],_,[Z (.im<|az o),Z<|dy F,Z<|aC v],rfl,rfl,?_,rfl⟩;unfold zt;exact cL (a5 (aN (cL (a5 (aN (b0 (aN (b0 (aN<|ft (s:=dy F) (S:=Z v) rfl rfl rfl rfl<|p8 F _ _) (aN (s:=dy [o]) rfl) rfl rfl (vG (by have:=q Y (Z v);show _+1<=_;lia)))) (aN<|ft (s:=dy F) (M:=Z (v+1)) rfl rfl rfl rfl<|p8 F _ _) rfl rfl (vG (by have:=iA o;rw[b_]at this;lia)))) rfl) rfl (et o<|a1 o t).1)) rfl) rfl rfl
 refine⟨.lst a,g++i.map λo=>(x o).choose,?_,Ws,by rw[b_,aZ,be];lia,λWt u=>?_⟩
 ·unfold o_ Ik;refine dk (y:=gn a V F (Z<|aC v) (Z<|.im<|az l) (Z<|aC (n:Int)) (Z<|.lst<|i.map az) I (Z<|.lst<|g.map hn)) rfl (bE (We:=gn al V F (Z<|aC v) Y Y Y Y Y) (hO (cw (Q:=[.aO 0,.cC<|aC (F.length:Int)]) (a5 rfl<|a5 (aN<|cL (a5 rfl rfl) rfl<|Mh F) rfl) rfl rfl bm rfl) (eM rfl) rfl)<|bE (We:=gn al V F (Z<|aC v) (Z<|.im<|az l) Y Y Y Y) (jx (d0 cd) (eM rfl) rfl)<|bE (We:=gn a V F (Z<|aC v) (Z<|.im<|az l) (Z<|aC (n:Int)) Y Y Y) (hO (cw (Q:=[.aO 0,.cC<|aC (l.length:Int)]) (a5 rfl<|a5 (aN<|cL (a5 rfl rfl) rfl<|Sr l) rfl) rfl rfl bv rfl) (eM rfl) rfl)<|bE an<|bE db<|bE a2<|eJ<|b0 rfl (aN eq) rfl rfl ?_) rfl;show (if (g.map hn).length+(i.map λo=>hn (x o).choose).length<=100000 then Z (ai.lst<|g.map hn++i.map λo=>hn (x o).choose) else Y)=_;rw[aJ (by rw[aZ,aZ,be];lia),d9,fc];rfl
 ·rcases dw.mp u with u|u
  ·exact bd Wt u
  ·let⟨o,t,rfl⟩:=cn.mp u;exact (et o<|a1 o t).2
def Vl(up:mi V)(z:V.length<=80)(f:g∈V)(i:d∈V)(o:g≠d)(D:d∉c7 g)(p:ez V g d):
  ∃(aq:List aL) (F:List bQ),p3 [av V,.im<|X g,.im<|X d]=Z (.im<|.tup [.tup (aq.map X),.tup<|F.map az],[av V,.im<|X g,.im<|X d])/\eY V aq 200/\aq≠[]/\F≠[]/\F.length<=4/\(∀l∈F,eY V l 90/\2<=l.length)/\Bt V g d aq F:=by
 have ao:=up.ao;let⟨x,M,Wj,F,q,WA,a,WT,j⟩:=TK ao ⋯ f i o D;have ei:=WA.ei;have r:=WA.many ao a;have m:=WA.TB a;have P:=WA.Uz ⋯ f i WT j;have b:=WA.bar a;have s:F.length=(V.filter<|hG Wj).length:=by rw[WT.length_eq,aZ,r]
 have n:V.filter (hG Wj)≠[]:=λu=>by
  rw[u,QQ]at b;exact b p
 have A:=lp.mpr n;refine⟨V.filter<|hG Wj,F,q,⟨λh w=>(j8.mp w).1,⋯⟩,n,lp.mp ⋯,⋯,λl c=>⟨⟨P.dR l c,?_⟩,?_⟩,⟨ND _ up,m.1,m.2,b,⟨P.ch,j,P.wq,P.ao,P.na,P.nb⟩,s⟩⟩
 ·let⟨t,y,e⟩:=cn.mp (WT.mem_iff.mp c);have:=WA.xF y;rw[<-e];unfold iX cc.dR;rw[dm,b_,mZ,aZ,hR,eO];lia
 ·let⟨k,rfl⟩:=P.wq l c;rw[dm,b_,eO];lia
def d1(q:bQ×List bQ):ae:=(.tup [az q.1,hn q.2])
def ue(V:List aL)(q:bQ×List bQ):Prop:=(eY V q.1 1000/\jy V q.2)
section
variable{t bL j:aj}
abbrev lZ(P WC WW:Option ai)(V:List aL)(WI:Option ai)(g d:aL)(I W6 W5 Xa a b Xi:Option ai):bc:=[P,WC,WW,Z<|av V,WI,Z<|.im<|X g,Z<|.im<|X d,I,W6,W5,Xa,a,b,Xi]
def SN{q:bQ×List bQ}{P WC:Option ai}(N:ir V)(a:gT t [av V]=Z (.im<|.ay aa,[av V]))(b:g∈V)(e:d∈V)(f:g≠d)(D:d∉c7 g)(c:ue V q):
  ∃h,ti t bL j (lZ P WC WW V WI g d I W6 W5 Xa (Z<|av q.1) (Z<|dy q.2) Xi)=Z (.bf,lZ P WC WW V WI g d I W6 W5 Xa (Z<|av q.1) (Z<|dy q.2) h):=by
 let⟨B,i,k⟩:=C2 (bL:=bL) (j:=j) N a b e f D c.1.2 c.2;let⟨J,l,m⟩:=Mk (g:=g) (d:=d) N.len c.1.1 c.1.2 c.2;have n:J=B:=by
  rw[k6];exact m.trans k.symm
 subst n;refine⟨Z<|.im<|.ay J,?_⟩;have ne:gd (.im<|.ay J) (.im<|.ay J)=Z (.im<|.ay aw):=by cases J<;>rfl
 unfold ti;exact bE (We:=lZ P WC WW V WI g d I W6 W5 Xa (Z<|av q.1) (Z<|dy q.2) (Z<|.im<|.ay J)) (hO (cw (Q:=[.aO 3,.aO 5,.aO 6,.aO 11,.aO 12]) rfl rfl rfl i rfl) (eM rfl) rfl) (eD (c9 (We:=lZ P WC WW V WI g d I W6 W5 Xa (Z<|av q.1) (Z<|dy q.2) (Z<|.im<|.ay J)) (by rfl)<|cm<|b0 rfl (aN<|cw (Q:=[.aO 3,.aO 5,.aO 6,.aO 11,.aO 12]) rfl rfl rfl l rfl) rfl rfl ne) rfl)
theorem Ey{V:List aL}{g d:aL}{P WC WW WI I W6 W5 Xa:Option ai}(N:ir V)(e:gT t [av V]=Z (.im<|.ay aa,[av V]))(h:g∈V)(i:d∈V)(k:g≠d)(D:d∉c7 g):∀(Wk:List (bQ×List bQ)) (a b Xi:Option ai),(∀q∈Wk,ue V q)->
  ∃l m n,d5 (h5 2<|eu (a0 11)<|eu (a0 12) hM) (ti t bL j) (Wk.map d1) (lZ P WC WW V WI g d I W6 W5 Xa a b Xi)=Z (.bf,lZ P WC WW V WI g d I W6 W5 Xa l m n)
 |[],a,b,Xi,_=>⟨a,b,Xi,rfl⟩
 |q::Wk,a,b,Xi,c=>by
  let⟨f,o⟩:=SN (bL:=bL) (j:=j) (q:=q) (P:=P) (WC:=WC) (WW:=WW) (WI:=WI) (I:=I) (W6:=W6) (W5:=W5) (Xa:=Xa) (Xi:=Xi) N e h i k D (c q<|.head _);let⟨r,s,u,v⟩:=Ey (P:=P) (WC:=WC) (WW:=WW) (WI:=WI) (I:=I) (W6:=W6) (W5:=W5) (Xa:=Xa) N e h i k D Wk (Z<|av q.1) (Z<|dy q.2) f (λp w=>c p<|.tail _ w);refine⟨r,s,u,?_⟩;rw[cS,d5];show (ti t bL j<|lZ P WC WW V WI g d I W6 W5 Xa (Z<|av q.1) (Z<|dy q.2) Xi).bind _=_;rw[o];exact v
def M9{Wu:List Int}{n:Int}{WU R x y:Option ai}(ds:0<=n)(ls:n<3):∃WO an W4 dL eq ev ex fd fn fr f0 f1 f2 f4,xg t bL j [Z (.c_<|Wu.map .int),Z<|aC n,WW,WQ,WI,WU,R,I,W6,W5,Xa,x,y,Xi]=Z (.bf,WO)/\WO=[Z (.c_<|Wu.map .int),an,W4,dL,eq,ev,ex,fd,fn,fr,f0,f1,f2,f4]:=by
 let⟨c,f8,m⟩:=Kf (Wu:=Wu) ds ⋯;let⟨A,V,ga,Wh,a1,aW,up,⟨lv,cd,ce⟩,fin⟩:=PL (r:=8) (k:=24) ⋯ ⋯ (m.mono ⋯);have aW:V.length<=80:=by have:(24:Int).toNat=24:=rfl;lia
 let⟨E,Ws,z1⟩:=O7 (r:=6) (V:=V) Wh ⋯ a1;let⟨ge,rfl⟩:=m.lst;let⟨ch,rfl⟩:=Wh.lst;let⟨J,rfl⟩:=Ws.lst;have O:∀{b:bJ}{Wb:Option (nW×bc)},b [Z (.c_<|Wu.map .int),Z<|aC n,Z<|.lst ch,Z<|av V,WI,WU,R,I,W6,W5,Xa,x,y,Xi]=Wb->bj (bV 2<|a7 2 G.o6<|ah (ab 0)<|ah (ab 1) ax) (bj (bV 3<|a7 2 G.pD<|ah (ab 2)<|ah (af<|aD<|.int 24) ax) b) [Z (.c_<|Wu.map .int),Z<|aC n,WW,WQ,WI,WU,R,I,W6,W5,Xa,x,y,Xi]=Wb:=λa2=>
  bE (We:=[Z (.c_<|Wu.map .int),Z<|aC n,Z<|.lst ge,WQ,WI,WU,R,I,W6,W5,Xa,x,y,Xi]) (hO (cw (Q:=[.aO 0,.aO 1]) rfl rfl rfl f8 rfl) (eM rfl) rfl) (bE (We:=[Z (.c_<|Wu.map .int),Z<|aC n,Z<|.lst ch,Z<|av V,WI,WU,R,I,W6,W5,Xa,x,y,Xi]) (hO (cw (Q:=[.aO 2,.cC<|aC 24]) rfl rfl rfl ga rfl) (eM rfl) rfl) a2);unfold xg;rcases z1 with bd|⟨g,d,al,am,be,D,bd⟩
 ·exact⟨_,_,_,_,_,_,_,_,_,_,_,_,_,_,O<|bE (We:=[Z (.c_<|Wu.map .int),Z<|aC n,Z<|.lst J,Z<|av V,Z<|.im .a6,WU,R,I,W6,W5,Xa,x,y,Xi]) (hO (cw (Q:=[.aO 2,.aO 3]) rfl rfl rfl bd rfl) (eM rfl) rfl)<|eD (We:=[Z (.c_<|Wu.map .int),Z<|aC n,Z<|.lst J,Z<|av V,Z<|.im .a6,WU,R,I,W6,W5,Xa,x,y,Xi]) rfl rfl,rfl⟩
 ·have gl:=SR ce al am;have N:ir V:=⟨up,fin,⋯⟩;have ci:gT t [av V]=Z (.im<|.ay aa,[av V]):=NZ N λf=>(ce f).trans CR.symm;let⟨aq,F,go,ap,lu,gt,Xm,bi,T⟩:=Vl up aW al am be D gl;have cl:jy V F:=.of (λl c=>⟨(bi l c).1.mono ⋯,λcd=>by have:=(bi l c).2;rw[cd,gB]at this;lia⟩) ⋯;have g1:ov t bL j [av V,.im<|X g,.im<|X d,av aq,dy F]=Z (.im<|.ay aa,[av V,.im<|X g,.im<|X d,av aq,dy F]):=by
   let⟨B,e,a⟩:=C2 (bL:=bL) (j:=j) N ci al am be D (b:=aq) (by have:=ap.2;lia) cl;rw[a.mpr T]at e;exact e
  let⟨lw,C,g2,co,mb,a2⟩:=GK (r:=4) Ws a1 ⋯ al am lu ap;let⟨mo,H,g3,cr,ms,hd⟩:=TY (r:=2) co gt Xm bi;let⟨m0,h,he,hf,hm,hw⟩:=GK (r:=0) cr a1 ⋯ al am lu ap;let⟨U,rfl⟩:=co.lst;let⟨as,rfl⟩:=cr.lst;let⟨M,rfl⟩:=hf.lst;let u (p:List ae) (W5 Xa:Option ai):bc:=lZ (Z<|.c_<|Wu.map .int) (Z<|aC n) (Z<|.lst p) V (Z<|.im<|.tup [X g,X d]) g d (Z<|av aq) (Z<|dy F) W5 Xa x y Xi
  have h0:b4 1 [8] (b2<|af<|a7 5 G.ni<|ah (ab 2)<|ah (ab 3)<|ah (ab 5)<|ah (ab 6)<|ah (ab 7) ax) (a0 0) cB (G.Ir t bL j) (u J W5 Xa)=Z (.lst<|(C.map λb=>(b,F)).map d1,u U W5 Xa):=by
   have bm:a7 5 G.ni (ah (ab 2)<|ah (ab 3)<|ah (ab 5)<|ah (ab 6)<|ah (ab 7) ax) (u J W5 Xa)=Z (.lst<|C.map az,u U W5 Xa):=cw (Q:=[.aO 2,.aO 3,.aO 5,.aO 6,.aO 7]) rfl rfl rfl g2 rfl;rw[fc];refine fz (w:=C.map az) (o:=Y) (We:=u U W5 Xa) (by unfold b2;rw[gI bm];rfl) (fR az (d1 ∘ λb=>(b,F)) _ (λb W=>?_) ⋯) rfl;exact⟨[Z (.im<|az b),Z<|dy F],_,[Z (.im<|az b),Z<|dy F],rfl,rfl,rfl,rfl⟩
  have ii:∀{W5:Option ai},b4 1 [7] (b2<|af<|a7 3 G.o_<|ah (ab 2)<|ah (ab 3)<|ah (ab 8) ax) (a0 0) cB (G.I5 t bL j) (u U W5 Xa)=Z (.lst<|(H.map λWt=>(aq,Wt)).map d1,u as W5 Xa):=λ{W5}=>by
   have bm:a7 3 G.o_ (ah (ab 2)<|ah (ab 3)<|ah (ab 8) ax) (u U W5 Xa)=Z (.lst<|H.map hn,u as W5 Xa):=cw (Q:=[.aO 2,.aO 3,.aO 8]) rfl rfl rfl g3 rfl;rw[fc];refine fz (w:=H.map hn) (o:=Y) (We:=u as W5 Xa) (by unfold b2;rw[gI bm];rfl) (fR hn (d1 ∘ λWt=>(aq,Wt)) _ (λWt W=>?_) ⋯) rfl;exact⟨[Z (.im<|hn Wt),Z<|av aq],_,[Z (.im<|hn Wt),Z<|av aq],rfl,rfl,rfl,rfl⟩
  have bn:∀q∈(C.map λb=>(b,F))++H.map λWt=>(aq,Wt),ue V q:=λq v=>by
   rcases dw.mp v with v|v
   ·let⟨b,bs,rfl⟩:=cn.mp v;exact⟨a2 b bs,cl⟩
   ·let⟨Wt,bs,rfl⟩:=cn.mp v;exact⟨ap.mono ⋯,hd Wt bs⟩
  have bI:((C.map λb=>(b,F))++H.map λWt=>(aq,Wt)).length<=42:=by rw[b_,aZ,aZ];lia
  have cs:b8 (.lst<|(C.map λb=>(b,F)).map d1) (.lst<|(H.map λWt=>(aq,Wt)).map d1)=Z (.lst<|((C.map λb=>(b,F))++H.map λWt=>(aq,Wt)).map d1):=by
   show (if ((C.map λb=>(b,F)).map d1).length+((H.map λWt=>(aq,Wt)).map d1).length<=100000 then Z (ai.lst<|(C.map λb=>(b,F)).map d1++(H.map λWt=>(aq,Wt)).map d1) else Y)=_;rw[aJ (by rw[aZ,aZ,aZ,aZ];lia),<-d9]
  generalize (C.map λb=>(b,F))++(H.map λWt=>(aq,Wt))=Wk at bn bI cs;let L (a:Nat):bQ×List bQ:=(h.getD (a%12) [],(Wk.getD a ([],[])).2)
  have io:b4 1 [10,9] (ip<|ah (af<|bo cF<|ah (ab 9) ax) ax) (a0 0) cB (G.Aa t bL j) (u M (Z<|.lst<|Wk.map d1)<|Z<|.lst<|h.map az)=Z (.lst<|((range Wk.length).map L).map d1,u M (Z<|.lst<|Wk.map d1)<|Z<|.lst<|h.map az):=by
   have it:cF [.lst (Wk.map d1)]=Z (aC (Wk.length:Int)):=by
    show Z (ai.im<|.int ((Wk.map d1).length:Int))=_;rw[aZ]
   rw[fc];refine fz (w:=(range Wk.length).map λ(a:Nat)=>.int<|0+(a:Int)) (o:=Y) (We:=u M (Z<|.lst<|Wk.map d1) (Z<|.lst<|h.map az)) ?_ (fR (λ(a:Nat)=>.int<|0+(a:Int)) (d1 ∘ L) _ (λa S=>?_) (by rw[hR];lia)) rfl
   ·exact U_ (i:=(Wk.length:Int)) (a5 (aN<|cL (a5 rfl rfl) rfl it) rfl) rfl ⟨⋯,⋯⟩
   ·have bv:=fI.mp S;have jp:cF [.lst (h.map az)]=Z (aC 12):=by
     show Z (ai.im<|.int ((h.map az).length:Int))=_;rw[aZ,hm];rfl
    have kt:hP (aC<|0+(a:Int)) (aC 12)=Z (aC ((a%12:Nat):Int)):=(UN ∅).trans (by rw[show (0+(a:Int))%12=((a%12:Nat):Int) by lia]);have ca:h[a%12]?=Z (h.getD (a%12) []):=by rw[cP,eB (show a%12<h.length by lia)];rfl
    have v:Wk[a]?=Z (Wk.getD a ([],[])):=by rw[cP,eB bv];rfl
    have kw:bD (.lst<|h.map az) (aC ((a%12:Nat):Int))=Z (.im<|az<|h.getD (a%12) []):=by
     show (dv (h.map az) ((a%12:Nat):Int)).map ai.im=_;rw[lr ⋯ (s:=az (h.getD (a%12) [])) (by rw[p0,fp,ca];rfl)];rfl
    have lc:bD (.lst<|Wk.map d1) (aC<|0+(a:Int))=Z (.im<|d1<|Wk.getD a ([],[])):=by
     show (dv (Wk.map d1)<|0+(a:Int)).map ai.im=_;rw[lr ⋯ (s:=d1 (Wk.getD a ([],[]))) (by rw[show (0+(a:Int)).toNat=a by lia,fp,v];rfl)];rfl
    refine⟨[Z (aC<|0+(a:Int)),Z<|.lst<|h.map az,Z<|.lst<|Wk.map d1],_,[Z (aC<|0+(a:Int)),Z<|.lst<|h.map az,Z<|.lst<|Wk.map d1],rfl,rfl,?_,rfl⟩;unfold Aa;exact sE (a5 (aN<|b0 rfl (aN<|b0 rfl (aN<|cL (a5 rfl rfl) rfl jp) rfl rfl kt) rfl rfl kw)<|a5 (aN<|b0 (aN<|d0 lc) rfl rfl rfl rfl) rfl) rfl (ie rfl) rfl
  have db:b8 (.lst<|Wk.map d1) (.lst<|((range Wk.length).map L).map d1)=Z (.lst<|(Wk++(range Wk.length).map L).map d1):=by
   show (if (Wk.map d1).length+(((range Wk.length).map L).map d1).length<=100000 then Z (ai.lst<|Wk.map d1++((range Wk.length).map L).map d1) else Y)=_;rw[aJ (by rw[aZ,aZ,aZ,hR];lia),<-d9]
  have an:∀q∈Wk++(range Wk.length).map L,ue V q:=λq v=>by
   rcases dw.mp v with v|v
   ·exact bn q v
   ·let⟨a,S,rfl⟩:=cn.mp v;have bv:=fI.mp S;have ca:h[a%12]?=Z (h.getD (a%12) []):=by rw[cP,eB (show a%12<h.length by lia)];rfl
    have v:Wk[a]?=Z (Wk.getD a ([],[])):=by rw[cP,eB bv];rfl
    exact⟨hw _<|fH ca,(bn _<|fH v).2⟩
  generalize Wk++(range Wk.length).map L=rs at db an;let⟨lf,li,lm,ln⟩:=Ey (bL:=bL) (j:=j) (P:=Z (.c_<|Wu.map .int)) (WC:=Z (aC n)) (WW:=Z (.lst M)) (WI:=Z (.im<|.tup [X g,X d])) (I:=Z (av aq)) (W6:=Z (dy F)) (W5:=Z .dS) (Xa:=Z (.lst<|h.map az)) N ci al am be D rs x y Xi an;refine⟨lZ (Z<|.c_<|Wu.map .int) (Z<|aC n) (Z<|.lst M) V (Z<|.im<|.tup [X g,X d]) g d (Z<|av aq) (Z<|dy F) (Z<|.lst<|rs.map d1) (Z<|.lst<|h.map az) lf li lm,_,_,_,_,_,_,_,_,_,_,_,_,_,O<|bE (We:=[Z (.c_<|Wu.map .int),Z<|aC n,Z<|.lst J,Z<|av V,Z<|.im<|.tup [X g,X d],WU,R,I,W6,W5,Xa,x,y,Xi]) (hO (cw (Q:=[.aO 2,.aO 3]) rfl rfl rfl bd rfl) (eM rfl) rfl)<|gD (We:=[Z (.c_<|Wu.map .int),Z<|aC n,Z<|.lst J,Z<|av V,Z<|.im<|.tup [X g,X d],WU,R,I,W6,W5,Xa,x,y,Xi]) rfl ?_,rfl⟩;refine bE (We:=lZ (Z<|.c_<|Wu.map .int) (Z<|aC n) (Z<|.lst J) V (Z<|.im<|.tup [X g,X d]) g d I W6 W5 Xa x y Xi) rfl ?_;refine bE (We:=u J W5 Xa) (tb (cw (Q:=[.aO 3,.aO 5,.aO 6]) rfl rfl rfl go rfl) rfl) ?_;refine bE (eD (We:=u J W5 Xa) (cm<|b0 (aN<|cw (Q:=[.aO 3,.aO 5,.aO 6,.aO 7,.aO 8]) rfl rfl rfl g1 rfl) rfl rfl rfl rfl) rfl) ?_;refine bE (We:=u U (Z<|.lst<|(C.map λb=>(b,F)).map d1) Xa) (hO h0 (eM rfl) rfl) ?_;refine bE (We:=u as (Z<|.lst<|Wk.map d1) Xa) (hO (mu (We:=u U (Z<|.lst<|(C.map λb=>(b,F)).map d1) Xa) rfl (gI ii) rfl rfl cs) (eM rfl) rfl) ?_;refine bE (We:=u M (Z<|.lst<|Wk.map d1) (Z<|.lst<|h.map az)) (hO (cw (Q:=[.aO 2,.aO 3,.aO 5,.aO 6,.aO 7]) rfl rfl rfl he rfl) (eM rfl) rfl) ?_;refine bE (We:=u M (Z<|.lst<|rs.map d1) (Z<|.lst<|h.map az)) (jx (b0 rfl (aN io) rfl rfl db) (eM rfl) rfl) ?_;exact iE (o:=Z (9,.lst<|rs.map d1)) (We:=u M (Z .dS) (Z<|.lst<|h.map az)) rfl ln rfl
end
def U2(t bL j:aj)(Wu:List Int)(k:Wu.length<100000):∃J,rb t bL j [.c_ (Wu.map .int)]=Z (.im<|.ay aa,J):=by
 let⟨Wv,h,WC,WW,WQ,WI,WU,R,I,W6,W5,Xa,c,g,Xi,rfl⟩:=vI (WL:=a0 1) (d:=xg t bL j) (w:=hb 0 3) (λa y=>∃WC WW WQ WI WU R I W6 W5 Xa c g Xi,y=[Z (.c_<|Wu.map .int),WC,WW,WQ,WI,WU,R,I,W6,W5,Xa,c,g,Xi]) (y:=[Z (.c_<|Wu.map .int),Y,Y,Y,Y,Y,Y,Y,Y,Y,Y,Y,Y,Y]) ⟨Y,Y,Y,Y,Y,Y,Y,Y,Y,Y,Y,Y,Y,rfl⟩
  (λa f y b i=>by
   let⟨WC,WW,WQ,WI,WU,R,I,W6,W5,Xa,c,g,Xi,rfl⟩:=i;obtain⟨S,rfl⟩:a<3/\f=.int (0+(a:Int)):=by
    match a,b with
    |0,b=>exact⟨by decide,(Option.some.inj b).symm⟩
    |1,b=>exact⟨by decide,(Option.some.inj b).symm⟩
    |2,b=>exact⟨by decide,(Option.some.inj b).symm⟩
    |r+3,b=>cases b
   let⟨WO,l,W4,m,p,q,s,u,v,x,z,A,B,C,e,rfl⟩:=M9 (t:=t) (bL:=bL) (j:=j) (Wu:=Wu) (n:=0+(a:Int)) (WW:=WW) (WQ:=WQ) (WI:=WI) (WU:=WU) (R:=R) (I:=I) (W6:=W6) (W5:=W5) (Xa:=Xa) (x:=c) (y:=g) (Xi:=Xi) ⋯ ⋯;exact⟨[Z (.c_<|Wu.map .int),Z<|aC<|0+(a:Int),WW,WQ,WI,WU,R,I,W6,W5,Xa,c,g,Xi],.bf,_,rfl,e,.inl rfl,_,_,_,_,_,_,_,_,_,_,_,_,_,rfl⟩)
 refine⟨[.c_ (Wu.map .int)],?_⟩;unfold rb EW;exact dk (y:=[Z (.c_<|Wu.map .int),WC,WW,WQ,WI,WU,R,I,W6,W5,Xa,c,g,Xi]) rfl (bE (iE (o:=Y) (w:=hb 0 3) (We:=[Z (.c_<|Wu.map .int),Y,Y,Y,Y,Y,Y,Y,Y,Y,Y,Y,Y,Y]) rfl h rfl) rfl) rfl
end G
namespace L2
end L2
set_option maxHeartbeats 4000000
namespace K34
open L2 PyProof.Rows
variable{u o i x:aj}{t:PySem.W.OpenLaw}{h:eS}{n:Nat}{P:bH}
def du(a:Nat):cp:=(PySem.Challenge.pw_mowfloor_k34_bars_shown.main.body.getD a (.Pass ⟨0,0,0,0⟩))
structure d3(aE:aI->Option ag):Prop where
 jY:aE "all" = Y
 AW:aE "bool" = Y
 rV:aE "dict" = Y
 xT:aE "int" = Y
 i9:aE "isinstance" = Y
 e0:aE "len" = Y
 zq:aE "list" = Y
 J3:aE "max" = Y
 SS:aE "min" = Y
 qi:aE "range" = Y
 Tu:aE "reversed" = Y
 Mn:aE "set" = Y
 lJ:aE "sorted" = Y
 gE:aE "tuple" = Y
 su:aE "zip" = Y
 Fv:∃B,aE "GREATEST" = Z (.int 30 B)
 o7:∃B,aE "IN" = Z (.str "in" B)
 uU:∃B,aE "OUT" = Z (.str "out" B)
def jK:fy "all" = Z (.builtin "all"):=by decide +kernel
def Ar:fy "bool" = Z (.type "bool"):=by decide +kernel
def sD:fy "dict" = Z (.type "dict"):=by decide +kernel
def yL:fy "int" = Z (.type "int"):=by decide +kernel
def i_:fy "isinstance" = Z (.builtin "isinstance"):=by decide +kernel
def fb:fy "len" = Z (.builtin "len"):=by decide +kernel
def xw:fy "list" = Z (.type "list"):=by decide +kernel
def O1:fy "max" = Z (.builtin "max"):=by decide +kernel
def OE:fy "min" = Z (.builtin "min"):=by decide +kernel
def l1:fy "sorted" = Z (.builtin "sorted"):=by decide +kernel
def hc:fy "tuple" = Z (.type "tuple"):=by decide +kernel
def bY(a:fg n P):P.units+20<b3:=by have:=a.un;omega
def rj(a:fg n P):P.units+30<b3:=by have:=a.un;omega
abbrev Br:cp:=du 2
abbrev OA:List aI:=["thing"]
abbrev oU:cp:=du 3
abbrev MS:List aI:=["thing"]
abbrev vi:cp:=du 4
abbrev Ll:List aI:=["field","thing"]
abbrev kL:cp:=du 5
abbrev TR:List aI:=["thing"]
abbrev vj:cp:=du 6
abbrev VB:List aI:=["thing","is_kind"]
abbrev rn:cp:=du 16
abbrev LM:List aI:=["thing"]
abbrev wM:cp:=du 6
abbrev LU:List aI:=["thing","is_kind"]
abbrev wW:cp:=du 6
abbrev Q6:List aI:=["thing","is_kind"]
abbrev qB:cp:=du 7
abbrev Mo:List aI:=["things","found","thing"]
abbrev s6:cp:=du 8
abbrev Tn:List aI:=["cell","row","column"]
abbrev xe:cp:=du 9
abbrev PB:List aI:=["free","start","found","waiting","cell"]
abbrev w0:cp:=du 11
abbrev Ub:List aI:=["thing"]
abbrev r3:cp:=du 12
abbrev Un:List aI:=["thing"]
abbrev uP:cp:=du 14
abbrev Rr:List aI:=["field","thing","free"]
abbrev ve:cp:=du 17
abbrev L5:List aI:=["field","a","b"]
abbrev tB:cp:=du 18
abbrev ET:List aI:=["field","a","b","cells","shut"]
abbrev wX:cp:=du 19
abbrev Ob:List aI:=["field","a","b","ways","met","way"]
abbrev xr:cp:=du 20
abbrev TL:List aI:=["field","a","b","cells","ways"]
abbrev vX:cp:=du 27
abbrev CQ:List aI:=["ahead","spot","cell"]
abbrev zj:cp:=du 28
abbrev Up:List aI:=["ahead","a","start","came","layer","behind","spot","further"]
abbrev zI:cp:=du 29
abbrev Pz:List aI:=["ahead","came","last","spot"]
abbrev BF:cp:=du 30
abbrev Vq:List aI:=["ahead","a","last","way"]
abbrev qy:cp:=du 31
abbrev Bx:List aI:=["field","a","b","ahead","lasts","came","cells","ways"]
abbrev wD:cp:=du 33
abbrev U0:List aI:=["_law_script","_law_turn","_law_seed","_law_cell","_law_bound"]
abbrev Bz:cp:=du 34
abbrev K6:List aI:=["_law_left_here","_law_many","_law_digit","_law_mixed"]
abbrev Bp:cp:=du 35
abbrev SQ:List aI:=["_law_cell"]
abbrev xB:cp:=du 36
abbrev Rh:List aI:=["_law_some","_law_begin","_law_there","_law_met","_law_waiting","_law_other"]
abbrev xM:cp:=du 37
abbrev J1:List aI:=["_law_left_here","_law_most","_law_cells","_law_k","_law_other"]
abbrev q3:cp:=du 38
abbrev Ah:List aI:=["_law_left_here","_law_most","_law_way","_law_wide","_law_high","_law_cells","_law_k","_law_part_here","_law_row","_law_column"]
abbrev ym:cp:=du 39
abbrev Ry:List aI:=["_law_field_here","_law_thing","_law_cell"]
abbrev sX:cp:=du 40
abbrev EI:List aI:=["_law_left_here","_law_field_here","_law_a","_law_some"]
abbrev wi:cp:=du 41
abbrev IW:List aI:=["_law_field_here","_law_a","_law_b","_law_cells"]
abbrev yj:cp:=du 42
abbrev UA:List aI:=["_law_field_here","_law_thing"]
abbrev yH:cp:=du 43
abbrev NT:List aI:=["_law_field_here","_law_a","_law_b","_law_ways","_law_within","_law_way"]
abbrev vW:cp:=du 44
abbrev Nn:List aI:=["_law_field_here","_law_a","_law_b","_law_cells","_law_ways"]
abbrev uZ:cp:=du 45
abbrev Vk:List aI:=["_law_left_here","_law_field_here","_law_a","_law_b","_law_cells","_law_cell","_law_at","_law_some"]
abbrev ug:cp:=du 46
abbrev U6:List aI:=["_law_left_here","_law_field_here","_law_ways","_law_at","_law_way","_law_spot","_law_others","_law_other","_law_some"]
abbrev Bg:cp:=du 47
abbrev KU:List aI:=["_law_script","_law_turn","_law_left_here","_law_field_here","_law_two","_law_a","_law_b","_law_cells","_law_ways","_law_papers","_law_spoilt","_law_some","_law_others","_law_found"]
section
variable{T:bS}{l:bA}{V8:Φ}{aE:aI->Option ag}{Wi:a_}
abbrev C7(h:eS)(x:aj):Prop:=fj h 1 "is_whole" Br x ["thing"] 1 G.qX
def NQ(N:dF h.K h.aE "is_whole" Br x ["thing"])(F:d3 h.aE):C7 h x:=by
 refine d6 OA N λao M P WX j m Wa a=>?_;exact (bN<|cK<|hs (eK<|iT rfl F.i9 i_ rfl F.xT yL<|ak 0)<|eK<|k4<|DZ<|eK<|iT rfl F.i9 i_ rfl F.AW Ar<|ak 0)
abbrev vr(h:eS)(x:aj):Prop:=fj h 2 "is_pair" oU x ["thing"] 1 G.iO
def Rb(N:dF h.K h.aE "is_pair" oU x ["thing"])(F:d3 h.aE){c:aj}(b:C7 h c):vr h x:=by
 refine d6 MS N λao M P WX j m Wa a=>?_;exact (bN<|cK<|hs (eK<|iT rfl F.i9 i_ rfl F.gE hc<|ak 0)<|hs (eK<|gO (hU<|bY a) (aM<|cY fo F.e0 fb<|a3<|ak 0) bh<|dU _)<|hs (eK<|cb b a<|a3<|dt a (ak 0) bh)<|eK<|k4<|cb b a<|a3<|dt a (ak 0) bh)
abbrev VA(h:eS)(x:aj):Prop:=fj h 3 "is_of" vi x ["field","thing"] 2 G.q5
def RV(N:dF h.K h.aE "is_of" vi x ["field","thing"])(F:d3 h.aE){b:aj}(c:vr h b):VA h x:=by
 refine d6 Ll N λao M P WX j m Wa a=>?_;exact (bN<|cK<|hs (eK<|cb c a<|a3<|ak 1)<|eK<|k4<|gO (i7<|bY a) (ak 1) (ak 0) rfl)
abbrev PA(h:eS)(x:aj):Prop:=fj h 3 "is_cell" kL x ["thing"] 1 G.kh
def S_(N:dF h.K h.aE "is_cell" kL x ["thing"])(F:d3 h.aE){b:aj}(c:vr h b):PA h x:=by
 refine d6 TR N λao M P WX j m Wa a=>?_;exact (bN<|cK<|hs (eK<|cb c a<|a3<|ak 0)<|hs (eK<|ES nP nP bh (dt a (ak 0) bh)<|aM<|DO rfl F.Fv.choose_spec)<|eK<|k4<|ES nP nP bh (dt a (ak 0) bh)<|aM<|DO rfl F.Fv.choose_spec)
def MV(N:dF V8 aE "is_rising" vj x ["thing","is_kind"])(F:d3 aE){a:aj}(aL:cH T l V8 aE Wi 3 "is_cell" kL a ["thing"] 1 G.kh):
  cH T l V8 aE Wi 4 "is_rising" vj x ["thing","is_kind"] 2 (G.sm a):=by
 refine d6 VB N λao M P WX j m Wa b=>?_;exact (bC (eA (eZ.gx<|fU (gb<|fC<|aM<|iT rfl F.i9 i_ rfl F.gE hc<|ak 0)<|hX<|gb<|fC<|aM<|cY (jJ rfl) F.jY jK<|a3<|aM<|f5 ["part"] [1] (es<|ak 0) (λWt=>(ef 0))<|λWt=>(Bq aL b (dh 1)<|a3<|ak 0)) (bN<|cK e5) eN)<|bN<|cK<|cY (jJ rfl) F.jY jK<|a3<|aM<|f5 ["ahead" ,"behind"] [] (sO rfl F.su<|b9 (ak 0)<|aM<|ff (ak 0) (eV eW) fJ) (λWt=>(nL (ef 0)<|ef 1))<|λWt=>(gO (zO<|bY b) (ak 0) (ak 1)<|dU _))
abbrev S2(h:eS)(x:aj):Prop:=fj h 3 "is_way_like" rn x ["thing"] 1 G.oZ
def Ki(N:dF h.K h.aE "is_way_like" rn x ["thing"])(F:d3 h.aE){a:aj}(b:vr h a):S2 h x:=by
 refine d6 LM N λao M P WX j m Wa c=>?_;exact (bN<|cK<|hs (eK<|iT rfl F.i9 i_ rfl F.gE hc<|ak 0)<|eK<|k4<|cY (jJ rfl) F.jY jK<|a3<|aM<|f5 ["part"] [] (es<|ak 0) (λWt=>(ef 0))<|λWt=>(cb b c<|a3<|ak 0))
def Su(N:dF V8 aE "is_rising" wM x ["thing","is_kind"])(F:d3 aE){a:aj}(c:cH T l V8 aE Wi 3 "is_way_like" rn a ["thing"] 1 G.oZ):
  cH T l V8 aE Wi 4 "is_rising" wM x ["thing","is_kind"] 2 (G.qe a):=by
 refine d6 LU N λao M P WX j m Wa b=>?_;exact (bC (eA (eZ.gx<|fU (gb<|fC<|aM<|iT rfl F.i9 i_ rfl F.gE hc<|ak 0)<|hX<|gb<|fC<|aM<|cY (jJ rfl) F.jY jK<|a3<|aM<|f5 ["part"] [1] (es<|ak 0) (λWt=>(ef 0))<|λWt=>(Bq c b (dh 1)<|a3<|ak 0)) (bN<|cK e5) eN)<|bN<|cK<|cY (jJ rfl) F.jY jK<|a3<|aM<|f5 ["ahead" ,"behind"] [] (sO rfl F.su<|b9 (ak 0)<|aM<|ff (ak 0) (eV eW) fJ) (λWt=>(nL (ef 0)<|ef 1))<|λWt=>(gO (zO<|bY b) (ak 0) (ak 1)<|dU _))
def ON(N:dF V8 aE "is_rising" wW x ["thing","is_kind"])(F:d3 aE){a:aj}(c:cH T l V8 aE Wi 2 "is_pair" oU a ["thing"] 1 G.iO):
  cH T l V8 aE Wi 3 "is_rising" wW x ["thing","is_kind"] 2 (G.rp a):=by
 refine d6 Q6 N λao M P WX j m Wa b=>?_;exact (bC (eA (eZ.gx<|fU (gb<|fC<|aM<|iT rfl F.i9 i_ rfl F.gE hc<|ak 0)<|hX<|gb<|fC<|aM<|cY (jJ rfl) F.jY jK<|a3<|aM<|f5 ["part"] [1] (es<|ak 0) (λWt=>(ef 0))<|λWt=>(Bq c b (dh 1)<|a3<|ak 0)) (bN<|cK e5) eN)<|bN<|cK<|cY (jJ rfl) F.jY jK<|a3<|aM<|f5 ["ahead" ,"behind"] [] (sO rfl F.su<|b9 (ak 0)<|aM<|ff (ak 0) (eV eW) fJ) (λWt=>(nL (ef 0)<|ef 1))<|λWt=>(gO (zO<|bY b) (ak 0) (ak 1)<|dU _))
abbrev EH(h:eS)(x:aj):Prop:=fj h 1 "lookup" qB x ["things"] 1 G.hu
def J8(N:dF h.K h.aE "lookup" qB x ["things"])(F:d3 h.aE):EH h x:=by
 refine d6 Mo N λao M P WX j m Wa a=>?_;exact (bC (dG 1 ao Qm) (bC (jB (W8:=[0]) g5 rfl (es<|ak 0) (h7 2 ao) (bN<|k0 e5<|nT (dh 1) (fw<|dh 2)<|sj<|bY a) ∅ (q_ ∅))<|bN<|cK<|fw<|dh 1))
abbrev w1(h:eS)(x:aj):Prop:=fj h 1 "around" s6 x ["cell"] 1 G.kD
def UI(N:dF h.K h.aE "around" s6 x ["cell"])(F:d3 h.aE):w1 h x:=by
 refine d6 Tn N λao M P WX j m Wa a=>?_;exact (bC (dG 1 ao<|jQ a (ak 0) bh) (bC (dG 2 ao<|jQ a (ak 0) bh) (bN (cK (gp (by exact (fi (fO (by exact (b9 (cN xl (ak 1) bh)<|ak 2))) (by exact (gA (fO (by exact (b9 (ak 1)<|cN xl (ak 2) bh))) (fO (by exact (b9 (ak 1)<|cN dB (ak 2) bh))) (fO (by exact (b9 (cN dB (ak 1) bh)<|ak 2))))))))))))
abbrev HO(h:eS)(x:aj):Prop:=fj h 2 "reached" xe x ["free","start"] 2 G.n0
def MT(N:dF h.K h.aE "reached" xe x ["free","start"])(F:d3 h.aE){b:aj}(c:w1 h b):HO h x:=by
 refine d6 PB N λao M P WX j m Wa a=>?_;exact (bC (dG 2 ao<|xH (bY a) (fw<|dh 1) e5) (bC (dG 3 ao (gp (by exact (a3<|ak 1)))) (bC (qC 1000000 g5 (fC<|ak 3) (bN (jB (W8:=[0,1]) g5 rfl (es<|aM<|cb c a<|a3<|aM<|Dl kf ka yV BC Gs<|dh 3) (h7 4 ao) (bN<|eA (eZ.gx<|pU (dr (i7<|bY a) (ak 4) (ak 0) rfl)<|rZ<|dr (jk<|bY a) (ak 4) (ak 2) rfl) (bC (k0 e5<|nT (dh 2) (fw<|dh 4)<|sj<|bY a)<|bN<|kS<|lC kf ka oa nf nr (dh 3)<|a3<|ak 4) eN) ∅ r_)))<|bN<|cK<|hp ll rfl F.gE hc<|a3<|aM<|cY (qT rfl<|bY a) F.lJ l1<|a3<|ak 2)))
def Tp(N:dF V8 aE "is_floor" w0 x ["thing"])(F:d3 aE){a:aj}(aL:cH T l V8 aE Wi 3 "is_cell" kL a ["thing"] 1 G.kh){b:aj}(c:cH T l V8 aE Wi 4 "is_rising" vj b ["thing","is_kind"] 2 (G.sm a)):
  cH T l V8 aE Wi 5 "is_floor" w0 x ["thing"] 1 (G.q4 a):=by
 refine d6 Ub N λao M P WX j m Wa d=>?_;exact (bN<|cK<|cb c d<|b9 (ak 0)<|aM<|xJ rfl aL.m)
def T3(N:dF V8 aE "is_field" r3 x ["thing"])(F:d3 aE){b:aj}(aL:cH T l V8 aE Wi 3 "is_cell" kL b ["thing"] 1 G.kh){c:aj}(d:cH T l V8 aE Wi 5 "is_floor" w0 c ["thing"] 1 (G.q4 b)){e:aj}(f:cH T l V8 aE Wi 2 "reached" xe e ["free","start"] 2 G.n0){g:aj}(h:cH T l V8 aE Wi 1 "lookup" qB g ["things"] 1 G.hu):
  cH T l V8 aE Wi 6 "is_field" r3 x ["thing"] 1 (G.gT b):=by
 refine d6 Un N λao M P WX j m Wa a=>?_;exact (bC (eA (eZ.gx<|fU (gb<|fC<|aM<|cb d a<|a3<|ak 0)<|hX<|dr (hU<|bY a) (aM<|cY fo F.e0 fb<|a3<|ak 0) bh<|dU _) (bN<|cK e5) eN)<|bN<|cK<|gO (hU<|bY a) (aM<|cY fo F.e0 fb<|a3<|aM<|cb f a<|b9 (aM<|cb h a<|a3<|ak 0)<|dt a (ak 0) bh) (aM<|cY fo F.e0 fb<|a3<|ak 0)<|dU _)
def Qi(N:dF V8 aE "is_walk" uP x ["field","thing"])(F:d3 aE){c:aj}(aL:cH T l V8 aE Wi 3 "is_cell" kL c ["thing"] 1 G.kh){d:aj}(e:cH T l V8 aE Wi 6 "is_field" r3 d ["thing"] 1 (G.gT c)){f:aj}(g:cH T l V8 aE Wi 1 "lookup" qB f ["things"] 1 G.hu){h:aj}(i:cH T l V8 aE Wi 2 "is_pair" oU h ["thing"] 1 G.iO){k:aj}(n:cH T l V8 aE Wi 1 "around" s6 k ["cell"] 1 G.kD):
  cH T l V8 aE Wi 7 "is_walk" uP x ["field","thing"] 2 (G.n7 c):=by
 refine d6 Rr N λao M P WX j m Wa b=>?_;exact (bC (eA (eZ.gx<|fU (gb<|fC<|aM<|cb e b<|a3<|ak 0)<|fU (gb<|fC<|aM<|iT rfl F.i9 i_ rfl F.gE hc<|ak 1)<|hX<|dr (hU<|bY b) (aM<|cY fo F.e0 fb<|a3<|ak 1) bh<|dU _) (bN<|cK e5) eN) (bC (jM (a:=2) ao rfl (Or.inr rfl) (cb g b<|a3<|ak 0) ∅)<|bC (eA (gb<|fC<|aM<|cY (jJ rfl) F.jY jK<|a3<|aM<|f5 ["cell"] [2] (es<|ak 1) (λWt=>(ef 0))<|λWt=>(hs (eK<|cb i b<|a3<|ak 0)<|eK<|k4<|gO (i7<|bY b) (ak 0) (ak 1) rfl)) (bN<|cK e5) eN)<|bN<|cK<|cY (jJ rfl) F.jY jK<|a3<|aM<|f5 ["ahead" ,"behind"] [] (sO rfl F.su<|b9 (ak 1)<|aM<|ff (ak 1) (eV eW) fJ) (λWt=>(nL (ef 0)<|ef 1))<|λWt=>(gO (i7<|bY b) (ak 1) (aM<|cb n b<|a3<|ak 0) rfl)))
def Vh(N:dF V8 aE "can_be_barred" ve x ["field","a","b"])(F:d3 aE){b:aj}(aL:cH T l V8 aE Wi 3 "is_cell" kL b ["thing"] 1 G.kh){d:aj}(e:cH T l V8 aE Wi 6 "is_field" r3 d ["thing"] 1 (G.gT b)){f:aj}(c:cH T l V8 aE Wi 3 "is_of" vi f ["field","thing"] 2 G.q5){g:aj}(h:cH T l V8 aE Wi 1 "around" s6 g ["cell"] 1 G.kD):
  cH T l V8 aE Wi 7 "can_be_barred" ve x ["field","a","b"] 3 (G.rD b):=by
 refine d6 L5 N λao M P WX j m Wa a=>?_;exact (bN<|cK<|hs (eK<|cb e a<|a3<|ak 0)<|hs (eK<|cb c a<|b9 (ak 0)<|ak 1)<|hs (eK<|cb c a<|b9 (ak 0)<|ak 2)<|hs (eK<|gO (lg<|bY a) (ak 1) (ak 2)<|dU _)<|eK<|k4<|gO (jk<|bY a) (ak 2) (aM<|cb h a<|a3<|ak 1) rfl)
abbrev Kk(h:eS)(x:aj):Prop:=fj h 3 "do_bar" tB x ["field","a","b","cells"] 4 G.pY
def Rl(N:dF h.K h.aE "do_bar" tB x ["field","a","b","cells"])(F:d3 h.aE){d:aj}(c:EH h d){e:aj}(f:HO h e):Kk h x:=by
 refine d6 ET N λao M P WX j m Wa b=>?_;exact (bC (jM (a:=4) ao rfl (Or.inr rfl) (cb c b<|a3<|ak 3) ∅) (bC (eA (eZ.gx<|fU (dr (i7<|bY b) (ak 1) (ak 4) rfl)<|hX<|dr (i7<|bY b) (ak 2) (ak 4) rfl) (bN<|cK e5) eN) (bN (cK (gO (jk<|bY b) (ak 2) (aM (cb f b (b9 (aM (cb c b (a3 (aM (xa (own:=["cell"]) (WH:=[4]) rfl (mP (ek tB) ET (by decide +kernel)) ∅ (es<|ak 0) (λWt=>(ef 0)) (λWt=>(qJ<|dr (jk<|bY b) (ak 0) (ak 1) rfl))<|λWt=>(fw<|dh 0))))))<|ak 1))) rfl)))))
def Rg(N:dF V8 aE "are_ways_apart" wX x ["field","a","b","ways"])(F:d3 aE){b:aj}(aL:cH T l V8 aE Wi 3 "is_cell" kL b ["thing"] 1 G.kh){c:aj}(d:cH T l V8 aE Wi 7 "is_walk" uP c ["field","thing"] 2 (G.n7 b)){e:aj}(f:cH T l V8 aE Wi 1 "lookup" qB e ["things"] 1 G.hu):
  cH T l V8 aE Wi 8 "are_ways_apart" wX x ["field","a","b","ways"] 4 (G.rv b):=by
 refine d6 Ob N λao M P WX j m Wa a=>?_;exact (bC (dG 4 ao (gp (by exact (b9 (ak 1)<|ak 2)))) (bC (jB (W8:=[0,1,2,3]) g5 rfl (es<|ak 3) (h7 5 ao) (bC (eA (eZ.gx<|fU (gb<|fC<|aM<|cb d a<|b9 (ak 0)<|ak 5)<|fU (dr (lg<|bY a) (dt a (ak 5) bh) (ak 1)<|dU _)<|hX<|dr (lg<|bY a) (dt a (ak 5)<|aM<|jF eW) (ak 2)<|dU _) (bN<|cK e5) eN)<|bN<|kS<|lC kf ka PySem.F.slot_list_extend PySem.F.type_list_extend Pu (dh 4)<|a3<|aM<|ff (ak 5) (eV eW)<|eV<|jF eW) ∅ (q_ ∅))<|bN<|cK<|gO (hU<|bY a) (aM<|cY If F.e0 fb<|a3<|aM<|cb f a<|a3<|ak 4) (aM<|cY fo F.e0 fb<|a3<|ak 4)<|dU _))
def Q0(N:dF V8 aE "shows_barred" xr x ["field","a","b","cells","ways"])(F:d3 aE){b:aj}(aL:cH T l V8 aE Wi 3 "is_cell" kL b ["thing"] 1 G.kh){c:aj}(e:cH T l V8 aE Wi 2 "is_pair" oU c ["thing"] 1 G.iO){d:aj}(f:cH T l V8 aE Wi 3 "is_way_like" rn d ["thing"] 1 G.oZ){g:aj}(h:cH T l V8 aE Wi 7 "can_be_barred" ve g ["field","a","b"] 3 (G.rD b)){i:aj}(n:cH T l V8 aE Wi 3 "is_rising" wW i ["thing","is_kind"] 2 (G.rp c)){o:aj}(p:cH T l V8 aE Wi 4 "is_rising" wM o ["thing","is_kind"] 2 (G.qe d)){q:aj}(r:cH T l V8 aE Wi 3 "do_bar" tB q ["field","a","b","cells"] 4 G.pY){s:aj}(t:cH T l V8 aE Wi 8 "are_ways_apart" wX s ["field","a","b","ways"] 4 (G.rv b)):
  cH T l V8 aE Wi 9 "shows_barred" xr x ["field","a","b","cells","ways"] 5 (G.ov b c d):=by
 refine d6 TL N λao M P WX j m Wa a=>?_;exact (bC (eA (eZ.gx<|fU (gb<|fC<|aM<|cb h a<|gA (ak 0) (ak 1)<|ak 2)<|fU (gb<|fC<|aM<|cb n a<|b9 (ak 3)<|aM<|xJ rfl e.m)<|hX<|gb<|fC<|aM<|cb p a<|b9 (ak 4)<|aM<|xJ rfl f.m) (bN<|cK e5) eN) (bN (cK (hs (eK<|gO (hU<|bY a) (aM<|cY fo F.e0 fb<|a3<|ak 3) (aM<|cY fo F.e0 fb<|a3<|ak 4)<|dU _) (hs (eK (cb r a (fi (ak 0) (by exact (gA (ak 1) (ak 2)<|ak 3))))) (eK (k4 (cb t a (fi (ak 0) (by exact (gA (ak 1) (ak 2)<|ak 4)))))))))))
abbrev GI(h:eS)(x:aj):Prop:=fj h 2 "onward" vX x ["ahead","spot"] 2 G.qz
def PK(N:dF h.K h.aE "onward" vX x ["ahead","spot"])(F:d3 h.aE){b:aj}(c:w1 h b):GI h x:=by
 refine d6 CQ N λao M P WX j m Wa a=>?_;exact (bC (dG 2 ao<|jQ a (ak 1) bh) (bC (eA (dr (hU<|bY a) (dt a (ak 1) bh) (aM<|lh rfl F.o7.choose_spec)<|dU _) (bN (cK (gp (by exact (a3 (fO (by exact (b9 (dt a (ak 0)<|ak 2)<|aM<|lh rfl F.uU.choose_spec)))))))) eN) (bN (cK (fA dB (aM (gp (by exact (a3 (fO (by exact (b9 (ak 2)<|aM<|lh rfl F.o7.choose_spec))))))) (aM (xa (own:=["beside"]) (WH:=[0]) rfl (mP (ek vX) CQ (by decide +kernel)) ∅ (es<|aM<|cb c a<|a3<|ak 2) (λWt=>(ef 0)) (λWt=>(qJ<|dr (i7<|bY a) (ak 0) (ak 1) rfl)) (λWt=>(iG (by exact (b9 (ak 0)<|aM<|lh rfl F.o7.choose_spec)))))))))))
abbrev GZ(h:eS)(x:aj):Prop:=fj h 3 "search" zj x ["ahead","a"] 2 G.tq
def Mw(N:dF h.K h.aE "search" zj x ["ahead","a"])(F:d3 h.aE){b:aj}(c:GI h b):GZ h x:=by
 refine d6 Up N λao M P WX j m Wa a=>?_;exact (bC (dG 2 ao (iG (by exact (b9 (ak 1)<|aM<|lh rfl F.uU.choose_spec)))) (bC (dG 3 ao<|xH (bY a) (fw<|dh 2) wY) (bC (dG 4 ao (gp (by exact (a3<|ak 2)))) (bC (qC 1000000 g5 (fC<|ak 4) (bC (dG 5 ao (gp (by exact nU))) (bC (jB (W8:=[4,0,1]) g5 rfl (es<|ak 4) (h7 6 ao) (bN (jB (W8:=[4,0,1]) g5 rfl (es<|aM<|cb c a<|b9 (ak 0)<|ak 6) (h7 7 ao) (bN<|eA (dr (jk<|bY a) (ak 7) (ak 3) rfl) (bC (k0 (fw<|dh 6)<|nT (dh 3) (fw<|dh 7)<|sj<|bY a)<|bN<|kS<|lC kf ka oa nf nr (dh 5)<|a3<|ak 7) eN) ∅ r_)) ∅ (q_ ∅))<|bN<|dG 4 ao<|fw<|dh 5)))<|bN<|cK<|fw<|dh 3))))
abbrev Ci(h:eS)(x:aj):Prop:=fj h 1 "lay_way" zI x ["ahead","came","last"] 3 G.sH
def Km(N:dF h.K h.aE "lay_way" zI x ["ahead","came","last"])(F:d3 h.aE):Ci h x:=by
 refine d6 Pz N λao M P WX j m Wa a=>?_;exact (bC (dG 3 ao (iG (by exact (b9 (ak 2)<|aM<|lh rfl F.uU.choose_spec))))<|bN<|qC 1000000 g5 (dr yi (dt a (ak 1)<|ak 3) (aM wY)<|dU _)<|bC (eA (dr (hU<|bY a) (dt a (ak 3) bh) (aM<|lh rfl F.o7.choose_spec)<|dU _) (bN<|k0 (jQ a (dt a (ak 1)<|ak 3) bh)<|nT (dh 0) (jQ a (ak 3) bh)<|sj<|bY a) eN)<|bN<|dG 3 ao<|jQ a (ak 1)<|ak 3)
abbrev JI(h:eS)(x:aj):Prop:=fj h 1 "way_back" BF x ["ahead","a","last"] 3 G.rx
def To(N:dF h.K h.aE "way_back" BF x ["ahead","a","last"])(F:d3 h.aE):JI h x:=by
 refine d6 Vq N λao M P WX j m Wa a=>?_;exact (bC (dG 3 ao (gp (by exact (a3<|ak 2))))<|bC (qC 1000000 g5 (dr (lg<|bY a) (dt a (ak 3)<|aM<|jF eW) (ak 1)<|dU _)<|bN<|kS<|lC kf ka oa nf nr (dh 3)<|a3<|dt a (ak 0)<|dt a (ak 3)<|aM<|jF eW)<|bN<|cK<|fw<|dh 3)
abbrev J_(h:eS)(x:aj):Prop:=fj h 4 "barred" qy x ["field","a","b"] 3 G.p3
def Oe(N:dF h.K h.aE "barred" qy x ["field","a","b"])(F:d3 h.aE){d:aj}(e:w1 h d){f:aj}(c:GZ h f){g:aj}(i:Ci h g){k:aj}(l:JI h k):J_ h x:=by
 refine d6 Bx N λao M P WX j m Wa b=>?_;exact (bC (eA (eZ.gx<|fU (dr (hU<|bY b) (ak 1) (ak 2)<|dU _)<|hX<|dr (i7<|bY b) (ak 2) (aM<|cb e b<|a3<|ak 1) rfl) (bN VF) eN) (bC (jM (a:=3) ao rfl (Or.inr rfl) (hp (rK rfl<|rj b) rfl F.rV sD (a3 (aM (f5 ["cell"] [] (es<|ak 0) (λWt=>(ef 0)) (λWt=>(iG (by exact (b9 (ak 0)<|ak 0)))))))) ∅) (bC (dG 4 ao (gp (by exact nU))) (bC (jM (a:=5) ao rfl (Or.inr rfl) (cb c b<|b9 (ak 3)<|ak 1) ∅) (bC (qC 1000000 g5 (dr (i7<|bY b) (fO (by exact (b9 (ak 2)<|aM<|lh rfl F.o7.choose_spec))) (ak 5) rfl) (bC (kS (lC kf ka oa nf nr (dh 4) (a3 (dt b (dt b (ak 5) (fO (by exact (b9 (ak 2)<|aM<|lh rfl F.o7.choose_spec)))) bh)))) (bC (kS<|cb i b<|gA (ak 3) (ak 5)<|dt b (ak 4)<|aM<|jF eW) (bN (jM (a:=5) ao rfl (Or.inr rfl) (cb c b<|b9 (ak 3)<|ak 1) ∅))))) (bC (tT (a:=6) (own:=["cell"]) (WH:=[5]) ao rfl (Or.inl rfl) rfl (mP (ek qy) Bx (by decide +kernel)) ∅ (es<|ak 0) (λWt=>(ef 0)) (λWt=>(qJ (eZ.gx (pU (dr (i7<|bY b) (fO (by exact (b9 (ak 0)<|aM<|lh rfl F.o7.choose_spec))) (ak 1) rfl) (rZ (dr (jk<|bY b) (fO (by exact (b9 (ak 0)<|aM<|lh rfl F.uU.choose_spec))) (ak 1) rfl)))))) (λWt=>(fw<|dh 0)) ∅) (bC (tT (a:=7) (own:=["last"]) (WH:=[2,3,1]) ao rfl (Or.inl rfl) rfl (mP (ek qy) Bx (by decide +kernel)) ∅ (es<|ak 4) (λWt=>(ef 0)) (λWt=>yh) (λWt=>(NY rfl F.gE rfl F.Tu (a3 (cN dB (aM (gp (by exact (a3<|ak 1))))<|aM<|cb l b<|gA (ak 2) (ak 3)<|ak 0)))) ∅) (bN (cK (iG (by exact (b9 (aM<|hp ll rfl F.gE hc<|a3<|ak 6)<|aM<|hp ll rfl F.gE hc<|a3<|aM<|cY (qT rfl<|bY b) F.lJ l1<|a3<|ak 7))))))))))))
abbrev Uj(h:eS)(x:aj):Prop:=fj h 1 "_law_left" wD x ["_law_script","_law_turn"] 2 G.o6
def Tb(N:dF h.K h.aE "_law_left" wD x ["_law_script","_law_turn"])(F:d3 h.aE):Uj h x:=by
 refine d6 U0 N λao M P WX j m Wa a=>?_;exact (bC (dG 2 ao<|fA dB bh<|cN lO bh<|ak 1) (bC (jB (W8:=[0,1]) g5 rfl (es<|aM<|ff (ak 0) fJ<|eV eW) (h7 3 ao) (bN<|dG 2 ao<|fA jr (cN dB (cN dB (cN lO (ak 2) bh)<|cN jr (ak 3) bh) bh) bh) ∅ r_) (bC (dG 3 ao<|Rt (dr A1 (aM<|cY fo F.e0 fb<|a3<|ak 0) bh<|dU _) (jQ a (ak 0)<|cN jr (ak 1)<|aM<|cY fo F.e0 fb<|a3<|ak 0) eW) (bC (dG 4 ao<|fA lO (cN lO (cN um bh bh)<|cN um bh bh)<|cN um bh bh) (bN (cK (gp (by exact (gA (cN lO (cN jr (ak 3)<|ak 4)<|aM<|hp O6 rfl F.xT yL<|a3<|aM<|gO OV (ak 3) (cN um bh bh)<|dU _) (ak 2) bh)))))))))
abbrev qM(h:eS)(x:aj):Prop:=fj h 1 "_law_pick" Bz x ["_law_left_here","_law_many"] 2 G.fP
def Nt(N:dF h.K h.aE "_law_pick" Bz x ["_law_left_here","_law_many"])(F:d3 h.aE):qM h x:=by
 refine d6 K6 N λao M P WX j m Wa a=>?_;exact (bC (eA (dr A1 (dt a (ak 0) bh) bh<|dU _) (bC (dG 2 ao<|fA jr (dt a (ak 0) bh)<|ak 1)<|bC (k0 (fA rY (dt a (ak 0) bh)<|ak 1)<|nT (dh 0) eW<|x9<|bY a)<|bN<|cK<|fw<|dh 2) eN)<|bC (k0 (fA dB (dt a (ak 0) bh) bh)<|nT (dh 0) eW<|x9<|bY a)<|bC (dG 3 ao<|fA jr (cN lO (cN dB (dt a (ak 0) bh)<|cN lO (dt a (ak 0) bh) bh) bh) bh)<|bC (k0 (fA jr (cN lO (ak 3)<|cN dB (cN jr (ak 3) bh) bh) bh)<|nT (dh 0) eW<|x9<|bY a)<|bN<|cK<|fA jr (cN rY (dt a (ak 0) bh) bh)<|ak 1)
abbrev p9(h:eS)(x:aj):Prop:=fj h 1 "_law_beside" Bp x ["_law_cell"] 1 G.kj
def Ox(N:dF h.K h.aE "_law_beside" Bp x ["_law_cell"])(F:d3 h.aE):p9 h x:=by
 refine d6 SQ N λao M P WX j m Wa a=>?_;exact (bN (cK (gp (by exact (fi (fO (by exact (b9 (cN xl (dt a (ak 0) bh) bh)<|dt a (ak 0) bh))) (by exact (gA (fO (by exact (b9 (dt a (ak 0) bh)<|cN xl (dt a (ak 0) bh) bh))) (fO (by exact (b9 (dt a (ak 0) bh)<|cN dB (dt a (ak 0) bh) bh))) (fO (by exact (b9 (cN dB (dt a (ak 0) bh) bh)<|dt a (ak 0) bh))))))))))
abbrev xC(h:eS)(x:aj):Prop:=fj h 2 "_law_part" xB x ["_law_some","_law_begin"] 2 G.t6
def K_(N:dF h.K h.aE "_law_part" xB x ["_law_some","_law_begin"])(F:d3 h.aE){b:aj}(c:p9 h b):xC h x:=by
 refine d6 Rh N λao M P WX j m Wa a=>?_;exact (bC (dG 2 ao (hp (rK rfl<|rj a) rfl F.rV sD (a3 (aM (f5 ["_law_cell"] [] (es<|ak 0) (λWt=>(ef 0)) (λWt=>(iG (by exact (b9 (ak 0)<|aM e5))))))))) (bC (dG 3 ao<|xH (bY a) (fw<|dh 1) e5) (bC (dG 4 ao (gp (by exact (a3<|ak 1)))) (bC (qC 1000000 g5 (dr (lg<|bY a) (ak 4) (aM (gp (by exact nU)))<|dU _) (bN (jB (W8:=[0,1]) g5 rfl (es<|aM<|cb c a<|a3<|aM<|Dl kf ka yV BC Gs<|dh 4) (h7 5 ao) (bN<|eA (eZ.gx<|pU (dr (i7<|bY a) (ak 5) (ak 2) rfl)<|rZ<|dr (jk<|bY a) (ak 5) (ak 3) rfl) (bC (k0 e5<|nT (dh 3) (fw<|dh 5)<|sj<|bY a)<|bN<|kS<|lC kf ka oa nf nr (dh 4)<|a3<|ak 5) eN) ∅ r_)))<|bN<|cK<|hp ll rfl F.gE hc<|a3<|aM<|cY (qT rfl<|bY a) F.lJ l1<|a3<|ak 3))))
abbrev JU(h:eS)(x:aj):Prop:=fj h 2 "_law_grown" xM x ["_law_left_here","_law_most"] 2 G.qt
def Vn(N:dF h.K h.aE "_law_grown" xM x ["_law_left_here","_law_most"])(F:d3 h.aE){c:aj}(b:qM h c){d:aj}(e:p9 h d):JU h x:=by
 refine d6 J1 N λao M P WX j m Wa a=>?_;exact (bC (dG 2 ao (gp (by exact (a3 (fO (by exact (b9 bh bh))))))) (bC (jB (W8:=[0,1]) g5 rfl (rz rfl F.qi<|a3<|aM<|cb b a<|b9 (ak 0)<|ak 1) (h7 3 ao) (bC (dG 4 ao<|jQ a (aM<|cb e a<|a3<|dt a (ak 2)<|aM<|cb b a<|b9 (ak 0)<|aM<|cY fo F.e0 fb<|a3<|ak 2)<|aM<|cb b a<|b9 (ak 0) bh)<|bN<|eA (eZ.gx<|pU (dr (jk<|bY a) (ak 4) (ak 2) rfl)<|pU (Jc nP nP bh (dt a (ak 4) bh) bh)<|rZ<|Jc nP nP bh (dt a (ak 4) bh) bh) (bN<|kS<|lC kf ka oa nf nr (dh 2)<|a3<|ak 4) eN) ∅ Bd)<|bN<|cK<|fw<|dh 2))
abbrev Kd(h:eS)(x:aj):Prop:=fj h 3 "_law_field" q3 x ["_law_left_here","_law_most"] 2 G.pD
def UZ(N:dF h.K h.aE "_law_field" q3 x ["_law_left_here","_law_most"])(F:d3 h.aE){d:aj}(c:qM h d){e:aj}(f:JU h e){g:aj}(i:xC h g):Kd h x:=by
 refine d6 Ah N λao M P WX j m Wa b=>?_;exact (bC (dG 2 ao<|cb c b<|b9 (ak 0) bh) (bC (jM (a:=3) ao rfl (Or.inr rfl) (fA dB bh<|aM<|cb c b<|b9 (ak 0) bh) ∅) (bC (dG 4 ao<|fA dB bh<|aM<|cb c b<|b9 (ak 0)<|aM<|cY (UY rfl<|bY b) F.J3 O1<|b9 bh<|aM<|cY (NP rfl<|bY b) F.SS OE<|b9 bh<|cN rY (ak 1)<|ak 3) (bC (tT (a:=5) (own:=["_law_k"]) (WH:=[3]) ao rfl (Or.inl rfl) rfl (mP (ek q3) Ah (by decide +kernel)) ∅ (rz rfl F.qi<|a3<|cN lO (ak 4)<|ak 3) (λWt=>(ef 0)) (λWt=>yh) (λWt=>(iG (by exact (b9 (cN rY (ak 0)<|ak 1)<|cN jr (ak 0)<|ak 1)))) ∅) (bC (eA (eZ.gx<|fU (dr (hU<|bY b) (ak 2) bh<|dU _)<|hX<|dr (hU<|bY b) (ak 2) bh<|dU _) (bN (jB (W8:=[0,1]) g5 rfl (rz rfl F.qi<|a3<|aM<|cb c b<|b9 (ak 0)<|cN dB bh<|cN rY (aM<|cY fo F.e0 fb<|a3<|ak 5) bh) (h7 6 ao) (bN<|kS<|lC kf ka yV BC Po (dh 5)<|a3<|aM<|cb c b<|b9 (ak 0)<|aM<|cY fo F.e0 fb<|a3<|ak 5) ∅ Bd)) (bN (eA (dr (hU<|bY b) (ak 2) bh<|dU _) (bN (tT (a:=5) (own:=["_law_cell"]) (WH:=[]) ao rfl (Or.inl rfl) rfl (mP (ek q3) Ah (by decide +kernel)) ∅ (es<|ak 5) (λWt=>(ef 0)) (λWt=>(qJ<|dr (hU<|bY b) (cN lO (cN jr (dt b (ak 0) bh) bh)<|cN jr (cN jr (dt b (ak 0) bh) bh) bh) bh<|dU _)) (λWt=>(fw<|dh 0)) ∅))<|bN<|eA (dr A1 (ak 2) bh<|dU _) (bN<|dG 5 ao<|cb f b<|b9 (ak 0)<|ak 1) eN))) (bC (dG 7 ao<|cb i b<|b9 (ak 5)<|dt b (ak 5)<|aM<|cb c b<|b9 (ak 0)<|aM<|cY fo F.e0 fb<|a3<|ak 5) (bC (k0 (f5 ["_law_k"] [0] (rz rfl F.qi<|a3 bh) (λWt=>(ef 0)) (λWt=>(jQ b (aM (gp (by exact (fi bh (by exact (gA bh bh bh))))))<|aM<|cb c b<|b9 (ak 1) bh))) (J5 rfl (uA (qO (a:=8) ao rfl (Or.inr rfl) ∅) (uA (qO (a:=9) ao rfl (Or.inr rfl) ∅) C3)))) (bN (cK (hp ll rfl F.gE hc (a3 (aM (f5 ["_law_cell"] [8,9] (es<|ak 7) (λWt=>(ef 0)) (λWt=>(iG (by exact (b9 (cN dB (dt b (ak 0) bh)<|ak 1)<|cN dB (dt b (ak 0) bh)<|ak 2)))))))))))))))))
abbrev yt(h:eS)(x:aj):Prop:=fj h 2 "_law_is_walk" ym x ["_law_field_here","_law_thing"] 2 G.rB
def PM(N:dF h.K h.aE "_law_is_walk" ym x ["_law_field_here","_law_thing"])(F:d3 h.aE){b:aj}(c:p9 h b):yt h x:=by
 refine d6 Ry N λao M P WX j m Wa a=>?_;exact (bC (eA (eZ.gx<|fU (gb<|fC<|aM<|iT rfl F.i9 i_ rfl F.gE hc<|ak 1)<|hX<|dr (hU<|bY a) (aM<|cY fo F.e0 fb<|a3<|ak 1) bh<|dU _) (bN<|cK e5) eN) (bC (jB (W8:=[0,1]) g5 rfl (es<|ak 1) (h7 2 ao) (bC (eA (eZ.gx<|fU (gb<|fC<|aM<|iT rfl F.i9 i_ rfl F.gE hc<|ak 2)<|fU (dr (lg<|bY a) (aM<|cY fo F.e0 fb<|a3<|ak 2) bh<|dU _)<|hX<|dr (jk<|bY a) (ak 2) (ak 0) rfl) (bN<|cK e5) eN)<|bN<|eA (gb<|fC<|aM<|cY (jJ rfl) F.jY jK<|a3<|aM<|f5 ["_law_number"] [] (es<|ak 2) (λWt=>(ef 0))<|λWt=>(hs (eK<|iT rfl F.i9 i_ rfl F.xT yL<|ak 0)<|eK<|k4<|DZ<|eK<|iT rfl F.i9 i_ rfl F.AW Ar<|ak 0)) (bN<|cK e5) eN) ∅ (q_ ∅))<|bN<|cK<|cY (jJ rfl) F.jY jK<|a3<|aM<|f5 ["_law_one" ,"_law_other"] [] (sO rfl F.su<|b9 (ak 1)<|aM<|ff (ak 1) (eV eW) fJ) (λWt=>(nL (ef 0)<|ef 1))<|λWt=>(gO (i7<|bY a) (ak 1) (aM<|cb c a<|a3<|ak 0) rfl)))
abbrev Ra(h:eS)(x:aj):Prop:=fj h 2 "_law_apart" sX x ["_law_left_here","_law_field_here"] 2 G.oX
def QV(N:dF h.K h.aE "_law_apart" sX x ["_law_left_here","_law_field_here"])(F:d3 h.aE){d:aj}(c:qM h d){e:aj}(f:p9 h e):Ra h x:=by
 refine d6 EI N λao M P WX j m Wa b=>?_;exact (bC (jM (a:=2) ao rfl (Or.inr rfl) (jQ b (ak 1)<|aM<|cb c b<|b9 (ak 0)<|aM<|cY fo F.e0 fb<|a3<|ak 1) ∅) (bC (tT (a:=3) (own:=["_law_cell"]) (WH:=[2]) ao rfl (Or.inl rfl) rfl (mP (ek sX) EI (by decide +kernel)) ∅ (es<|ak 1) (λWt=>(ef 0)) (λWt=>(qJ<|eZ.gx<|pU (dr (lg<|bY b) (ak 0) (ak 1)<|dU _)<|rZ<|dr (jk<|bY b) (ak 0) (aM<|cb f b<|a3<|ak 1) rfl)) (λWt=>(fw<|dh 0)) ∅) (bC (eA (dr (hU<|bY b) (ak 3) (aM (gp (by exact nU)))<|dU _) (bN<|cK wY) eN) (bN (cK (iG (by exact (b9 (ak 2)<|dt b (ak 3)<|aM<|cb c b<|b9 (ak 0)<|aM<|cY fo F.e0 fb<|a3<|ak 3))))))))
abbrev G0(h:eS)(x:aj):Prop:=fj h 3 "_law_bars" wi x ["_law_field_here","_law_a","_law_b","_law_cells"] 4 G.r0
def Pp(N:dF h.K h.aE "_law_bars" wi x ["_law_field_here","_law_a","_law_b","_law_cells"])(F:d3 h.aE){b:aj}(c:xC h b):G0 h x:=by
 refine d6 IW N λao M P WX j m Wa a=>?_;exact (bN (cK (gO (jk<|bY a) (ak 2) (aM (cb c a (b9 (aM (xa (own:=["_law_cell"]) (WH:=[3]) rfl (mP (ek wi) IW (by decide +kernel)) ∅ (es<|ak 0) (λWt=>(ef 0)) (λWt=>(qJ<|dr (jk<|bY a) (ak 0) (ak 1) rfl))<|λWt=>(fw<|dh 0)))<|ak 1))) rfl)))
abbrev Fd(h:eS)(x:aj):Prop:=fj h 3 "_law_are_cells" yj x ["_law_field_here","_law_thing"] 2 G.tx
def LP(N:dF h.K h.aE "_law_are_cells" yj x ["_law_field_here","_law_thing"])(F:d3 h.aE){b:aj}(c:yt h b):Fd h x:=by
 refine d6 UA N λao M P WX j m Wa a=>?_;exact (bC (eA (eZ.gx (fU (gb<|fC<|aM<|iT rfl F.i9 i_ rfl F.gE hc<|ak 1) (hX (gb (fC (aM (cY (jJ rfl) F.jY jK (a3 (aM (f5 ["_law_cell"] [0] (es<|ak 1) (λWt=>(ef 0)) (λWt=>(cb c a (b9 (ak 1) (fO (by exact (a3<|ak 0)))))))))))))))) (bN<|cK e5) eN) (bN (cK (gO (hU<|bY a) (aM<|hp Au rfl F.zq xw<|a3<|ak 1) (aM (cY (qT rfl<|bY a) F.lJ l1 (a3 (aM (hp (rK rfl<|rj a) rfl F.rV sD (a3 (aM (f5 ["_law_cell"] [] (es<|ak 1) (λWt=>(ef 0)) (λWt=>(iG (by exact (b9 (ak 0)<|aM e5))))))))))))<|dU _))))
abbrev C5(h:eS)(x:aj):Prop:=fj h 3 "_law_are_apart" yH x ["_law_field_here","_law_a","_law_b","_law_ways"] 4 G.rW
def RM(N:dF h.K h.aE "_law_are_apart" yH x ["_law_field_here","_law_a","_law_b","_law_ways"])(F:d3 h.aE){b:aj}(c:yt h b):C5 h x:=by
 refine d6 NT N λao M P WX j m Wa a=>?_;exact (bC (eA (eZ.gx<|fU (gb<|fC<|aM<|iT rfl F.i9 i_ rfl F.gE hc<|ak 3)<|hX<|gb<|fC<|aM<|cY (jJ rfl) F.jY jK<|a3<|aM<|f5 ["_law_way"] [0] (es<|ak 3) (λWt=>(ef 0))<|λWt=>(cb c a<|b9 (ak 1)<|ak 0)) (bN<|cK e5) eN) (bC (eA (dr (lg<|bY a) (aM<|hp Au rfl F.zq xw<|a3<|ak 3) (aM (cY (qT rfl<|bY a) F.lJ l1 (a3 (aM (hp (rK rfl<|rj a) rfl F.rV sD (a3 (aM (f5 ["_law_way"] [] (es<|ak 3) (λWt=>(ef 0)) (λWt=>(iG (by exact (b9 (ak 0)<|aM e5))))))))))))<|dU _) (bN<|cK e5) eN) (bC (dG 4 ao (gp (by exact nU))) (bC (jB (W8:=[0,1,2,3]) g5 rfl (es<|ak 3) (h7 5 ao) (bC (eA (eZ.gx<|fU (dr J9 (aM<|cY fo F.e0 fb<|a3<|ak 5) bh<|dU _)<|fU (dr (lg<|bY a) (dt a (ak 5) bh) (ak 1)<|dU _)<|hX<|dr (lg<|bY a) (dt a (ak 5)<|aM<|jF eW) (ak 2)<|dU _) (bN<|cK e5) eN)<|bN<|dG 4 ao<|fA dB (ak 4)<|aM<|hp Au rfl F.zq xw<|a3<|aM<|ff (ak 5) (eV eW)<|eV<|jF eW) ∅ (q_ ∅))<|bN<|cK<|hs (eK<|gO (hU<|bY a) (aM<|cY fo F.e0 fb<|a3<|ak 4) (aM<|TV (rj a) rfl F.e0 rfl F.Mn<|a3<|ak 4)<|dU _)<|hs (eK<|gO (jk<|bY a) (ak 1) (ak 4) rfl)<|eK<|k4<|gO (jk<|bY a) (ak 2) (ak 4) rfl))))
abbrev My(h:eS)(x:aj):Prop:=fj h 4 "_law_is_shown" vW x ["_law_field_here","_law_a","_law_b","_law_cells","_law_ways"] 5 G.r8
def S7(N:dF h.K h.aE "_law_is_shown" vW x ["_law_field_here","_law_a","_law_b","_law_cells","_law_ways"])(F:d3 h.aE){b:aj}(c:Fd h b){d:aj}(e:G0 h d){f:aj}(g:C5 h f):My h x:=by
 refine d6 Nn N λao M P WX j m Wa a=>?_;exact (bC (eA (eZ.gx (fU (gb<|fC<|aM<|cb c a<|b9 (ak 0)<|ak 3) (fU (dr (i7<|bY a) (ak 1) (ak 3) rfl) (fU (dr (i7<|bY a) (ak 2) (ak 3) rfl) (hX (gb (fC (aM (cb e a (fi (ak 0) (by exact (gA (ak 1) (ak 2)<|ak 3)))))))))))) (bN<|cK e5) eN) (bN (cK (hs (eK (cb g a (fi (ak 0) (by exact (gA (ak 1) (ak 2)<|ak 4)))))<|eK<|k4<|gO (hU<|bY a) (aM<|cY fo F.e0 fb<|a3<|ak 4) (aM<|cY fo F.e0 fb<|a3<|ak 3)<|dU _))))
abbrev Oa(h:eS)(x:aj):Prop:=fj h 2 "_law_bars_spoilt" uZ x ["_law_left_here","_law_field_here","_law_a","_law_b","_law_cells"] 5 G.ni
def Om(N:dF h.K h.aE "_law_bars_spoilt" uZ x ["_law_left_here","_law_field_here","_law_a","_law_b","_law_cells"])(F:d3 h.aE){c:aj}(b:qM h c):Oa h x:=by
 refine d6 Vk N λao M P WX j m Wa a=>?_;exact (bC (dG 5 ao<|jQ a (ak 1)<|aM<|cb b a<|b9 (ak 0)<|aM<|cY fo F.e0 fb<|a3<|ak 1) (bC (dG 6 ao<|cb b a<|b9 (ak 0)<|aM<|cY fo F.e0 fb<|a3<|ak 4) (bC (dG 7 ao (gp (by exact (fi (ak 4) (by exact (fi (fO (by exact nU)) (by exact (fi (aM<|ff (ak 4) (eV eW) fJ) (by exact (gA (cN dB (aM<|ff (ak 4) fJ<|eV<|fw<|dh 6)<|aM<|ff (ak 4) (eV<|fA dB (ak 6) bh) fJ) (aM<|uV (ak 4)<|jF eW)<|cN dB (ak 4)<|aM<|ff (ak 4) (eV<|jF eW) fJ)))))))))) (bC (kS (lC kf ka oa nf nr (dh 7) (a3 (aM (hp ll rfl F.gE hc (a3 (aM (cY (vD rfl<|bY a) F.lJ l1 (a3 (cN dB (ak 4) (fO (by exact (a3<|ak 2))))))))))))) (bC (dG 7 ao (fA dB (ak 7) (aM (gp (by exact (gA (aM (hp ll rfl F.gE hc (a3 (aM (cY (qT rfl<|bY a) F.lJ l1 (a3 (aM (hp (rK rfl<|rj a) rfl F.rV sD (a3 (aM (f5 ["_law_one"] [] (es (cN dB (ak 4) (fO (by exact (a3<|ak 5))))) (λWt=>(ef 0)) (λWt=>(iG (by exact (b9 (ak 0)<|aM e5))))))))))))))) (ak 1) (aM (hp ll rfl F.gE hc (a3 (aM (cY (vD rfl<|bY a) F.lJ l1 (a3 (cN dB (ak 4) (fO (by exact (a3<|ak 3)))))))))))))))) (bN (cK (fA dB (ak 7) (aM (gp (by exact (b9 (aM (hp ll rfl F.gE hc (a3 (aM (cY (vD rfl<|bY a) F.lJ l1 (a3 (cN dB (cN dB (aM<|ff (ak 4) fJ<|eV<|fw<|dh 6) (fO (by exact (a3<|ak 5))))<|aM<|ff (ak 4) (eV<|fA dB (ak 6) bh) fJ))))))) (fO (by exact (a3<|ak 5)))))))))))))))
abbrev P0(h:eS)(x:aj):Prop:=fj h 2 "_law_ways_spoilt" ug x ["_law_left_here","_law_field_here","_law_ways"] 3 G.o_
def P4(N:dF h.K h.aE "_law_ways_spoilt" ug x ["_law_left_here","_law_field_here","_law_ways"])(F:d3 h.aE){d:aj}(c:qM h d){e:aj}(f:p9 h e):P0 h x:=by
 refine d6 U6 N λao M P WX j m Wa b=>?_;exact (bC (jM (a:=3) ao rfl (Or.inr rfl) (cb c b<|b9 (ak 0)<|aM<|cY fo F.e0 fb<|a3<|ak 2) ∅) (bC (dG 4 ao<|jQ b (ak 2)<|ak 3) (bC (dG 5 ao<|cb c b<|b9 (ak 0)<|aM<|cY fo F.e0 fb<|a3<|ak 4) (bC (dG 6 ao (gp (by exact (fi (aM<|uV (ak 4)<|jF eW) (by exact (fi (cN dB (aM<|ff (ak 4) fJ<|eV<|fw<|dh 5)<|aM<|ff (ak 4) (eV<|fA dB (ak 5) bh) fJ) (by exact (gA (aM<|ff (ak 4) (eV<|fw<|dh 5) fJ) (aM<|ff (ak 4) fJ<|eV<|fA dB (ak 5) bh)<|cN dB (cN dB (ak 4)<|aM<|ff (aM<|uV (ak 4)<|jF eW) (eV eW) fJ)<|aM<|ff (ak 4) (eV eW) fJ)))))))) (bC (jB (W8:=[0,1,2]) g5 rfl (es<|aM<|cb f b<|a3<|dt b (ak 4)<|ak 5) (h7 7 ao) (bN (eA (dr (i7<|bY b) (ak 7) (ak 1) rfl) (bN (kS (lC kf ka oa nf nr (dh 6) (a3 (cN dB (cN dB (aM<|ff (ak 4) fJ<|eV<|fA dB (ak 5) bh) (fO (by exact (a3<|ak 7))))<|aM<|ff (ak 4) (eV<|fw<|dh 5) fJ))))) eN)) ∅ r_) (bC (dG 8 ao (gp (by exact (fi (ak 2) (by exact (fi (fO (by exact nU)) (by exact (fi (aM<|ff (ak 2) (eV eW) fJ) (by exact (gA (aM<|uV (ak 2)<|jF eW) (cN dB (ak 2)<|aM<|ff (ak 2) (eV<|jF eW) fJ)<|cN dB (aM<|ff (ak 2) fJ<|eV<|fw<|dh 3)<|aM<|ff (ak 2) (eV<|fA dB (ak 3) bh) fJ)))))))))) (bN (cK (fA dB (ak 8) (aM (f5 ["_law_other"] [2,3] (es<|ak 6) (λWt=>(ef 0)) (λWt=>(hp ll rfl F.gE hc (a3 (aM (cY (vD rfl<|bY b) F.lJ l1 (a3 (cN dB (cN dB (aM<|ff (ak 1) fJ<|eV<|fw<|dh 2) (fO (by exact (a3<|ak 0))))<|aM<|ff (ak 1) (eV<|fA dB (ak 2) bh) fJ))))))))))))))))))
def Tj(N:dF V8 aE "law" Bg x ["_law_script"])(F:d3 aE){c:aj}(aL:cH T l V8 aE Wi 3 "is_cell" kL c ["thing"] 1 G.kh){d:aj}(A:cH T l V8 aE Wi 2 "is_pair" oU d ["thing"] 1 G.iO){e:aj}(B:cH T l V8 aE Wi 3 "is_way_like" rn e ["thing"] 1 G.oZ){h:aj}(i:cH T l V8 aE Wi 1 "_law_left" wD h ["_law_script","_law_turn"] 2 G.o6){k:aj}(n:cH T l V8 aE Wi 3 "_law_field" q3 k ["_law_left_here","_law_most"] 2 G.pD){o:aj}(p:cH T l V8 aE Wi 2 "_law_apart" sX o ["_law_left_here","_law_field_here"] 2 G.oX){q:aj}(r:cH T l V8 aE Wi 4 "barred" qy q ["field","a","b"] 3 G.p3){s:aj}(f:cH T l V8 aE Wi 9 "shows_barred" xr s ["field","a","b","cells","ways"] 5 (G.ov c d e)){t:aj}(g:cH T l V8 aE Wi 2 "_law_bars_spoilt" uZ t ["_law_left_here","_law_field_here","_law_a","_law_b","_law_cells"] 5 G.ni){u:aj}(v:cH T l V8 aE Wi 2 "_law_ways_spoilt" ug u ["_law_left_here","_law_field_here","_law_ways"] 3 G.o_){w:aj}(y:cH T l V8 aE Wi 4 "_law_is_shown" vW w ["_law_field_here","_law_a","_law_b","_law_cells","_law_ways"] 5 G.r8):
  cH T l V8 aE Wi 10 "law" Bg x ["_law_script"] 1 (G.rb c d e):=by
 refine d6 KU N λao M P WX j m Wa b=>?_;exact (bC (jB (W8:=[0]) g5 rfl (rz rfl F.qi<|a3 bh) (h7 1 ao) (bC (dG 2 ao<|cb i b<|b9 (ak 0)<|ak 1) (bC (dG 3 ao<|cb n b<|b9 (ak 2) bh) (bC (dG 4 ao<|cb p b<|b9 (ak 2)<|ak 3) (bN (eA (dr yi (ak 4) (aM wY)<|dU _) (bC (k0 (fw<|dh 4)<|nL (h7 5 ao)<|h7 6 ao) (bC (k0 (cb r b<|gA (ak 3) (ak 5)<|ak 6) (nL (qO (a:=7) ao rfl (Or.inr rfl) ∅) (qO (a:=8) ao rfl (Or.inr rfl) ∅))) (bC (eA (dr yi (aM (cb f b (fi (ak 3) (by exact (fi (ak 5) (by exact (gA (ak 6) (ak 7)<|ak 8))))))) (aM e5)<|dU _) (bN<|cK e5) eN) (bC (jM (a:=9) ao rfl (Or.inr rfl) (f5 ["_law_other"] [8] (es (aM (cb g b (fi (ak 2) (by exact (fi (ak 3) (by exact (gA (ak 5) (ak 6)<|ak 7)))))))) (λWt=>(ef 0)) (λWt=>(iG (by exact (b9 (ak 0)<|ak 1))))) ∅) (bC (jM (a:=9) ao rfl (Or.inr rfl) (fA dB (ak 9) (aM (f5 ["_law_other"] [7] (es<|aM<|cb v b<|gA (ak 2) (ak 3)<|ak 8) (λWt=>(ef 0)) (λWt=>(iG (by exact (b9 (ak 1)<|ak 0))))))) ∅) (bC (jM (a:=10) ao rfl (Or.inr rfl) (cb g b (fi (ak 2) (by exact (fi (ak 3) (by exact (gA (ak 5) (ak 6)<|ak 7)))))) ∅) (bC (jM (a:=9) ao rfl (Or.inr rfl) (fA dB (ak 9) (aM (f5 ["_law_k"] [10,9] (rz rfl F.qi<|a3<|aM<|cY fo F.e0 fb<|a3<|ak 9) (λWt=>(ef 0)) (λWt=>(iG (by exact (b9 (dt b (ak 1)<|cN jr (ak 0)<|aM<|cY fo F.e0 fb<|a3<|ak 1)<|dt b (dt b (ak 2)<|ak 0) bh))))))) ∅) (bN (jB (W8:=[9,0]) g5 rfl (es<|ak 9) (nL (h7 11 ao)<|h7 12 ao) (bC (dG 13 ao (cb f b (fi (ak 3) (by exact (fi (ak 5) (by exact (gA (ak 6) (ak 11)<|ak 12))))))) (bN (eA (eZ.gx (fU (gb<|fC<|aM<|iT rfl F.i9 i_ rfl F.AW Ar<|ak 13) (hX (dr (lg<|bY b) (ak 13) (aM (cb y b (fi (ak 3) (by exact (fi (ak 5) (by exact (gA (ak 6) (ak 11)<|ak 12)))))))<|dU _)))) (bN<|cK e5) eN))) ∅ (q_ ∅)))))))))) eN))))) ∅ Bd)<|bN<|cK e5)
end
def all_mk{l:bA}{V8:Φ}{c:a_}{aE:aI->Option ag}{fq B C D E H I J L M N O P Q R S U al am an ap as a1 a2 bd be bi bm bn bs bv ca cd ce ch ci:aj}(b:V8.In c)(a:c.Ns d_ aE)(cl:aE "law" = Z (.ref fq)){p q r:iv}(co:dg V8 "is_whole" Br B)(cr:dg V8 "is_pair" oU i)(cs:dg V8 "is_of" vi C)(db:dg V8 "is_cell" kL o)(ds:dg V8 "is_rising" vj D)(dL:dg V8 "is_way_like" rn u)(eq:dg V8 "is_rising" wM E)(ev:dg V8 "is_rising" wW H)(ex:dg V8 "lookup" qB I)(fn:dg V8 "around" s6 J)(fr:dg V8 "reached" xe L)(f0:dg V8 "is_floor" w0 M)(f1:dg V8 "is_field" r3 N)(f2:dg V8 "is_walk" uP O)(f4:dg V8 "can_be_barred" ve P)(f8:dg V8 "do_bar" tB Q)(ga:dg V8 "are_ways_apart" wX R)(ge:dg V8 "shows_barred" xr S)(gl:dg V8 "onward" vX U)(go:dg V8 "search" zj al)(gt:dg V8 "lay_way" zI am)(g1:dg V8 "way_back" BF an)(g2:dg V8 "barred" qy ap)(g3:dg V8 "_law_left" wD as)(hd:dg V8 "_law_pick" Bz a1)(he:dg V8 "_law_beside" Bp a2)(hf:dg V8 "_law_part" xB bd)(hm:dg V8 "_law_grown" xM be)(hw:dg V8 "_law_field" q3 bi)(h0:dg V8 "_law_is_walk" ym bm)(ii:dg V8 "_law_apart" sX bn)(im:dg V8 "_law_bars" wi bs)(io:dg V8 "_law_are_cells" yj bv)(it:dg V8 "_law_are_apart" yH ca)(jp:dg V8 "_law_is_shown" vW cd)(kt:dg V8 "_law_bars_spoilt" uZ ce)(kw:dg V8 "_law_ways_spoilt" ug ch)(s:dg V8 "law" Bg ci)(lc:Ψ V8 d_ "GREATEST" = Z (Z<|.int 30 p))(lf:Ψ V8 d_ "IN" = Z (Z<|.str "in" q))(li:Ψ V8 d_ "OUT" = Z (Z<|.str "out" r))(lm:Ψ V8 d_ "all" = Z Y)(ln:Ψ V8 d_ "bool" = Z Y)(ls:Ψ V8 d_ "dict" = Z Y)(lv:Ψ V8 d_ "int" = Z Y)(lw:Ψ V8 d_ "isinstance" = Z Y)(mb:Ψ V8 d_ "len" = Z Y)(mo:Ψ V8 d_ "list" = Z Y)(mp:Ψ V8 d_ "max" = Z Y)(ms:Ψ V8 d_ "min" = Z Y)(m0:Ψ V8 d_ "range" = Z Y)(na:Ψ V8 d_ "reversed" = Z Y)(nb:Ψ V8 d_ "set" = Z Y)(ne:Ψ V8 d_ "sorted" = Z Y)(nl:Ψ V8 d_ "tuple" = Z Y)(nm:Ψ V8 d_ "zip" = Z Y):
  ∃fd:hA,(∀(j:au) (v:ag),nA j fd ⟨[v],[]⟩ [("_law_script",v)])/\∀Wi:a_,V8.In Wi->Wi.Ns d_ aE->i8 t.prog l V8 aE Wi iV 10 fq fd ["_law_script"] (k9 1<|G.rb o i u):=by
 have F:d3 aE:=⟨iW b a lm,iW b a ln,iW b a ls,iW b a lv,iW b a lw,iW b a mb,iW b a mo,iW b a mp,iW b a ms,iW b a m0,iW b a na,iW b a nb,iW b a ne,iW b a nl,iW b a nm,⟨p,mL b a lc⟩,⟨q,mL b a lf⟩,⟨r,mL b a li⟩⟩;refine LN s b a cl (λ_ V V V V V V V=>.of_eq rfl) λWi=>?_;let h:eS:=⟨t.prog,l,V8,aE,Wi⟩
 have nn:=NQ (h:=h) (co.dY b a) F;have e:=Rb (h:=h) (cr.dY b a) F nn;have no:=RV (h:=h) (cs.dH b a) F e;have d:=S_ (h:=h) (db.dY b a) F e;have np:=MV (T:=t.prog) (l:=l) (Wi:=Wi) (ds.dH b a) F d;have n:=Ki (h:=h) (dL.dY b a) F e;have ns:=Su (T:=t.prog) (l:=l) (Wi:=Wi) (eq.dH b a) F n;have nw:=ON (T:=t.prog) (l:=l) (Wi:=Wi) (ev.dH b a) F e;have m:=J8 (h:=h) (ex.dY b a) F;have f:=UI (h:=h) (fn.dY b a) F;have w:=MT (h:=h) (fr.dH b a) F f;have of:=Tp (T:=t.prog) (l:=l) (Wi:=Wi) (f0.dY b a) F d np;have x:=T3 (T:=t.prog) (l:=l) (Wi:=Wi) (f1.dY b a) F d of w m;have ol:=Qi (T:=t.prog) (l:=l) (Wi:=Wi) (f2.dH b a) F d x m e f;have on:=Vh (T:=t.prog) (l:=l) (Wi:=Wi) (f4.oj b a) F d x no f;have op:=Rl (h:=h) (f8.kY b a) F m w;have o0:=Rg (T:=t.prog) (l:=l) (Wi:=Wi) (ga.kY b a) F d ol m;have pc:=Q0 (T:=t.prog) (l:=l) (Wi:=Wi) (ge.lq b a) F d e n on nw ns op o0;have pi:=PK (h:=h) (gl.dH b a) F f;have pm:=Mw (h:=h) (go.dH b a) F pi;have po:=Km (h:=h) (gt.oj b a) F;have pp:=To (h:=h) (g1.oj b a) F;have pr:=Oe (h:=h) (g2.oj b a) F f pm po pp;have pt:=Tb (h:=h) (g3.dH b a) F;have g:=Nt (h:=h) (hd.dH b a) F;have k:=Ox (h:=h) (he.dY b a) F;have y:=K_ (h:=h) (hf.dH b a) F k;have pu:=Vn (h:=h) (hm.dH b a) F g k;have py:=UZ (h:=h) (hw.dH b a) F g pu y;have A:=PM (h:=h) (h0.dH b a) F k;have rc:=QV (h:=h) (ii.dH b a) F g k;have re:=Pp (h:=h) (im.kY b a) F y;have rs:=LP (h:=h) (io.dH b a) F A;have sc:=RM (h:=h) (it.kY b a) F A;have sn:=S7 (h:=h) (jp.lq b a) F rs re sc;have sp:=Om (h:=h) (kt.lq b a) F g;have ss:=P4 (h:=h) (kw.oj b a) F g k;exact Tj (s.dY b a) F d e n pt py rc pr pc sp ss sn
def walk{p:bS}{b:List aI}{d:(aI->Option ag)->a_->Prop}{a:bA->a_->Prop}{s:DefRec}{V8:xj->Φ}(e:t.most=Z 63)(h:s.params.defaults=[])(k:∀(l:bA) (c:a_),a l c->(V8 l.params).In c)(v:∀q,tu (V8 q)=aa)(N:∀(l:bA) (aE:aI->Option ag) (fq:aj) (c:a_),(V8 l.params).In c->c.Ns d_ aE->aE s.name=Z (.ref fq)->
   ∃fd:hA,(∀(j:au) (J:ag),nA j fd ⟨[J],[]⟩ [("_law_script",J)])/\∀Wi:a_,(V8 l.params).In Wi->Wi.Ns d_ aE->i8 t.prog l (V8 l.params) aE Wi iV 10 fq fd ["_law_script"] (k9 1<|G.rb o i u)):
  PySem.W.WalkO p b d a t.row.toRowW s [] (λx V7=>PySem.call x V7):=
 L2.Qc (r:=63) (n:=10) (f := "_law_script") (y:=λ_=>iV) (et:=λl=>k9 1<|G.rb o i u) e ∅ h ⟨rfl,by decide,by decide,rfl⟩ k N (λl m g Wu w A B=>NW (v l.params) m g Wu A B (G.U2 o i u Wu (uh w ∅))) λ_ V V V V C=>C
end K34
namespace PySem.W.Fast
def tw10999303723457741970:=(0)
def tw5209742229714184192:=(0)
def tw8709055501477073344:=(0)
def tw16338760390783241696:=(0)
def tw4763496097645265408:=(0)
def tw11598549438332352320:=(0)
def tw17711126553142414369:=(0)
def tw553564022070152225:=(0)
def tw8536691826287171681:=(0)
def tw11900798927598532033:=(0)
def tw4132491736392311361:=(0)
def tw5197291991011962625:=(0)
def tw16321009177719334018:=(0)
def tw8920412974194552994:=(0)
def tw3844245157235952771:=(0)
def tw2448097455525642595:=(0)
def tw8222830586084072259:=(0)
def tw13832014645044721668:=(0)
def tw8920651655759388836:=(0)
def tw12110637465953275364:=(0)
def tw18135623084493995812:=(0)
def tw9773195721625285540:=(0)
def tw751763166294673316:=(0)
def tw592965256038473221:=(0)
def tw18018645717869851397:=(0)
def tw11872285917810979942:=(0)
def tw8743754564343416294:=(0)
def tw2200231187197546214:=(0)
def tw7397472421461449606:=(0)
def tw11217992959773998503:=(0)
def tw983707628690316456:=(0)
def tw17620627555452497192:=(0)
def tw421695543304793416:=(0)
def tw14746180993688708520:=(0)
def tw210851562358962664:=(0)
def tw12308589952905159144:=(0)
def tw16203868666951213640:=(0)
def tw4499745992307376872:=(0)
def tw3182613913740255176:=(0)
def tw16733957030770988137:=(0)
def tw4548233377267954793:=(0)
def tw11485611616267120969:=(0)
def tw7087594479448081929:=(0)
def tw635097971319766537:=(0)
def tw1799464840287363689:=(0)
def tw4467593919959375497:=(0)
def tw34591722868247177:=(0)
def tw5304693644363065001:=(0)
def tw2513989383406628617:=(0)
def tw9842050956438802698:=(0)
def tw18219796790256503050:=(0)
def tw2532501547586782506:=(0)
def tw16454743843533312394:=(0)
def tw7860169484657168970:=(0)
def tw17803525707295892170:=(0)
def tw15358704509758345994:=(0)
def tw13702215897793806218:=(0)
def tw7165058664402765802:=(0)
def tw785686524065653867:=(0)
def tw9260437038258713835:=(0)
def tw7987161911309833483:=(0)
def tw18093099094198950155:=(0)
def tw9861477912440523051:=(0)
def tw8094039936839129419:=(0)
def tw8492689173319531499:=(0)
def tw10446135293344900268:=(0)
def tw5211365893409421612:=(0)
def tw6274066658704512588:=(0)
def tw13915376308761233196:=(0)
def tw5137890961014964461:=(0)
def tw10131406446577187693:=(0)
def tw5466452903175288846:=(0)
def tw16064552375783048238:=(0)
def tw11744987890328316078:=(0)
def tw12983884915692044494:=(0)
def tw7643519850336663758:=(0)
def tw16936935971015929326:=(0)
def tw14973164045086073646:=(0)
def tw17365100357250319182:=(0)
def tw11684036245116092270:=(0)
def tw5583653460883289199:=(0)
def tw15933394305623956655:=(0)
def tw12683888813243355343:=(0)
def tw15020856910086860015:=(0)
def tw15649007186646282799:=(0)
def tw3639569643079995983:=(0)
def tw7511422214023817967:=(0)
def tw12366481908368036655:=(0)
def tw3017543862145609679:=(0)
def tw7252827747902436592:=(0)
def tw14219690499177919984:=(0)
def tw17065671723589251920:=(0)
def tw13119507621732284497:=(0)
def tw12293953441735839953:=(0)
def tw10250028047817417681:=(0)
def tw13038681829415071729:=(0)
def tw15384412384028270066:=(0)
def tw6703309385487684114:=(0)
def tw14369537665936390834:=(0)
def tw8784752679576305458:=(0)
def tw18319830167331146706:=(0)
def tw12095779266602981362:=(0)
def tw9648089817160131539:=(0)
def tw530753605525002195:=(0)
def tw9941663538739102452:=(0)
def tw16563120378261156724:=(0)
def tw17278707556752025556:=(0)
def tw1195159038889143509:=(0)
def tw14980410254986797525:=(0)
def tw2252633505765425909:=(0)
def tw4079268217031346101:=(0)
def tw12557884760190926773:=(0)
def tw14765116271209053173:=(0)
def tw15968148489820015862:=(0)
def tw17998587020533352726:=(0)
def tw9202200443922646710:=(0)
def tw8705103246344196054:=(0)
def tw14080309547655102454:=(0)
def tw5988313209368688823:=(0)
def tw9249904486611334487:=(0)
def tw3724380405743733207:=(0)
def tw7306070238654397720:=(0)
def tw8681008426538081688:=(0)
def tw7941220745151856120:=(0)
def tw5897722807772586712:=(0)
def tw17278075486096849752:=(0)
def tw3142649047999911545:=(0)
def tw1504455344065066681:=(0)
def tw15756648430191644858:=(0)
def tw7438207215959025338:=(0)
def tw13834940589750032250:=(0)
def tw14352772406291479482:=(0)
def tw14424596694688822587:=(0)
def tw8543374038781468123:=(0)
def tw2374751870559028027:=(0)
def tw13625490169939601243:=(0)
def tw7232781171450311772:=(0)
def tw5805849663142514108:=(0)
def tw10154635028823458396:=(0)
def tw11030354618126581532:=(0)
def tw15660811221674329980:=(0)
def tw15584630340174697693:=(0)
def tw18301009321524142558:=(0)
def tw14428895885320734334:=(0)
def tw8942315063079241566:=(0)
def tw9145915191740192959:=(0)
def tw12509050952051608895:=(0)
def tw7959822350828572223:=(0)
def tw4950246290309861951:=(0)
def tw12390646166505138815:=(0)
def tw2441821617363478399:=(0)
end PySem.W.Fast
end
open PySem PySem.W PyProof.Rows
set_option maxRecDepth 100000 in
set_option maxHeartbeats 0 in
theorem PySem.Challenge.cw_mowfloor_k34_bars_shown_holds : PySem.Challenge.rw_mowfloor_k34_bars_shown.Holds := by
  w_on; o_law; k_head; (case hw => w_witness2)
  k_fill
  refine' K34.walk (t := PySem.Challenge.rw_mowfloor_k34_bars_shown) rfl rfl (fun w h Y => PySem.W.kIn_of Y) ?hK ?F
  case hK => intro p; rfl
  case F =>
    intro w mg fa h KX G hmg
    apply K34.all_mk KX G hmg
    iterate 38 (apply L2.Gw; iterate 4 k_is)
    iterate 18 k_is
