import PyProof.Rows.All
import Wide.All
import OpenK.AllK
import Wide.FinOn
import Lean
import PyProof.EqAt
import PyProof.EqKinds
import PyProof.TupleCall
import PyProof.IsiNone
import PyProof.NeKinds
import PyProof.MaxThree
import PyProof.NsDelKeeps
import KE.KTryMore
import KE.KIsAll
import PyProof.ExcAttrAll.ValueError
import PyProof.Rows.SetFrom
import PyProof.WalksMore
import PyProof.CallStr
import PySem.Challenge.RW_mowfloor_k65_whole_rounds
set_option maxHeartbeats 4000000
set_option Elab.async false
set_option compiler.extract_closed false
open List (range range' replicate)
noncomputable section
local macro_rules|`(∅)=>`(by decide)
local macro_rules|`(⇑$e)=>`(by simpa using $e)
local macro_rules|`(↥$_)=>`(by simp)
local macro_rules|`(tactic|let $p:term:=$e)=>do
 let q:=p.raw
 let X (s:Lean.Syntax):=s.isOfKind ``Lean.Parser.Term.explicit
 let I (s:String):=Lean.mkIdent (.mkSimple s)
 let l:=(if X q then q[1] else q)[1].getSepArgs
 let n:=l.size
 let j:=if X q then 0 else ((l.findIdx? X).map (·+1)).getD 99
 let mut b:Array Lean.Ident:=#[]
 let mut t:Array (Lean.TSyntax `tactic):=#[]
 let w:=I "ζ"
 let E:=e.raw
 let u:=E.getId
 let c:=j<99&&E.isIdent&&l.any fun s=>s.getId==u||s[1].getId==u
 let h:=I "ξ"
 let u:=u.toString
 let u:=if u.startsWith "ζ" then u else "ζ"
 let d:Lean.Term:=if c then h else e
 let r ←if c then `(tactic|(revert $(⟨e⟩):ident;intro $h:ident)) else `(tactic|skip)
 if j<99&&E.isIdent then t:=t.push (←`(tactic|try clear $(⟨d⟩):ident))
 for i in [0:n] do
  let s:=if i+1==j then l[i]![1] else l[i]!
  let z:=I s!"{u}{i}"
  if s.isIdent&&(j==99||s.getId != `rfl) then b:=b.push ⟨s⟩
  else
   b:=b.push z
   if s.isIdent then t:=t.push (←`(tactic|subst $z))
   else if !s.isOfKind ``Lean.Parser.Term.hole then t:=t.push (←`(tactic|let $(⟨s⟩):term:=$z))
 let A:=b.extract j n
 let B:=b.extract 0 j
 let k:=I s!"xE{j}"
 if j==99 then `(tactic|(obtain ⟨$[$b:ident],*⟩:=$e;$t;*)) else if j==0 then `(tactic|($r;refine $(I s!"xA{n}") ($d :) fun $b* =>?_;$t;*)) else if j+1==n then `(tactic|($r;refine $k ($d :) fun $b* =>?_;$t;*)) else `(tactic|($r;refine $k ($d :) fun $B* $w=>?_;refine $(I s!"xA{n-j}") $w fun $A* =>?_;clear $w;$t;*))
local macro_rules|`(command|def $i:declId $s:optDeclSig:=$v)=>if v.raw.isOfKind ``Lean.Parser.Term.paren then `(command|noncomputable def $i $s:optDeclSig:=$v) else (·.raw.rewriteBottomUp (·.setInfo .none))<$>`(command|theorem $i $(⟨.node .none ``Lean.Parser.Command.declSig #[s.raw[0],s.raw[1][0]]⟩):declSig:=$v)|`(command|def $i:declId $s:optDeclSig $v:matchAlts)=>`(command|noncomputable def $i $s:optDeclSig $v:matchAlts)|`(command|@[simp] def $i:declId $s:optDeclSig:=$v)=>`(command|@[simp] noncomputable def $i $s:optDeclSig:=$v)|`(command|@[simp] def $i:declId $s:optDeclSig $v:matchAlts)=>`(command|@[simp] noncomputable def $i $s:optDeclSig $v:matchAlts)|`(command|abbrev $i:declId $s:optDeclSig:=$v)=>`(command|noncomputable abbrev $i $s:optDeclSig:=$v)
local macro_rules|`(⋯)=>`(by lia)
open PySem renaming wpAny_bind->aB,wpAny_pure->a_,wpAny_callSpecial?_slot->kr,wpAny_seqItems->gH,wpAny_field->fx,wpAny_call_entry->iS,wpAny_newObj_type->i4,wpAny_setField_rec->jP,wpAny_holding->iR,wpAny_mono->gS,wpAny_truthy_bool->mq,wpAny_rule->iA,wpAny_typeNameOfWhole_keyiter->uF,wpAny_updateSeq_pair->o6,wpAny_letGo->kk,wpAny_passesOwn->oh,wpAny_onRaise->nD,wpAny_Call_Name_kw->rj,wpAny_execs_nil->pn,wpAny_attempt->oB,wpAny_forIn_list->rL,plainId_quiet->pk,codeAny_builtin->sa,wpAny_dictEntries->wd,wpAny_tryCatch->qY,wpAny_isInstance->uX,wpAny_pyIter_zip->wo,wpAny_typeOf->r3,call_meets->qp,wpAny_setField->wc,wpAny_letOwnedTupleGo_zip->FA,wpAny_standAt->u2,noFill_tuple_add->yx,codeAny_mono->uu,richCompare_meets_room->IB,wpAny_specialOf->yT,wpAny_dictEpoch->x5,wpAny_updateSeq->xX,wpAny_notOrdered_dict->Eb,wpAny_isOneOf_keyiter->Dx,wpAny_setFlight_noneW->C_,sizeLine_eq->uM,seqIndex_of->tm,isSubtype_stop->zA,wpAny_newTuple->zN,seq_tuple_add->yy,wpAny_newList->zR,wpAny_getItem_heap->CK,wpAny_dictSet_heap->Hq,eqIsQuiet_byValue->CH,wpAny_assign_Name->A7,concat_meets->w1,wpAny_sequenceKey->De,seqIndex_neg->zV,slot_list_getitem->BK,list_append->Cj,wpAny_pyHash_int->B1,wpAny_pyHash_str->AL,wpAny_execs_cons->Ep,wpAny_Try_except->HX,wpAny_of_eq->zi,wpAny_ret_mkInt->GU,wpAny_Name->xU,wpAny_bindName->DB,typeIs_str->yE,wpAny_fieldsOf->Du,evalPart_none->FC,call_list_seq->Dt,wpAny_handled->Gs,intBits_le_64->Ha,callType_new->Dq
open Option renaming bind_eq_some_iff->bE,map_eq_some_iff->cx,bind_some->qq,getD_some->q7,map_some->rM,isSome_map->tF,isSome_iff_exists->Gx,getD_none->B4
open List renaming append_assoc->bu,getD_eq_getElem?_getD->cT,length_map->bS,mem_cons->bI,mem_singleton->cD,append_nil->b_,perm_append_comm->dy,size_toArray->cX,nodup_append->dz,mem_append_right->ei,map_cons->cK,mem_append->dv,length_append->d7,mem_append_left->eG,length_cons->dT,getElem?_eq_getElem->f3,pairwise_singleton->fJ,getElem?_eq_some_iff->gp,take_append_drop->gf,mem_map->ew,map_append->fz,pairwise_cons->hb,getElem?_map->gy,drop_eq_getElem_cons->jK,length_drop->gQ,lookup_cons->hh,not_mem_nil->hs,length_take->h2,all_eq_true->iU,length_range->i0,length_singleton->kK,map_map->gr,nodup_cons->iI,mem_range->ip,find?_cons->jl,mem_cons_of_mem->l8,mem_of_mem_drop->mh,drop_of_length_le->m2,mem_nil_iff->jT,getElem?_append_right->o4,mem_of_getElem?->nF,getElem?_append_left->pU,pairwise_iff_getElem->qo,mem_cons_self->mK,getElem?_drop->nq,getElem?_set_ne->nY,mem_flatMap->mm,flatMap_cons->mM,length_pos_iff->nM,nil_append->lF,getElem?_take->oK,map_take->lg,nodup_nil->my,mem_of_mem_take->qn,drop_zero->lY,eq_nil_of_length_eq_zero->uC,foldl_cons->mU,range_succ_eq_map->qP,map_drop->mj,any_eq_true->oO,of_mem_zip->oL,ext_getElem?->qm,eraseIdxIfInBounds_toArray->wC,filterMap_cons->sD,map_congr_left->q2,drop_drop->oS,take_length->p9,getElem?_set_self->tB,take_of_length_le->uR,forIn_cons->pJ,any_cons->nL,cons_append->sG,zipIdx_cons->rQ,range_succ->qW,take_sublist->tx,getElem_drop->tK,drop_take->r2,pairwise_map->t7,length_pos_of_mem->yr,getElem?_eq_none->yW,any_toArray->ti,countP_cons->v_,mem_iff_getElem->xc,mem_erase_of_ne->zQ,length_eraseIdx->zZ,length_set->wm,length_nil->sX,zipIdx_nil->vu,length_zip->v7,getElem?_range->yV,mem_map_of_mem->zL,lookup_append->zJ,take_take->tT,setIfInBounds_toArray->Eg,forIn_nil->ve,perm_ext_iff_of_nodup->Fp,getLast?_eq_getElem?->El,getElem?_zip_eq_some->Iv,mem_of_find?_eq_some->F2,getElem_take->zj,drop_sublist->xu,mem_of_mem_eraseIdx->DH,length_erase_of_mem->Gy,drop_length->xr,mem_filter->zq,dropLast_eq_take->It,take_zero->yR,extract_toArray->BW,perm_cons_erase->Cp,set_comm->x3,mem_filterMap->EU,all_map->yQ,map_nil->z9,getElem?_set->Ht,set_set->wK,foldl_append->Hn,any_map->ye,countP_congr->HN,getElem_inj->Ho,nodup_range->DY,getElem_mem->FJ,map_toArray->FT,ext_getElem->Aw,getElem_map->EC,filter_cons->HM,flatMap_nil->Bm,mem_reverse->F7,map_id->y9,find?_some->FP,not_lt->Ek
open PySem.Heap renaming get?_push_of_some->b5,get?_push_size->dr,lt_size->cb,get?_update_other->kH,size_push->iE,get?_update_self->rR,get?_none_of_le->y6
open Nat renaming le_refl->bT,lt_of_lt_of_le->fe,le_of_ble_eq_true->gT,ne_of_lt->d8,le_trans->fl,lt_irrefl->i1,le_add_right->lL,ne_of_gt->jL,zero_le->lB,min_eq_left->pb,lt_succ_self->qQ,add_lt_add_iff_right->wy,add_assoc->rY,le_of_lt->ta,add_comm->tf,lt_or_ge->vc,lt_of_le_of_lt->AD,le_succ_of_le->E1,sub_zero->x6,lt_trichotomy->Ey,succ_le_succ->H5,min_eq_right->Ew,lt_trans->DF,add_zero->CF,sub_self->Ec,zero_add->AK,min_self->Hb,le_succ->G3,not_lt->HG,mod_lt->Bg
open PySem.W renaming kasC_pure->bo,kasC_bind->br,mg_none_of->iG,kasC_range->fQ,hideAll_none->m7,hideAll_get->p5,kasC_modify->lb,mg_of->mD,of_hideAll->r5,kasC_get->j2,kasC_lift->ou,callWith_K->yY,cellsFrom_some->AI,ktu_apart->Bb,kat_item->tA,kas_swaps_map->B3,kat_kind->yb
open Bool renaming and_eq_true->cV,false_ne_true->ek,false_eq_true->k7,eq_iff_iff->ll,not_eq_true'->vK,or_eq_true->wH,not_true->yX,and_true->xg,decide_and->Fz,and_false->Hz,true_bne->E_,or_true->Gd
open List.Perm renaming append_left->ed,append_right->fg,eq_of_pairwise->C7,map->zB,cons_inv->RC
open Array renaming length_toList->fW,getElem?_toList->hq,ext'->kO,getD_eq_getD_getElem?->Iy,append_assoc->xQ,perm_iff_toList_perm->Fn,getElem?_eq_getElem->EN,getElem_toList->FO,forIn_toList->Hr,toList_push->HA
open PySem.F renaming plainAttrs_list->lp,slot_dict_keyiterator_next->q5,slot_list_append->q_,type_list_append->sh,slot_zip_next->mL,slot_tuple_iterator_next->uU,args_tuple_add_2->ya,slot_list_getattribute->Ag,slot_list_extend->z4,type_list_extend->zS,entry_tuple_add->z0,slot_tuple_hash->vN,slot_tuple_add->zE,args_zip_next_1->ug,args_dict_keyiterator_next_1->DJ,entry_zip_next->v8,entry_dict_keyiterator_next->CO,args_tuple_iterator_next_1->Gw,entry_tuple_iterator_next->Hw,excBase_ValueError->Ei,slot_dict_getitem->Dv,slot_list_pop->EM,type_list_pop->HU,args_list_append_2->F6,args_object_init_3->Bo,entry_list_append->E6,slot_list_append->Ed,entry_list_pop->AS,slot_dict_iter->E3,typeCall_zip_2->CL,slot_list_pop->Hj,newCall_zip_2->F5,entry_zip_new->GP,slot_dict_len->Bp,called_zip->Bu
open PySem.PassesOwn renaming never->h6
open Prod renaming ext->eD
open PyProof.Rows renaming slot_tuple_getitem->qv,callWith_type1->uE,assignInOrder_cons->Af,subscriptTail_builtinR->AZ,entry_tuple_getitem->Co,args_tuple_getitem->C3,assignInOrder_nil->Gj,callWith_builtin1->JI,get?_update_seq->CW,entry_list_sort->D3,slicePart_none->Fi,elem'_eq->tL,slot_list_sort->A6,args_list_sort->FV,tupleItemsOf_->HS,listUpdate_at->Hg,plain_sorted->G5,entry_sorted->IE,args_sorted1->Iz,tail_any->x4,lt_int->Mu,gt_int->TY
open Ne renaming symm->f6
open PySem.Around renaming under_plainId->rF
open Int renaming le_refl->lH,toNat_natCast->rO,emod_nonneg->q9,emod_lt_of_pos->tH,le_trans->zd,not_lt->wB,mul_one->H_
open Prod.mk renaming injEq->ox
open PySem.Calls renaming call_function_entry->xV,Name_function_global->F4,callWith_builtin->Ba,evalArgs_plain->D0
open PySem.Heap.SameBut renaming update->uN
open PySem.Obj renaming data_mapFields->ux,isFreed_of_fields->Gr,cls_mapFields->Bc
open PySem.AutoSeq1 renaming sub_tuple_tuple->Fm
open PySem.W.Looks renaming of_pure->x7,ld->Lx
open PySem.SeqAt.EqAt renaming int_str->CE,str_int->Ef,none_tuple->NO,bool_tuple->OI,tuple_none->MY,tuple_bool->Mw,none_bool->LD,bool_none->QF,bool_bool->NK,int_tuple->QE,str_tuple->Pc,tuple_int->NW,tuple_str->K3,none_int->PV,none_str->SI,bool_int->Kt,bool_str->Ki,int_none->Tj,int_bool->P7,str_none->Sk,str_bool->Ro,int_int->OD,str_str->Mf,of_refs->Jm
open PySem.SeqAt.RcAt renaming tuples->DD,lists_lengths->Ln,none_tuple->QC,bool_tuple->Ji,tuple_none->Lc,tuple_bool->Ra,none_none->KO,none_bool->KG,bool_none->Qk,bool_bool->P0,int_tuple->PS,str_tuple->M0,tuple_int->S5,tuple_str->I7,none_int->Qi,none_str->Po,bool_int->Ja,bool_str->LL,int_none->Nt,int_bool->Kl,str_none->Nr,str_bool->Rw,int_int->Jf,int_str->Q5,str_int->TO,str_str->RQ,lists->NN
open List.Pairwise renaming map->Bn,imp_of_mem->Rr,filter->RW,imp₂->PW
open PySem.IsL renaming update->ED
open List.cons renaming injEq->HI
open PySem.SeqAt.RcNeAt renaming lists_lengths->MQ,none_tuple->J8,bool_tuple->RZ,tuple_none->J2,tuple_bool->Qt,none_none->Sv,none_bool->QZ,bool_none->Se,bool_bool->N9,int_tuple->PC,str_tuple->Jn,tuple_int->Rh,tuple_str->O0,none_int->Mg,none_str->IJ,bool_int->JG,bool_str->LS,int_none->Rx,int_bool->QT,str_none->Nn,str_bool->O4,int_int->OL,int_str->Li,str_int->Pk,str_str->IW,tuples->QX,lists->NG
open List.Sublist renaming append_left->Pf
open PySem renaming Scope->ha,Str->aF,Heap->aZ,Value->af,CmpOp->lT,Sem->ef,Addr->ae,Stmt->bz,Expr->bj,Obj->a7,Shared->ao,Around->bB,World->bg,Program->bC,Builtin->bw,cLine->b9,model->aS,Tok->ib,Paired->er,sysModules->i3,mainGlobals->dP,builtinsNs->u4,bootBuiltins->fw,Env->d0,GenState->zt,Model->gn,eval->b6,isTrue->o8,backTo->fG,starEach->bK,swapsWith->me,assign->ja,assignInOrder->Ak,assignEach->hr,setItem->u0,swapsWithSole->tR,swappedStores->wj,bindName->uI,PassesOwn->oW,pyNext->hO,letOwnedTupleGo->ql,pyIter->s7,rawInt->i9,Walks->od,foldedSetIterable->lS,Operator->xS,binaryOp->gk,compareOp->dW,behindInMarks->p8,lastMarks->ue,recursionLimit->HH,FuncData->gC,BindsTo->mF,bindArgs->mC,Keyword->ru,NameKind->da,cellsFrom->Ad,richCompare->n7,IsPart->kP,getItem->nj,seqIndex?->xk,sliceBounds->n0,PlainAttrs->tQ,typeOf->p3,attributeBase->vk,valueAt->nP,atKey->kg,Params->tD,callerA->oM,cellOf->vD,compEnvC->ud,newFunctionEnv->B0,comprehension->wI,newList->tV,newExc->tW,newTuple->zG,firstArgMember->uv,seqItems?->rK,ZipApart->nr,IsZip->fu,IsPair->eZ,shortFactorBits->uP,getattributeRaised->D4,entryFor->xK,PyData->nf,ExceptHandler->zX
open Bool renaming true->aa,false->aq
open Option renaming some->Z,none->Y
open PyProof.Rows renaming IsTup->nW,AllBare->kW,envOfC->iD,subscriptTail->D7,IntsAre->rx,bubble->rr,SortKind->gY,Keyed->bq,SortSt->bH,pendingOf->ik,failedOf->iu,mergeAt'->tO,ltAt'->nR,reverseSlice'->rd,seqObj->gA,keyKind'->xF,tuples'->qR
open PySem.W renaming WData->sz,WShape->sL,kas_rev->mR,kas_cmp->fq,kas_item->bp,kas_st->te,Frag->Φ,nsIn->Ψ,fnOf->Ξ,keepIn->Θ,hideAll->Δ,excIn->Γ,codeIn->Ω,exmOne->Φa,methodObj->Φb
open PySem
abbrev aJ:=@if_pos
abbrev aO:=@if_neg
abbrev df:=@decide_eq_true
abbrev eR:=@of_decide_eq_true
abbrev ep:=@decide_eq_false
abbrev hA:=@decide_eq_true_iff
abbrev e_:=@or_false
abbrev kS:=@beq_self_eq_true
abbrev lD:=@decide_eq_decide
abbrev ih:=@if_false
abbrev hK:=@if_true
abbrev zm:=@decide_eq_false_iff_not
abbrev uQ:=@decide_eq_true_eq
abbrev ys:=@beq_eq_false_iff_ne
abbrev vq:=@beq_iff_eq
variable{U1:Sort _}{p:Prop}
def xE1{o:U1->Prop}(e:∃g,o g)(q:∀g,o g->p):p:=have ⟨g,i⟩:=e;q g i
variable{VH:Sort _}
def xE2{o:U1->VH->Prop}(e:∃g c,o g c)(q:∀g c,o g c->p):p:=have ⟨g,c,i⟩:=e;q g c i
variable{V4:Sort _}
def xE3{o:U1->VH->V4->Prop}(e:∃g c n,o g c n)(q:∀g c n,o g c n->p):p:=have ⟨g,c,n,i⟩:=e;q g c n i
variable{V5:Sort _}
def xE4{o:U1->VH->V4->V5->Prop}(e:∃g c n v,o g c n v)(q:∀g c n v,o g c n v->p):p:=have ⟨g,c,n,v,i⟩:=e;q g c n v i
variable{V6:Sort _}
def xE5{o:U1->VH->V4->V5->V6->Prop}(e:∃g c n v d,o g c n v d)(q:∀g c n v d,o g c n v d->p):p:=have ⟨g,c,n,v,d,i⟩:=e;q g c n v d i
variable{V7:Sort _}
def xE6{o:U1->VH->V4->V5->V6->V7->Prop}(e:∃g c n v d L,o g c n v d L)(q:∀g c n v d L,o g c n v d L->p):p:=have ⟨g,c,n,v,d,L,i⟩:=e;q g c n v d L i
variable{V9:Sort _}
def xE7{o:U1->VH->V4->V5->V6->V7->V9->Prop}(e:∃g c n v d L J,o g c n v d L J)(q:∀g c n v d L J,o g c n v d L J->p):p:=have ⟨g,c,n,v,d,L,J,i⟩:=e;q g c n v d L J i
variable{UX:Sort _}
def xE8{o:U1->VH->V4->V5->V6->V7->V9->UX->Prop}(e:∃g c n v d L J b,o g c n v d L J b)(q:∀g c n v d L J b,o g c n v d L J b->p):p:=have ⟨g,c,n,v,d,L,J,b,i⟩:=e;q g c n v d L J b i
def xE9{a:Sort _}{o:U1->VH->V4->V5->V6->V7->V9->UX->a->Prop}(e:∃g c n v d L J b w,o g c n v d L J b w)(q:∀g c n v d L J b w,o g c n v d L J b w->p):p:=have ⟨g,c,n,v,d,L,J,b,w,i⟩:=e;q g c n v d L J b w i
variable{g c:Prop}
def xA2(e:g/\c)(q:g->c->p):p:=q e.1 e.2
variable{n:Prop}
def xA3(e:g/\c/\n)(q:g->c->n->p):p:=q e.1 e.2.1 e.2.2
variable{v:Prop}
def xA4(e:g/\c/\n/\v)(q:g->c->n->v->p):p:=q e.1 e.2.1 e.2.2.1 e.2.2.2
variable{d:Prop}
def xA5(e:g/\c/\n/\v/\d)(q:g->c->n->v->d->p):p:=q e.1 e.2.1 e.2.2.1 e.2.2.2.1 e.2.2.2.2
variable{L:Prop}
def xA6(e:g/\c/\n/\v/\d/\L)(q:g->c->n->v->d->L->p):p:=q e.1 e.2.1 e.2.2.1 e.2.2.2.1 e.2.2.2.2.1 e.2.2.2.2.2
variable{J:Prop}
def xA7(e:g/\c/\n/\v/\d/\L/\J)(q:g->c->n->v->d->L->J->p):p:=q e.1 e.2.1 e.2.2.1 e.2.2.2.1 e.2.2.2.2.1 e.2.2.2.2.2.1 e.2.2.2.2.2.2
def xA8{b:Prop}(e:g/\c/\n/\v/\d/\L/\J/\b)(q:g->c->n->v->d->L->J->b->p):p:=q e.1 e.2.1 e.2.2.1 e.2.2.2.1 e.2.2.2.2.1 e.2.2.2.2.2.1 e.2.2.2.2.2.2.1 e.2.2.2.2.2.2.2
set_option linter.all false
set_option maxRecDepth 100000
namespace L2
open Spec PyProof.Rows
variable{US:ha}{VA f:aF}{UC e:aZ}{ay:aF->Option af}{UJ UZ:List aF}{V1 Vk:lT}{L:af->af->ef af}{cN VI:List ae}{VN:List bz}{w s q b Va:Nat}{J:Int->Int->Int}{Vc d n:bj}{T:List bj}{Q:Φ}{G:List (ae×a7)}{UM:Pos}{j Ux:ao}{A Uv:af->ao->Prop}{O:bB}{Uz c g:ae}{C:bg}{UB:bC}{H:af}{UR:List af}
inductive ab where
 | a6|aC (c:Bool)|int (b:Int)|str (f:aF)|tup (B:List ab)|fn (g:ae)|aU (B:List ab)|fd
mutual
def ab.beq:ab->ab->Bool
 |.a6,.a6=>aa
 |.aC g,.aC c=>g==c
 |.int b,.int w=>decide (b=w)
 |.str f,.str l=>decide (f=l)
 |.tup g,.tup c=>ab.ma g c
 |.fn g,.fn c=>decide (g=c)
 |.aU g,.aU c=>ab.ma g c
 |.fd,.fd=>aa
 |_,_=>aq
def ab.ma:List ab->List ab->Bool
 |[],[]=>aa
 |g::r,c::I=>ab.beq g c&&ab.ma r I
 |_,_=>aq
end
mutual
theorem ab.beq_iff:∀g c:ab,ab.beq g c=aa↔g=c
 |.a6,c=>by cases c<;>simp[ab.beq]
 |.aC g,c=>by cases c<;>simp[ab.beq]
 |.int b,c=>by cases c<;>simp[ab.beq]
 |.str f,c=>by cases c<;>simp[ab.beq]
 |.tup f,c=>by
  cases c with
  |tup l=>rw[ab.beq,ab.xG f l];simp
  |_=>simp[ab.beq]
 |.fn g,c=>by cases c<;>simp[ab.beq]
 |.aU f,c=>by
  cases c with
  |aU l=>rw[ab.beq,ab.xG f l];simp
  |_=>simp[ab.beq]
 |.fd,c=>by cases c<;>simp[ab.beq]
theorem ab.xG:∀g c:List ab,ab.ma g c=aa↔g=c
 |[],c=>by cases c<;>simp[ab.ma]
 |f::r,c=>by
  cases c with
  |nil=>simp[ab.ma]
  |cons l I=>rw[ab.ma,cV,ab.beq_iff f l,ab.xG r I];simp
end
noncomputable instance:DecidableEq ab:=λg c=>decidable_of_iff (ab.beq g c=aa) (ab.beq_iff g c)
mutual
def dB(e:aZ):ab->af->Prop
 |.a6,u=>u=.none
 |.aC c,u=>u=.bool c
 |.int b,u=>∃I,u=.int b I
 |.str f,u=>∃I,u=.str f I
 |.fn g,u=>u=.ref g
 |.aU _,u=>∃g,u=.ref g
 |.fd,u=>∃g,u=.ref g
 |.tup B,u=>∃g m U4 s,u=.ref g/\e.get? g=Z m/\m.cls=.type "tuple" /\ m.data=.seq U4 s/\d4 e B U4.toList
def d4(e:aZ):List ab->List af->Prop
 |[],S=>S=[]
 |v::B,S=>∃u r,S=u::r/\dB e v u/\d4 e B r
end
mutual
def ab.key:Nat->ab->Bool
 |_,.int _=>aa
 |_,.str _=>aa
 |s+1,.tup B=>ab.keys s B
 |_,_=>aq
def ab.keys:Nat->List ab->Bool
 |_,[]=>aa
 |s,v::B=>ab.key s v&&ab.keys s B
end
mutual
def nh(C:bg):ab->Int
 |.int b=>hashInt b
 |.str f=>hashStr C f
 |.tup B=>reduceHash (bw.Tuple.tupleHashOf<|iQ C B)
 |_=>0
def iQ(C:bg):List ab->List Int
 |[]=>[]
 |v::B=>nh C v::iQ C B
end
mutual
def vd:ab->Nat
 |.tup B=>kn B+1
 |_=>1
def kn:List ab->Nat
 |[]=>0
 |v::B=>vd v+kn B
end
theorem yt(C:bg):∀g c:List ab,iQ C (g++c)=iQ C g++iQ C c
 |[],c=>rfl
 |v::g,c=>by rw[sG,iQ,iQ,yt C g c,sG]
theorem wt:∀g c:List ab,kn (g++c)=kn g+kn c
 |[],c=>by simp[kn]
 |v::g,c=>by rw[sG,kn,kn,wt g c];lia
theorem Hm{s:Nat}:∀{g c:List ab},ab.keys s (g++c)=aa->ab.keys s c=aa
 |[],c,e=>e
 |v::g,c,e=>by rw[sG,ab.keys,cV]at e;exact Hm e.2
theorem d4.length{e:aZ}:∀{B:List ab}{S:List af},d4 e B S->B.length=S.length
 |[],S,d=>by rw[show S=[] from d];rfl
 |v::B,S,d=>by
  let⟨u,@r,rfl,W,d⟩:=d;rw[dT,dT,d4.length d]
def B_(e Uu:aZ):Prop:=(∀g m U4 s,e.get? g=Z m->m.cls=.type "tuple" -> m.data=.seq U4 s->Uu.get? g=Z m)
mutual
theorem dB.keep{e Uu:aZ}(q:B_ e Uu):∀{v:ab}{u:af},dB e v u->dB Uu v u
 |.a6,_,d=>d
 |.aC _,_,d=>d
 |.int _,_,d=>d
 |.str _,_,d=>d
 |.fn _,_,d=>d
 |.aU _,_,d=>d
 |.fd,_,d=>d
 |.tup B,_,d=>by
  let⟨g,m,U4,@s,rfl,t,z,a,b⟩:=d;exact⟨g,m,U4,s,rfl,q g m U4 s t z a,z,a,d4.keep q b⟩
theorem d4.keep{e Uu:aZ}(q:B_ e Uu):∀{B:List ab}{S:List af},d4 e B S->d4 Uu B S
 |[],_,d=>d
 |v::B,_,d=>by
  let⟨u,@r,rfl,t,z⟩:=d;exact⟨u,r,rfl,dB.keep q t,d4.keep q z⟩
end
theorem F_{e:aZ}:∀(s:Nat) {f l:ab}{u:af},ab.key s f=aa->ab.key s l=aa->dB e f u->dB e l u->f=l
 |s,.int b,l,u,_,a8,h,a=>by
  let⟨@I,rfl⟩:=h;cases l with
  |int w=>let⟨@H,d⟩:=a;injection d with d;rw[d]
  |str i=>let⟨@H,d⟩:=a;cases d
  |tup B=>let⟨W,W,W,@W,d,W⟩:=a;cases d
  |_=>cases s<;>cases a8
 |s,.str i,l,u,_,a8,h,a=>by
  let⟨@I,rfl⟩:=h;cases l with
  |int w=>let⟨@H,d⟩:=a;cases d
  |str i=>let⟨@H,d⟩:=a;injection d with d;rw[d]
  |tup B=>let⟨W,W,W,@W,d,W⟩:=a;cases d
  |_=>cases s<;>cases a8
 |s+1,.tup B,l,u,n,a8,h,a=>by
  let⟨g,m,U4,@E,rfl,t,z,o,x⟩:=h;cases l with
  |int w=>let⟨@H,d⟩:=a;cases d
  |str i=>let⟨@H,d⟩:=a;cases d
  |tup T=>
   let⟨F,Vb,G,@J,d,k,L,j,y⟩:=a;cases d;rw[t]at k;cases k;rw[o]at j;injection j with j _;subst j;have all:∀(B T:List ab) (S:List af),ab.keys s B=aa->ab.keys s T=aa->d4 e B S->d4 e T S->B=T:=by
    intro B;induction B with
    |nil=>
     intro T S W W g c;cases T with
     |nil=>rfl
     |cons d T=>let⟨W,@W,p,W⟩:=c;rw[show S=[] from g]at p;cases p
    |cons v B A=>
     intro T S U3 U9 g c;let⟨u,@r,rfl,C,D⟩:=g;cases T with
     |nil=>cases (show u::r=[] from c)
     |cons d T=>
      let⟨M,@Vs,p,aR,aX⟩:=c;cases p;rw[ab.keys,cV]at U3 U9;rw[F_ s U3.1 U9.1 C aR,A T r U3.2 U9.2 D aX]
   rw[all B T _ n a8 x y]
  |_=>cases a8
 |_,.a6,_,_,q,_,_,_=>by cases ‹Nat›<;>cases q
 |_,.aC _,_,_,q,_,_,_=>by cases ‹Nat›<;>cases q
 |_,.fn _,_,_,q,_,_,_=>by cases ‹Nat›<;>cases q
 |_,.aU _,_,_,q,_,_,_=>by cases ‹Nat›<;>cases q
 |_,.fd,_,_,q,_,_,_=>by cases ‹Nat›<;>cases q
 |0,.tup _,_,_,q,_,_,_=>by cases q
section
variable{UG:bC}{C:bg}
theorem Dm:∀(s:Nat) {O:bB}{Uv:af->ao->Prop}{j:ao}{v:ab}{u:af}{A:Int->ao->Prop},ab.key s v=aa->O.units+s<b9->dB j.heap v u->A (nh C v) {j with toks:=j.toks+vd v}->
  wpAny (aS UG C) O (pyHash u) A Uv j
 |s,O,Uv,j,.int b,u,A,_,_,a,e=>by
  let⟨@I,rfl⟩:=a;exact B1 e
 |s,O,Uv,j,.str b,u,A,_,_,a,e=>by
  let⟨@I,rfl⟩:=a;exact AL e
 |s+1,O,Uv,j,.tup B,u,A,q,w,a,e=>by
  let⟨g,m,U4,@E,rfl,n,p,hd,Uw⟩:=a;have h:j.TypeIs (.ref g) "tuple" := ⟨m,n,p⟩;unfold pyHash;first|unfold pyHashByItsType|skip
  first|refine aB (wpAny_cRoomFor_or (.inr ⋯) ?_)|skip
  refine aB (yT h vN.lookup ?_);show wpAny _ _ (if (Z (af.builtin "tuple.__hash__")==Z af.none)=aa then _ else _) A Uv j;rw[aO (by rw[beq_builtin_none];exact ek)];refine aB (yT h vN.lookup ?_);show wpAny _ _ (callSpecialIfBoundUnlessNone? (.ref g) "__hash__" _ >>= _) A Uv j;refine aB (wpAny_callSpecialIfBoundUnlessNone?_slot h vN<|iS vN h F.entry_tuple_hash ?_<|F.args_tuple_hash_1 _);show wpAny _ _ (bw.Tuple.tupleItemsOf (.ref g) >>= _) _ _ j;refine aB (wpAny_tupleItemsOf n hd ?_);refine aB ?_;rw[<-Hr];refine rL _
   (λc2 (c:Array Int) Ux=>∃done left,B=done++left/\d4 j.heap left c2/\c.toList=iQ C done/\Ux={j with toks:=j.toks+kn done})
   _ ?_ ?_ _ _ ⟨[],B,rfl,Uw,rfl,rfl⟩
  ·rintro f c2 c Ux ⟨done,left,rfl,i,k,rfl⟩;cases left with
   |nil=>cases (show f::c2=[] from i)
   |cons v left=>
    let⟨u,@r,d,t,o⟩:=i;cases d;have U9:=Hm (g:=done) (show ab.keys s (done++v::left)=aa from q);rw[ab.keys,cV]at U9;refine aB (Dm s U9.1 (by show O.units+1+s<b9;lia) t ?_);first
     | exact a_ ⟨done++[v],left,by simp,o,by simp[k,yt,iQ],by simp[wt,kn,rY]⟩
     | exact aB (a_ (a_ ⟨done++[v],left,by simp,o,by simp[k,yt,iQ],by simp[wt,kn,rY]⟩))
  ·rintro c Ux ⟨done,left,rfl,i,k,rfl⟩;cases left with
   |cons v left=>let⟨W,@W,d,W⟩:=i;cases d
   |nil=>
   rw[b_]at e;show wpAny _ _ (retInt<|bw.Tuple.tupleHashOf c.toList) _ _ _;rw[k];refine GU ?_;show wpAny _ _ (if (decide (-(2:Int)^63<=bw.Tuple.tupleHashOf (iQ C done))&&decide (bw.Tuple.tupleHashOf (iQ C done)<2^63))=aa then _ else _) A Uv _;rw[nh,vd]at e;unfold reduceHash at e;by_cases l:(decide (-(2:Int)^63<=bw.Tuple.tupleHashOf (iQ C done))&&decide (bw.Tuple.tupleHashOf (iQ C done)<2^63))=aa
   ·rw[aJ l];rw[aJ l]at e;exact a_ (by simpa [rY] using e)
   ·rw[aO l];rw[aO l]at e;exact aB (iA (a_ (by simpa [rY] using e)))
 |_,_,_,_,.a6,_,_,q,_,_,_=>by cases ‹Nat›<;>cases q
 |_,_,_,_,.aC _,_,_,q,_,_,_=>by cases ‹Nat›<;>cases q
 |_,_,_,_,.fn _,_,_,q,_,_,_=>by cases ‹Nat›<;>cases q
 |_,_,_,_,.aU _,_,_,q,_,_,_=>by cases ‹Nat›<;>cases q
 |_,_,_,_,.fd,_,_,q,_,_,_=>by cases ‹Nat›<;>cases q
 |0,_,_,_,.tup _,_,_,q,_,_,_=>by cases q
mutual
def cu:ab->ab->Bool
 |.a6,.a6=>aa
 |.aC g,.aC c=>g==c
 |.aC g,.int w=>(if g then 1 else 0)==w
 |.int b,.aC c=>b==(if c then 1 else 0)
 |.int b,.int w=>b==w
 |.str f,.str l=>f==l
 |.tup g,.tup c=>eP g c
 |_,_=>aq
def eP:List ab->List ab->Bool
 |[],[]=>aa
 |g::r,c::I=>cu g c&&eP r I
 |_,_=>aq
end
mutual
def ab.bF:Nat->ab->Bool
 |_,.a6=>aa
 |_,.aC _=>aa
 |_,.int _=>aa
 |_,.str _=>aa
 |s+1,.tup B=>ab.cQ s B
 |_,_=>aq
def ab.cQ:Nat->List ab->Bool
 |_,[]=>aa
 |s,v::B=>ab.bF s v&&ab.cQ s B
end
theorem j8{s:Nat}:∀{B:List ab}{w:Nat}{v:ab},ab.cQ s B=aa->B[w]?=Z v->ab.bF s v=aa
 |[],w,v,_,e=>by simp at e
 |d::B,0,v,q,e=>by
  rw[ab.cQ,cV]at q;simp at e;subst e;exact q.1
 |d::B,w+1,v,q,e=>by
  rw[ab.cQ,cV]at q;exact j8 q.2 ⇑e
theorem d4.get{e:aZ}:∀{B:List ab}{S:List af}{w:Nat}{u:af},d4 e B S->S[w]?=Z u->∃v,B[w]?=Z v/\dB e v u
 |[],S,w,u,g,d=>by rw[show S=[] from g]at d;simp at d
 |v::B,S,0,u,g,d=>by
  let⟨H,@r,rfl,a,b⟩:=g;simp at d;subst d;exact⟨v,rfl,a⟩
 |v::B,S,w+1,u,g,d=>by
  let⟨H,@r,rfl,a,b⟩:=g;let⟨@c,t,z⟩:=d4.get (w:=w) b ⇑d;exact⟨c,by simpa using t,z⟩
theorem GQ{e:aZ}:∀(s:Nat) {f l:ab}{u:af},ab.bF s f=aa->ab.bF s l=aa->dB e f u->dB e l u->cu f l=aa
 |s,.a6,l,u,_,a8,h,a=>by
  cases (show u=.none from h);cases l with
  |a6=>rfl
  |aC c=>cases a
  |int w=>let⟨@H,d⟩:=a;cases d
  |str i=>let⟨@H,d⟩:=a;cases d
  |tup B=>let⟨W,W,W,@W,d,W⟩:=a;cases d
  |fn g=>cases s<;>cases a8
  |aU g=>cases s<;>cases a8
  |fd=>cases s<;>cases a8
 |s,.aC c,l,u,_,a8,h,a=>by
  cases (show u=.bool c from h);cases l with
  |a6=>cases a
  |aC n=>cases a;simp[cu]
  |int w=>let⟨@H,d⟩:=a;cases d
  |str i=>let⟨@H,d⟩:=a;cases d
  |tup B=>let⟨W,W,W,@W,d,W⟩:=a;cases d
  |fn g=>cases s<;>cases a8
  |aU g=>cases s<;>cases a8
  |fd=>cases s<;>cases a8
 |s,.int b,l,u,_,a8,h,a=>by
  let⟨@I,rfl⟩:=h;cases l with
  |a6=>cases a
  |aC n=>cases a
  |int w=>let⟨@H,d⟩:=a;cases d;simp[cu]
  |str i=>let⟨@H,d⟩:=a;cases d
  |tup B=>let⟨W,W,W,@W,d,W⟩:=a;cases d
  |fn g=>cases s<;>cases a8
  |aU g=>cases s<;>cases a8
  |fd=>cases s<;>cases a8
 |s,.str b,l,u,_,a8,h,a=>by
  let⟨@I,rfl⟩:=h;cases l with
  |a6=>cases a
  |aC n=>cases a
  |int w=>let⟨@H,d⟩:=a;cases d
  |str i=>let⟨@H,d⟩:=a;cases d;simp[cu]
  |tup B=>let⟨W,W,W,@W,d,W⟩:=a;cases d
  |fn g=>cases s<;>cases a8
  |aU g=>cases s<;>cases a8
  |fd=>cases s<;>cases a8
 |s+1,.tup B,l,u,o,a8,h,a=>by
  let⟨g,m,U4,@E,rfl,t,z,x,y⟩:=h;cases l with
  |a6=>cases a
  |aC n=>cases a
  |int w=>let⟨@H,d⟩:=a;cases d
  |str i=>let⟨@H,d⟩:=a;cases d
  |fn g=>cases a8
  |aU g=>cases a8
  |fd=>cases a8
  |tup T=>
   let⟨G,Vb,J,@L,d,k,M,j,A⟩:=a;cases d;rw[t]at k;cases k;rw[x]at j;injection j with j _;subst j;have all:∀(B T:List ab) (S:List af),ab.cQ s B=aa->ab.cQ s T=aa->d4 e B S->d4 e T S->eP B T=aa:=by
    intro B;induction B with
    |nil=>
     intro T S W W g c;cases T with
     |nil=>rfl
     |cons d T=>let⟨W,@W,p,W⟩:=c;rw[show S=[] from g]at p;cases p
    |cons v B C=>
     intro T S U3 U9 g c;let⟨u,@r,rfl,D,F⟩:=g;cases T with
     |nil=>cases (show u::r=[] from c)
     |cons d T=>
      let⟨N,@Vs,p,aR,aX⟩:=c;cases p;rw[ab.cQ,cV]at U3 U9;rw[eP,GQ s U3.1 U9.1 D aR,C T r U3.2 U9.2 F aX];rfl
   rw[cu];exact all B T _ o a8 y A
 |s,.fn _,_,_,q,_,_,_=>by cases s<;>cases q
 |s,.aU _,_,_,q,_,_,_=>by cases s<;>cases q
 |s,.fd,_,_,q,_,_,_=>by cases s<;>cases q
 |0,.tup _,_,_,q,_,_,_=>by cases q
def sM{d:Nat->Bool}:∀{B T:List ab},(∀(w:Nat) (f l:ab),B[w]?=Z f->T[w]?=Z l->d w=cu f l)->((range<|min B.length T.length).all d&&B.length==T.length)=eP B T:=by
 have R:∀(B T:List ab) (L:Nat->Bool),(∀(w:Nat) (f l:ab),B[w]?=Z f->T[w]?=Z l->L w=cu f l)->((range<|min B.length T.length).all L&&B.length==T.length)=eP B T:=by
  intro B;induction B with
  |nil=>intro T L W;cases T<;>simp[eP]
  |cons v B a=>
   intro T L e;cases T with
   |nil=>simp[eP]
   |cons n T=>
    have:=a T (λw=>L<|w+1) λw f l g c=>e (w+1) f l ⇑g ⇑c;rw[eP,<-this,<-e 0 v n rfl rfl];rw[dT,dT,show min (B.length+1) (T.length+1)=min B.length T.length+1 by lia,qP,List.all_cons,yQ,Bool.and_assoc];congr 2;rw[ll];simp
 exact λ{B T} e=>R B T d e
theorem i6{j:ao}:∀(s:Nat) {O:bB}{f l:ab}{H u:af},ab.bF s f=aa->ab.bF s l=aa->O.units+s+1<b9->dB j.heap f H->dB j.heap l u->SeqAt.EqAt O j H u (cu f l)
 |s,O,.a6,l,H,u,_,a8,o,h,a=>by
  cases (show H=.none from h);cases l with
  |a6=>cases (show u=.none from a);exact SeqAt.EqAt.same _
  |aC c=>cases (show u=.bool c from a);exact LD c
  |int w=>let⟨@I,rfl⟩:=a;exact PV w I
  |str i=>let⟨@I,rfl⟩:=a;exact SI i I
  |tup B=>let⟨g,m,U4,@E,rfl,t,z,k,W⟩:=a;exact NO ⟨m,t,z,E,k⟩ ⋯
  |fn g=>cases s<;>cases a8
  |aU g=>cases s<;>cases a8
  |fd=>cases s<;>cases a8
 |s,O,.aC c,l,H,u,_,a8,o,h,a=>by
  cases (show H=.bool c from h);cases l with
  |a6=>cases (show u=.none from a);exact QF c
  |aC n=>cases (show u=.bool n from a);exact NK c n
  |int w=>let⟨@I,rfl⟩:=a;exact Kt c w I
  |str i=>let⟨@I,rfl⟩:=a;exact Ki c i I
  |tup B=>let⟨g,m,U4,@E,rfl,t,z,k,W⟩:=a;exact OI c ⟨m,t,z,E,k⟩ ⋯
  |fn g=>cases s<;>cases a8
  |aU g=>cases s<;>cases a8
  |fd=>cases s<;>cases a8
 |s,O,.int b,l,H,u,_,a8,o,h,a=>by
  let⟨@e,rfl⟩:=h;cases l with
  |a6=>cases (show u=.none from a);exact Tj b e
  |aC n=>cases (show u=.bool n from a);exact P7 b e n
  |int w=>let⟨@I,rfl⟩:=a;exact OD b e w I
  |str i=>let⟨@I,rfl⟩:=a;exact CE b e i I
  |tup B=>let⟨g,m,U4,@E,rfl,t,z,k,W⟩:=a;exact QE b e ⟨m,t,z,E,k⟩ ⋯
  |fn g=>cases s<;>cases a8
  |aU g=>cases s<;>cases a8
  |fd=>cases s<;>cases a8
 |s,O,.str b,l,H,u,_,a8,o,h,a=>by
  let⟨@e,rfl⟩:=h;cases l with
  |a6=>cases (show u=.none from a);exact Sk b e
  |aC n=>cases (show u=.bool n from a);exact Ro b e n
  |int w=>let⟨@I,rfl⟩:=a;exact Ef b e w I
  |str i=>let⟨@I,rfl⟩:=a;exact Mf b e i I
  |tup B=>let⟨g,m,U4,@E,rfl,t,z,k,W⟩:=a;exact Pc b e ⟨m,t,z,E,k⟩ ⋯
  |fn g=>cases s<;>cases a8
  |aU g=>cases s<;>cases a8
  |fd=>cases s<;>cases a8
 |s+1,O,.tup B,l,H,u,v,a8,o,h,a=>by
  have G:=h;let⟨g,m,U4,@E,rfl,t,z,k,x⟩:=h;have Vo:j.heap.IsTuple g U4:=⟨m,t,z,E,k⟩;cases l with
  |a6=>cases (show u=.none from a);exact MY Vo ⋯
  |aC n=>cases (show u=.bool n from a);exact Mw n Vo ⋯
  |int w=>let⟨@I,rfl⟩:=a;exact NW w I Vo ⋯
  |str i=>let⟨@I,rfl⟩:=a;exact K3 i I Vo ⋯
  |fn g=>cases a8
  |aU g=>cases a8
  |fd=>cases a8
  |tup T=>
   have J:=a;let⟨c,Vb,r,@L,rfl,M,N,P,y⟩:=a;by_cases d:g=c
   ·subst d;rw[GQ (s+1) v a8 G J];exact SeqAt.EqAt.same _
   ·have VE:j.heap.IsTuple c r:=⟨Vb,M,N,L,P⟩;have A:=x.length;have C:=y.length;have Q:U4.toList.length=U4.size:=by simp
    have R:r.toList.length=r.size:=by simp
    rw[Q]at A;rw[R]at C;have p:=Jm (A:=O) d (DD (e:=λw=>cu (B.getD w .a6)<|T.getD w .a6) Vo VE ⋯ λw bG S=>by
     let⟨@U_,D,U⟩:=x.get (w:=w) (u:=U4[w]) (by rw[hq];simp[bG]);let⟨@Vi,F,al⟩:=y.get (w:=w) (u:=r[w]) (by rw[hq];simp[S]);rw[cT,D,cT,F];exact i6 s (j8 v D) (j8 a8 F) (by show O.units+1+s+1<b9;lia) U al)
    rw[<-A,<-C,sM (B:=B) (T:=T) (λw f l g c=>by rw[cT,g,cT,c];rfl)]at p;rw[cu];exact p
 |s,O,.fn _,_,_,_,q,_,_,_,_=>by cases s<;>cases q
 |s,O,.aU _,_,_,_,q,_,_,_,_=>by cases s<;>cases q
 |s,O,.fd,_,_,_,q,_,_,_,_=>by cases s<;>cases q
 |0,O,.tup _,_,_,_,q,_,_,_,_=>by cases q
mutual
theorem yk:∀{s:Nat}{v:ab},ab.key s v=aa->ab.bF s v=aa
 |s,.int _,_=>by cases s<;>rfl
 |s,.str _,_=>by cases s<;>rfl
 |s+1,.tup B,e=>by rw[ab.key]at e;rw[ab.bF];exact A2 e
 |0,.tup _,e=>by cases e
 |s,.a6,e=>by cases s<;>cases e
 |s,.aC _,e=>by cases s<;>cases e
 |s,.fn _,e=>by cases s<;>cases e
 |s,.aU _,e=>by cases s<;>cases e
 |s,.fd,e=>by cases s<;>cases e
theorem A2:∀{s:Nat}{B:List ab},ab.keys s B=aa->ab.cQ s B=aa
 |s,[],_=>by rw[ab.cQ]
 |s,v::B,e=>by rw[ab.keys,cV]at e;rw[ab.cQ,yk e.1,A2 e.2];rfl
end
mutual
theorem Ip:∀{s:Nat}{f l:ab},ab.key s f=aa->ab.key s l=aa->cu f l=decide (f=l)
 |s,.int b,l,_,a=>by
  cases l with
  |int w=>rw[cu];by_cases d:b=w<;>simp[d]
  |str i=>simp[cu]
  |tup i=>simp[cu]
  |_=>cases s<;>cases a
 |s,.str b,l,_,a=>by
  cases l with
  |int w=>simp[cu]
  |str i=>rw[cu];by_cases d:b=i<;>simp[d]
  |tup i=>simp[cu]
  |_=>cases s<;>cases a
 |s+1,.tup B,l,c,a=>by
  cases l with
  |int w=>simp[cu]
  |str i=>simp[cu]
  |tup T=>
   rw[ab.key]at c a;rw[cu,Ge c a];simp
  |_=>cases a
 |0,.tup _,_,e,_=>by cases e
 |s,.a6,_,e,_=>by cases s<;>cases e
 |s,.aC _,_,e,_=>by cases s<;>cases e
 |s,.fn _,_,e,_=>by cases s<;>cases e
 |s,.aU _,_,e,_=>by cases s<;>cases e
 |s,.fd,_,e,_=>by cases s<;>cases e
theorem Ge:∀{s:Nat}{f l:List ab},ab.keys s f=aa->ab.keys s l=aa->eP f l=decide (f=l)
 |s,[],l,_,_=>by cases l<;>simp[eP]
 |s,v::B,[],_,_=>by simp[eP]
 |s,v::B,d::T,a,b=>by
  rw[ab.keys,cV]at a b;rw[eP,Ip a.1 b.1,Ge a.2 b.2];by_cases t:v=d<;>by_cases z:B=T<;>simp[t,z]
end
theorem Ar:∀(s:Nat) {O:bB}{Uv:af->ao->Prop}{j:ao}{v:ab}{u:af}{A:Bool->ao->Prop},ab.key s v=aa->dB j.heap v u->A aa j->wpAny (aS UG C) O (eqIsQuiet s u) A Uv j
 |s,O,Uv,j,.int b,u,A,_,a,e=>by
  let⟨@I,rfl⟩:=a;rw[CH s rfl];exact a_ e
 |s,O,Uv,j,.str b,u,A,_,a,e=>by
  let⟨@I,rfl⟩:=a;rw[CH s rfl];exact a_ e
 |s+1,O,Uv,j,.tup B,u,A,q,a,e=>by
  let⟨g,m,U4,@E,rfl,h,l,hd,Uw⟩:=a;have i:j.TypeIs (.ref g) "tuple" := ⟨m,h,l⟩;unfold eqIsQuiet;refine aB (yT i F.slot_tuple_eq.lookup ?_);show wpAny _ _ (isInstance (.ref g) (.type "tuple") >>= _) _ _ j;refine aB (uX i isSubtype_tuple_tuple ?_);simp only[yX,k7,ih];refine aB (gH h hd ?_);refine aB ?_;show wpAny _ _ (forIn U4 _ _) _ _ j;rw[<-Hr];rw[ab.key]at q;refine rL _ (λc2 r Ux=>r.1=Y/\Ux=j/\∃left,ab.keys s left=aa/\d4 j.heap left c2) _ ?_ ?_ _ _ ⟨rfl,rfl,B,q,Uw⟩
  ·rintro u c2 r Ux ⟨c,rfl,left,f,k⟩;cases left with
   |nil=>cases (show u::c2=[] from k)
   |cons v left=>
    let⟨o,@Vs,d,t,n⟩:=k;cases d;rw[ab.keys,cV]at f;refine aB (Ar s f.1 t ?_);simp only[yX,k7,ih];exact a_ ⟨rfl,rfl,left,f.2,n⟩
  ·rintro⟨p,w⟩ Ux ⟨c,rfl,W⟩;simp only at c;subst c;exact a_ e
 |_,_,_,_,.a6,_,_,q,_,_=>by cases ‹Nat›<;>cases q
 |_,_,_,_,.aC _,_,_,q,_,_=>by cases ‹Nat›<;>cases q
 |_,_,_,_,.fn _,_,_,q,_,_=>by cases ‹Nat›<;>cases q
 |_,_,_,_,.aU _,_,_,q,_,_=>by cases ‹Nat›<;>cases q
 |_,_,_,_,.fd,_,_,q,_,_=>by cases ‹Nat›<;>cases q
 |0,_,_,_,.tup _,_,_,q,_,_=>by cases q
def hS(UG:bC)(C:bg):HeapKind UG C (List ab) where
 is:=λe B g=>ab.keys 7 B=aa/\dB e (.tup B) (.ref g)
 hash:=λB=>nh C (.tup B)
 draws:=λB=>vd (.tup B)
 room:=λO=>O.units+10<b9
 inj:=λa b=>by
  have:=F_ 8 (f:=.tup _) (l:=.tup _) a.1 b.1 a.2 b.2;injection this
 keeps:=λ{e Uu q g v m T Vu} f n hd UH=>⟨f.1,f.2.keep λc H U4 s h r k=>by
  have o:c≠v:=by
   rintro rfl;rw[n]at h;cases h;rw[hd]at k;cases k
  exact (UH.2 c o).trans h⟩
 pyHash:=λi d e=>Dm 8 (v:=.tup _) d.1 (show _<_ by have:_+10<b9:=i;lia) d.2 e
 eqBool:=λ{O Uv j f l g c A} i a b e=>by
  have p:=i6 (j:=j) 8 (O:=O) (f:=.tup f) (l:=.tup l) (yk (s:=8) (v:=.tup f) a.1) (yk (s:=8) (v:=.tup l) b.1) (show _<_ by have:O.units+10<b9:=i;lia) a.2 b.2;rw[Ip (s:=8) (f:=.tup f) (l:=.tup l) a.1 b.1]at p;exact p _ _ Uv A ⇑e
 quiet:=λd e=>Ar 8 (v:=.tup _) d.1 d.2 e
end
abbrev eQ:=Sum Int aF
def qf:eQ->af->Bool
 |.inl q,u=>af.isInt q u
 |.inr f,u=>af.isStrOf f u
def Nx(C:bg):eQ->Int
 |.inl q=>hashInt q
 |.inr f=>hashStr C f
theorem lG:∀{q:eQ}{u:af},qf q u=aa->(∃b I,q=Sum.inl b/\u=af.int b I)\/(∃f I,q=Sum.inr f/\u=af.str f I)
 |.inl b,u,e=>by
  let⟨@I,d⟩:=af.isInt_shape (k:=b) (v:=u) e;exact .inl ⟨b,I,rfl,d⟩
 |.inr f,u,e=>by
  let⟨@I,d⟩:=af.isStrOf_shape (x:=f) (v:=u) e;exact .inr ⟨f,I,rfl,d⟩
def M8(b:Int)(I:ib):qf (.inl b) (.int b I)=aa:=by simp[qf,af.isInt]
def TC(f:aF)(I:ib):qf (.inr f) (.str f I)=aa:=by simp[qf,af.isStrOf]
def Rm(g c:Int):decide ((Sum.inl g:eQ)=Sum.inl c)=(g==c):=by
 by_cases d:g=c
 ·subst d;simp
 ·have e:¬ (Sum.inl g:eQ)=Sum.inl c:=λp=>d (Sum.inl.inj p);rw[ep e];exact (ys.mpr d).symm
def OA(g c:aF):decide ((Sum.inr g:eQ)=Sum.inr c)=decide (g=c):=by
 by_cases d:g=c
 ·subst d;simp
 ·have e:¬ (Sum.inr g:eQ)=Sum.inr c:=λp=>d (Sum.inr.inj p);rw[ep e,ep d]
def Jc(g:Int)(c:aF):decide ((Sum.inl g:eQ)=Sum.inr c)=aq:=ep (λp=>nomatch p)
def QL(g:aF)(c:Int):decide ((Sum.inr g:eQ)=Sum.inl c)=aq:=ep (λp=>nomatch p)
def mO(UG:bC)(C:bg):PySem.KeyKind UG C eQ where
 is:=qf
 hash:=Nx C
 inj:=λu g c j i=>by
  rcases lG j with ⟨b,I,rfl,rfl⟩|⟨f,I,rfl,rfl⟩
  ·rcases lG i with ⟨w,H,rfl,d⟩|⟨l,H,rfl,d⟩
   ·injection d with a _;rw[a]
   ·exact nomatch d
  ·rcases lG i with ⟨w,H,rfl,d⟩|⟨l,H,rfl,d⟩
   ·exact nomatch d
   ·injection d with a _;rw[a]
 byValue:=λq u e=>by
  rcases lG e with ⟨b,I,rfl,rfl⟩|⟨f,I,rfl,rfl⟩<;>rfl
 pyHash:=λh e=>by
  rcases lG h with ⟨b,I,rfl,rfl⟩|⟨f,I,rfl,rfl⟩
  ·exact B1 e
  ·exact AL e
 eqBool:=λk h e=>by
  rcases lG k with ⟨b,I,rfl,rfl⟩|⟨f,I,rfl,rfl⟩
  ·rcases lG h with ⟨w,H,rfl,rfl⟩|⟨l,H,rfl,rfl⟩
   ·rw[Rm]at e;exact wpAny_eqBool_int e
   ·rw[Jc]at e;exact CE b I l H _ _ _ _ e
  ·rcases lG h with ⟨w,H,rfl,rfl⟩|⟨l,H,rfl,rfl⟩
   ·rw[QL]at e;exact Ef f I w H _ _ _ _ e
   ·rw[OA]at e;exact wpAny_eqBool_str e
 «strs»:=λq f I u e=>by
  rcases lG e with ⟨b,H,rfl,d⟩|⟨l,H,rfl,d⟩
  ·exact nomatch d
  ·injection d with a _;subst a;cases u<;>rfl
def NZ(UG:bC)(C:bg)(b:Int)(I:ib):(mO UG C).is (.inl b) (.int b I)=aa:=M8 b I
def Nz(UG:bC)(C:bg)(f:aF)(I:ib):(mO UG C).is (.inr f) (.str f I)=aa:=TC f I
inductive av where
 | a6|aC (c:Bool)|int (b:Int)|str (f:aF)|sf (c:Array UInt8)|yI (c:UInt64)|ref (g:ae)|ty (s:String)
 deriving DecidableEq
variable{S y:List av}{l u:av}
def cm:av->af->Prop
 |.a6,H=>H=af.none
 |.aC c,H=>H=af.bool c
 |.int b,H=>∃I,H=af.int b I
 |.str f,H=>∃I,H=af.str f I
 |.sf c,H=>∃I,H=af.bytes c I
 |.yI c,H=>∃I,H=af.float c I
 |.ref g,H=>H=af.ref g
 |.ty s,H=>H=af.type s
abbrev bZ:List av->List af->Prop:=er cm
def bZ.length(r:bZ y UR):y.length=UR.length:=er.length r
theorem bZ.get:∀{y:List av}{UR:List af}{b:Nat}{f:av},bZ y UR->y[b]?=Z f->∃H,UR[b]?=Z H/\cm f H
 |_,_,_,_,.nil,d=>by simp at d
 |_,_,0,_,.cons r _,d=>by simp at d;subst d;exact⟨_,rfl,r⟩
 |_,_,b+1,f,.cons _ I,d=>by
  let⟨@H,t,z⟩:=bZ.get (b:=b) (f:=f) I ⇑d;exact⟨H,by simpa using t,z⟩
theorem bZ.set{f:av}{H:af}(r:cm f H):∀{y:List av}{UR:List af} (b:Nat),bZ y UR->bZ (y.set b f) (UR.set b H)
 |_,_,_,.nil=>.nil
 |_,_,0,.cons _ I=>.cons r I
 |_,_,b+1,.cons p I=>.cons p (bZ.set r b I)
theorem bZ.append:∀{y UL:List av}{UR a:List af},bZ y UR->bZ UL a->bZ (y++UL) (UR++a)
 |_,_,_,_,.nil,j=>j
 |_,_,_,_,.cons r I,j=>.cons r (bZ.append I j)
theorem bZ.take:∀{y:List av}{UR:List af} (s:Nat),bZ y UR->bZ (y.take s) (UR.take s)
 |_,_,0,_=>.nil
 |_,_,_+1,.nil=>.nil
 |_,_,s+1,.cons r I=>.cons r (bZ.take s I)
theorem bZ.drop:∀{y:List av}{UR:List af} (s:Nat),bZ y UR->bZ (y.drop s) (UR.drop s)
 |_,_,0,r=>r
 |_,_,_+1,.nil=>.nil
 |_,_,s+1,.cons _ I=>bZ.drop s I
def kZ:Option av->Option af->Prop
 |some u,Z H=>cm u H
 |none,Y=>True
 |_,_=>False
def fY{UX:Type}:List (UX×av)->List (UX×af)->Prop:=(er λ(o:UX×av) (p:UX×af)=>o.1=p.1/\cm o.2 p.2)
def cM:eQ->av
 |.inl b=>.int b
 |.inr f=>.str f
inductive gi where
 | lst (y:List av)
 | tup (y:List av)
 | dJ (UK:List (eQ×av))|aQ (UK:List (List ab×av))
 | set (UW:Int->Bool) (s:Nat)
 | ins (aH k:ae) (ar:List (aF×av))
 | own (f:ae)
 | t6 (ar:List (aF×av))
 | met (L f:ae)
 | lX (D Uw:Int)
 | dx (m:a7) (H:gi)
 | m3 (UJ:Array af)
 | ext (T2:aZ->Prop)
variable{m:gi}
abbrev az:=ae->Option gi
variable{P h:az}
def upd(h:az)(g:ae)(m:gi):az:=(λc=>if c=g then Z m else h c)
def eS:upd h g m g=Z m:=by unfold upd;rw[aJ rfl]
def cW(e:c≠g):upd h g m c=h c:=by unfold upd;rw[aO e]
def Eu{H:gi}(e:h g=Z m)(Uu:h c=Z H)(v:m≠H):g≠c:=by
 intro d;subst d;rw[e]at Uu;exact v (Option.some.inj Uu)
def hE(e:h g=Z m)(Uu:h c=Y):g≠c:=by
 intro d;subst d;rw[e]at Uu;cases Uu
mutual
def cO(h:az):ab->av->Prop
 |.a6,u=>u=.a6
 |.aC c,u=>u=.aC c
 |.int b,u=>u=.int b
 |.str f,u=>u=.str f
 |.fn g,u=>u=.ref g
 |.aU B,u=>∃g y m,u=.ref g/\h g=Z (.dx m<|.lst y)/\bP h B y
 |.fd,u=>∃g m,u=.ref g/\h g=Z (.dx m<|.aQ [])
 |.tup B,u=>∃g y,u=.ref g/\h g=Z (.tup y)/\bP h B y
def bP(h:az):List ab->List av->Prop
 |[],S=>S=[]
 |v::B,S=>∃u r,S=u::r/\cO h v u/\bP h B r
end
def q8(h P:az):Prop:=(∀g y,h g=Z (.tup y)->P g=Z (.tup y))
structure oX(h P:az):Prop where
 t:q8 h P
 z:∀g m H,h g=Z (.dx m H)->P g=Z (.dx m H)
noncomputable instance {h P:az}:CoeFun (oX h P) (λ_=>∀g y,h g=Z (.tup y)->P g=Z (.tup y)):=⟨λI=>I.t⟩
mutual
theorem cO.mono{h P:az}(q:oX h P):∀{v:ab}{u:av},cO h v u->cO P v u
 |.a6,_,d=>d
 |.aC _,_,d=>d
 |.int _,_,d=>d
 |.str _,_,d=>d
 |.fn _,_,d=>d
 |.tup B,_,d=>by
  let⟨g,@y,rfl,t,z⟩:=d;exact⟨g,y,rfl,q.t g y t,bP.mono q z⟩
 |.aU B,_,d=>by
  let⟨g,y,@m,rfl,t,z⟩:=d;exact⟨g,y,m,rfl,q.z g _ _ t,bP.mono q z⟩
 |.fd,_,d=>by
  let⟨g,@m,rfl,t⟩:=d;exact⟨g,m,rfl,q.z g _ _ t⟩
theorem bP.mono{h P:az}(q:oX h P):∀{B:List ab}{S:List av},bP h B S->bP P B S
 |[],_,d=>d
 |v::B,_,d=>by
  let⟨u,@r,rfl,t,z⟩:=d;exact⟨u,r,rfl,cO.mono q t,bP.mono q z⟩
end
def hH(h:az)(q:List ab)(c:ae):Prop:=(ab.keys 7 q=aa/\cO h (.tup q) (.ref c))
mutual
theorem cO.rp{h P:az}(q:q8 h P):∀{v:ab}{s:Nat}{u:av},ab.key s v=aa->cO h v u->cO P v u
 |.a6,_,_,_,d=>d
 |.aC _,_,_,_,d=>d
 |.int _,_,_,_,d=>d
 |.str _,_,_,_,d=>d
 |.fn _,_,_,_,d=>d
 |.tup B,s+1,_,p,d=>by
  let⟨g,@y,rfl,t,z⟩:=d;exact⟨g,y,rfl,q g y t,bP.rp q p z⟩
 |.tup B,0,_,p,d=>nomatch p
 |.aU B,0,_,p,d=>nomatch p
 |.aU B,s+1,_,p,d=>nomatch p
 |.fd,0,_,p,d=>nomatch p
 |.fd,s+1,_,p,d=>nomatch p
theorem bP.rp{h P:az}(q:q8 h P):∀{B:List ab}{s:Nat}{S:List av},ab.keys s B=aa->bP h B S->bP P B S
 |[],_,_,_,d=>d
 |v::B,s,_,p,d=>by
  let⟨u,@r,rfl,t,z⟩:=d;rw[ab.keys,cV]at p;exact⟨u,r,rfl,cO.rp q p.1 t,bP.rp q p.2 z⟩
end
def hH.mono{q:List ab}(e:hH h q c)(I:q8 h P):hH P q c:=by
 let@⟨Vx,⟨g,@y,d,t,z⟩⟩:=e;exact⟨Vx,g,y,d,I g y t,z.rp I Vx⟩
def nC(e:aZ)(g:ae)(U4:Array af):Prop:=(∃m,e.get? g=Z m/\(m.cls,m.dict)=(.type "tuple",Y)/\∃s,m.data=.seq U4 s)
def nC.tup{U4:Array af}(f:nC e g U4):nW e g U4:=let ⟨m,d,n,r⟩:=f;⟨m,d,(Prod.mk.inj n).1,r⟩
def nC.new(e:aZ)(U4:Array af):nC (e.push {cls:=.type "tuple",data:=.seq U4}) e.objs.size U4:=⟨_,dr _ rfl,rfl,_,rfl⟩
section
variable(UB:bC)(C:bg)
def ff(h:az)(e:aZ)(g:ae):gi->Prop
 |.lst y=>y.length<=sizeLine/\∃(UI:List af) (s:Nat),bZ y UI/\e.get? g=Z {cls:=.type "list",data:=.seq UI.toArray s}
 |.tup y=>y.length<=sizeLine/\∃UI:List af,bZ y UI/\nC e g UI.toArray
 |.dJ UK=>UK.length<=sizeLine/\(g==i3)=aq/\∃S,fY UK S/\e.DictOf (mO UB C) g S
 |.aQ UK=>UK.length<=sizeLine/\(g==i3)=aq/\∃y:List (List ab×ae×af),
   er (λ(o:List ab×av) (p:List ab×ae×af)=>o.1=p.1/\hH h o.1 p.2.1/\cm o.2 p.2.2) UK y/\
   ∃m T Vu,e.get? g=Z m/\m.ExactDict/\m.data=.dict T Vu/\T.toList=y.map (entryOfKey<|hS UB C)/\(y.map (·.1)).Nodup
 |.set UW s=>e.SetOf (intKind UB C) g UW s
 |.ins aH k ar=>h k=Z (.own g)/\ar.length<=1000/\k≠g/\e.get? g=Z (PySem.W.instObj aH k)/\
   ∃B,e.Ns1 k B/\(∀L,kZ (ar.lookup L)<|B L)/\PySem.Within B (ar.map (·.1))
 |.own _=>∃m,e.get? g=Z m
 |.t6 ar=>∃B,e.Ns1 g B/\∀L,kZ (ar.lookup L) (B L)
 |.lX D Uw=>∃I H u,e.get? g=Z {cls:=.type "range",data:=.fields #[.int D I,.int Uw H,.int 1 u]}
 |.dx m H=>e.get? g=Z m/\ff h e g H
 |.m3 UJ=>e.get? g=Z {cls:=.none,data:=.fields UJ}
 |.met L f=>e.get? g=Z (Φb (.ref L)<|.ref f)
 |.ext a=>a e/\(∃m,e.get? g=Z m)/\∀t z:aZ,a t->(∀m,t.get? g=Z m->z.get? g=Z m)->a z
def dt(h:az)(e:aZ):Prop:=(∀g m,h g=Z m->ff UB C h e g m)
end
section
variable{UB:bC}{C:bg}{h P:az}{e Uu:aZ}{g:ae}{m:gi}
def ff.lt(f:ff UB C h e g m):g<e.objs.size:=by
 cases m with
 |lst y=>let@⟨_,⟨_,@_,_,d⟩⟩:=f;exact cb d
 |tup y=>let@⟨_,⟨@_,_,o⟩⟩:=f;exact o.tup.lt
 |dJ UK=>let@⟨_,_,⟨@_,_,⟨m,_,@_,d,_⟩⟩⟩:=f;exact cb d
 |aQ UK=>let@⟨_,_,⟨@_,_,⟨m,_,@_,d,_⟩⟩⟩:=f;exact cb d
 |set UW s=>let⟨m,W,W,@W,d,W⟩:=f;exact cb d
 |ins aH k ar=>let@⟨_,_,_,d,_⟩:=f;exact cb d
 |own l=>let⟨@W,d⟩:=f;exact cb d
 |t6 ar=>let⟨@W,⟨W,W,@W,d,W⟩,W⟩:=f;exact cb d
 |lX D Uw=>let⟨W,W,@W,d⟩:=f;exact cb d
 |dx Vt H=>let@⟨d,_⟩:=f;exact cb d
 |m3 UJ=>exact cb (show e.get? g=Z _ from f)
 |met L l=>exact cb (show e.get? g=Z _ from f)
 |ext a=>let@⟨_,⟨@_,d⟩,_⟩:=f;exact cb d
theorem er.vs{U1 VH:Type}{N R:U1->VH->Prop}:∀{a:List U1}{b:List VH},er N a b->(∀g c,N g c->R g c)->er R a b
 |_,_,.nil,_=>.nil
 |_,_,.cons r I,L=>.cons (L _ _ r) (er.vs I L)
def ff.fs(f:ff UB C h e g m)(q:∀c H,(c=g\/h c=Z (.own g))->e.get? c=Z H->Uu.get? c=Z H)(a:∀c,h c=Z (.own g)->P c=Z (.own g))(b:∀c y,h c=Z (.tup y)->P c=Z (.tup y)):ff UB C P Uu g m:=by
 induction m with
 |lst y=>let@⟨i,⟨UI,@s,r,d⟩⟩:=f;exact⟨i,UI,s,r,q _ _ (.inl rfl) d⟩
 |tup y=>let@⟨i,⟨@UI,r,⟨@Vt,d,n⟩⟩⟩:=f;exact⟨i,UI,r,Vt,q _ _ (.inl rfl) d,n⟩
 |dJ UK=>let@⟨i,l,⟨@S,r,⟨Vt,T,@Vu,d,n⟩⟩⟩:=f;exact⟨i,l,S,r,Vt,T,Vu,q _ _ (.inl rfl) d,n⟩
 |aQ UK=>
  let@⟨i,l,⟨@y,r,⟨Vt,T,@Vu,d,n⟩⟩⟩:=f;exact⟨i,l,y,er.vs r λo p i=>⟨i.1,i.2.1.mono b,i.2.2⟩,Vt,T,Vu,q _ _ (.inl rfl) d,n⟩
 |set UW s=>let⟨Vt,T,Vu,@I,d,n⟩:=f;exact⟨Vt,T,Vu,I,q _ _ (.inl rfl) d,n⟩
 |ins aH k ar=>
  let@⟨v,i,ne,d,⟨@B,⟨t,T,@Vu,j,n⟩,r⟩⟩:=f;exact⟨a _ v,i,ne,q _ _ (.inl rfl) d,B,⟨t,T,Vu,q _ _ (.inr v) j,n⟩,r⟩
 |own l=>let⟨@Vt,d⟩:=f;exact⟨Vt,q _ _ (.inl rfl) d⟩
 |t6 ar=>let⟨@B,⟨t,T,@Vu,d,n⟩,r⟩:=f;exact⟨B,⟨t,T,Vu,q _ _ (.inl rfl) d,n⟩,r⟩
 |lX D Uw=>let⟨I,H,@u,d⟩:=f;exact⟨I,H,u,q _ _ (.inl rfl) d⟩
 |dx Vt H w=>let@⟨d,p⟩:=f;exact⟨q _ _ (.inl rfl) d,w p⟩
 |m3 UJ=>
  have d:e.get? g=Z {cls:=.none,data:=.fields UJ}:=f;show Uu.get? g=Z {cls:=.none,data:=.fields UJ};exact q g _ (.inl rfl) d
 |met L l=>
  have d:e.get? g=Z (Φb (.ref L)<|.ref l):=f;show Uu.get? g=Z (Φb (.ref L)<|.ref l);exact q g _ (.inl rfl) d
 |ext x=>let@⟨o,⟨@m,d⟩,X⟩:=f;exact⟨X _ _ o λm p=>q _ _ (.inl rfl) p,⟨m,q _ _ (.inl rfl) d⟩,X⟩
theorem dt.lt(f:dt UB C h e)(d:h g=Z m):g<e.objs.size:=(f g m d).lt
def dt.fresh(f:dt UB C h e)(d:e.objs.size<=g):h g=Y:=by
 cases p:h g with
 |none=>rfl
 |some H=>exact absurd (fe (f.lt p) d) (i1 _)
def dt.kept(f:dt UB C h e)(q:∀c H,e.get? c=Z H->Uu.get? c=Z H):dt UB C h Uu:=λg m d=>
 (f g m d).fs (λc H W p=>q c H p) (λ_ p=>p) λ_ W p=>p
def dt.laid(f:dt UB C h e)(q:∀c H,e.get? c=Z H->Uu.get? c=Z H)(i:e.objs.size<=g)(new:ff UB C (upd h g m) Uu g m):dt UB C (upd h g m) Uu:=λc H d=>by
 have a:=f.fresh i;by_cases b:c=g
 ·subst b;rw[eS]at d;cases d;exact new
 ·rw[cW b]at d;exact (f c H d).fs (λn u W p=>q n u p) (λn p=>by rw[cW (hE p a)];exact p) λn y p=>by rw[cW (hE p a)];exact p
end
def k6(h:az)(g:ae)(H:gi):Prop:=(h g=Z H\/∃m,h g=Z (.dx m H))
def k6.ok{H:gi}(r:k6 h g H)(f:dt UB C h e):ff UB C h e g H:=by
 rcases r with r|⟨m,r⟩
 ·exact f g H r
 ·let@⟨_,p⟩:=f g _ r;exact p
def rb:Option gi->Prop
 |some (.lst _)=>True
 |some (.dJ _)=>True
 |some (.aQ _)=>True
 |some (.set _ _)=>True
 |some (.ins _ _ _)=>True
 |some (.ext _)=>True
 |_=>False
section
variable{UB:bC}{C:bg}{h:az}{e Uu:aZ}{f d:ae}{Vb:gi}
def dt.write(ok:dt UB C h e)(a:rb (h f))(k:d=f\/h d=Z (.own f))(q:∀c H,c≠d->e.get? c=Z H->Uu.get? c=Z H)(s:∃H,Uu.get? d=Z H)(new:ff UB C (upd h f Vb) Uu f Vb):dt UB C (upd h f Vb) Uu:=λc H p=>by
 have m:∀n l,h n=Z (.own l)->n≠f:=λn l r i=>by subst i;rw[r]at a;exact a
 have t:∀n y,h n=Z (.tup y)->n≠f:=λn y r i=>by subst i;rw[r]at a;exact a
 by_cases b:c=f
 ·subst b;rw[eS]at p;cases p;exact new
 ·rw[cW b]at p;by_cases g:c=d
  ·have o:h c=Z (.own f):=by
    rcases k with i|i
    ·exact absurd (g.trans i) b
    ·rw[g];exact i
   rw[p]at o;cases o;let⟨@u,v⟩:=s;exact⟨u,by rw[g];exact v⟩
  ·refine (ok c H p).fs (λn u j r=>q n u ?_ r) (λn r=>by rw[cW (m n c r)];exact r) λn y r=>by rw[cW (t n y r)];exact r
   rcases j with rfl|j
   ·exact g
   ·rintro rfl;rcases k with i|i
    ·exact m n c j i
    ·rw[j]at i;cases i;exact b rfl
end
structure dq(ar Vl:List ae)(h P:az)(e Uu:aZ):Prop where
 keep:∀c m,e.get? c=Z m->h c=Y->c∉ar->c∉Vl->Uu.get? c=Z m
 slot:∀c m,e.get? c=Z m->h c=Y->c∈ar->c∉Vl->∃aY,Uu.get? c=Z {m with slots:=aY}
 free:∀c m,e.get? c=Z m->h c=Y->c∉Vl->P c=Y
 there:∀c m,e.get? c=Z m->c∉Vl->∃Vb,Uu.get? c=Z Vb
 hY:∀c y,h c=Z (.tup y)->P c=Z (.tup y)
 hv:∀c m H,h c=Z (.dx m H)->P c=Z (.dx m H)
 ic:∀c UJ,h c=Z (.m3 UJ)->∃more,P c=Z (.m3<|UJ++more)
section
variable{ar o Vl a:List ae}{h UD UT:az}{e t z Uu:aZ}{g f d:ae}{m:gi}
def dq.any(H:dq ar Vl h UD e t){c:ae}{Vt:a7}(p:e.get? c=Z Vt)(s:h c=Y)(a:c∉Vl):∃aY,t.get? c=Z {Vt with slots:=aY}:=by
 by_cases b:c∈ar
 ·exact H.slot c Vt p s b a
 ·exact⟨Vt.slots,H.keep c Vt p s b a⟩
def dq.kept(q:∀c H,e.get? c=Z H->Uu.get? c=Z H):dq ar Vl h h e Uu:=
 ⟨λc Vt p W W W=>q c Vt p,λc Vt p W W W=>⟨Vt.slots,q c Vt p⟩,λ_ W W s W=>s,λc Vt p W=>⟨Vt,q c Vt p⟩,λ_ W p=>p,λ_ W W p=>p,λ_ UJ p=>⟨#[],by rw[p];simp⟩⟩
def dq.refl:dq ar Vl h h e e:=dq.kept λ_ W p=>p
theorem dq.laid(q:∀c H,e.get? c=Z H->Uu.get? c=Z H)(b:e.objs.size<=g)(a:h g=Y):dq ar Vl h (upd h g m) e Uu where
 keep:=λc H p W W W=>q c H p
 slot:=λc H p W W W=>⟨H.slots,q c H p⟩
 free:=λc H p s W=>by rw[cW (d8<|fe (cb p) b)];exact s
 there:=λc H p W=>⟨H,q c H p⟩
 hY:=λc y p=>by rw[cW (hE p a)];exact p
 hv:=λc H y p=>by rw[cW (hE p a)];exact p
 ic:=λc UJ p=>⟨#[],by rw[cW (hE p a),p];simp⟩
def dq.write(a:rb (h f))(l:d=f\/h d=Z (.own f))(q:∀c H,c≠d->e.get? c=Z H->Uu.get? c=Z H)(n:∃H,Uu.get? d=Z H):dq ar Vl h (upd h f m) e Uu:=by
 have g:∀c,h c=Y->c≠f:=λc s i=>by subst i;rw[s]at a;exact a
 have j:∀c,h c=Y->c≠d:=λc s i=>by
  subst i;rcases l with r|r
  ·exact g c s r
  ·rw[s]at r;cases r
 have b:∀c H,h c=Z H->¬ rb (Z H)->c≠f:=λc H p B i=>by subst i;rw[p]at a;exact B a
 refine⟨λc H p s W W=>q c H (j c s) p,λc H p s W W=>⟨H.slots,q c H (j c s) p⟩,λc H p s W=>by rw[cW (g c s)];exact s,λc H p W=>?_,
  λc y p=>by rw[cW (b c _ p λi=>i)];exact p,λc H y p=>by rw[cW (b c _ p λi=>i)];exact p,λc UJ p=>⟨#[],by rw[cW (b c _ p λi=>i),p];simp⟩⟩;by_cases k:c=d
 ·subst k;exact n
 ·exact⟨H,q c H k p⟩
def dq.mono(H:dq ar Vl h UD e t)(UH:∀c∈ar,c∈o)(d:∀c∈Vl,c∈a):dq o a h UD e t:=
 ⟨λc Vt p s f b=>H.keep c Vt p s (λi=>f<|UH c i) λi=>b<|d c i,λ_ W p s W b=>H.any p s λi=>b<|d _ i,λc Vt p s b=>H.free c Vt p s λi=>b<|d c i,λc Vt p b=>H.there c Vt p λi=>b<|d c i,H.hY,H.hv,H.ic⟩
end
def uq(e:aZ)(h:az):List ae:=((range e.objs.size).filter λg=>(h g).isSome)
def lO(e:aZ)(h:az):aZ:=(Δ e (uq e h))
def MR(e:aZ)(h:az):(lO e h).objs.size=e.objs.size:=PySem.W.hideAll_size _ _
def To{m:a7}(d:e.get? c=Z m)(s:h c=Y):(lO e h).get? c=Z m:=
 p5 _ d λa=>by
  have p:(h c).isSome=aa:=(zq.mp a).2;rw[s]at p;simp at p
def OR{m:a7}(d:(lO e h).get? c=Z m):e.get? c=Z m/\h c=Y:=by
 have a:e.get? c=Z m:=r5 (uq e h) d;refine⟨a,?_⟩;cases p:h c with
 |none=>rfl
 |some f=>
  have b:c∈uq e h:=zq.mpr ⟨ip.mpr<|cb a,by simp[p]⟩;have i:(lO e h).get? c=Y:=m7 (uq e h) b;rw[i]at d;cases d
def Mm(J e:aZ)(Vz:ae):List (ae×a7):=((range e.objs.size).filterMap λg=>if g=Vz\/(J.get? g).isSome=aa then Y else (e.get? g).map λm=>(g,m))
def c2(J e:aZ)(Vz v:ae):List (ae×a7):=((Mm J e Vz).filter λo=>decide (o.1≠v))
structure Mod(Q:Φ)(ay:aF->Option af)(UC:aZ):Prop where
 pD:Q.In UC
 glob:UC.Ns dP ay
 blt:∃A3,UC.Ns u4 A3/\∀f:aF,f ≠ "__name__" -> A3 f=fw f
 nolimit:UC.NoLimit
structure aK where
 prog:bC
 w:bg
 K:Φ
 ay:aF->Option af
 base:aZ
 A:bB
 N:List aF
 eK:ao
 qe:az
 env:d0
 outer:List d0
 stack:List d0
 ex:List ae
 fn:aF->Bool
 calm:Bool
 gN:List (ae×a7)
 cL:af->ao->Prop
variable{a:aK}
def di(M:List d0):List ae:=(M.filterMap (·.frame))
abbrev aK.ar(a:aK):List ae:=di a.outer
def vC(D:ha)(f:aF):Prop:=(D.names.lookup f=Z .local\/D.names.lookup f=Z .cell\/D.names.lookup f=Z .free)
def jb(D:ha)(f:aF):Prop:=(D.names.lookup f=Z .local\/D.names.lookup f=Z .cell)
def PG(U:d0)(e:aZ)(E:aF->Option af)(f:aF)(H:af):Prop:=(
 (U.kindOf f=Z .local/\E f=Z H)\/((U.kindOf f=Z .cell\/U.kindOf f=Z .free)/\∃n,U.cells.lookup f=Z n/\e.IsCell n (Z H)))
structure aK.Ok(a:aK):Prop where
 mod:Mod a.K a.ay a.base
 kind:a.env.scope.kind=.function
 glob:a.env.globals=dP
 blt:a.env.builtins=u4
 above:a.eK.heap.objs.size<=a.env.locals
 inj:∀f l n,a.env.cells.lookup f=Z n->a.env.cells.lookup l=Z n->f=l
 has:∀f,(a.env.kindOf f=Z .cell\/a.env.kindOf f=Z .free)->∃n,a.env.cells.lookup f=Z n
 la:∀f n,a.fn f=aa->a.env.cells.lookup f=Z n->a.eK.heap.objs.size<=n
 hd:a.calm=aa->a.A.handled=Y
 frames:a.A.frames=Z a.stack
 mA:a.stack=a.outer\/(a.stack=a.env::a.outer/\a.env.frame=Z a.env.locals)
 oP:∀c∈a.ex,c≠a.env.locals/\∀f n,a.env.cells.lookup f=Z n->n≠c
 bs:∀c m,a.base.get? c=Z m->a.eK.heap.get? c=Z m/\a.qe c=Y
 je:a.base.objs.size<=a.eK.heap.objs.size
 kA:∀c m,a.base.get? c=Z m->c∉a.ex
 kv:∀c∈a.ex,c∉a.ar
 gI:a.eK.heap.FunFrames a.base a.outer
 kl:∀c∈a.ar,a.qe c=Y
structure aG(a:aK)(G:List (ae×a7))(x:List (Option av))(h:az)(j:ao):Prop where
 ok:a.Ok
 os:j.os=a.eK.os
 bare:kW j.gens
 base:dq a.ar a.ex a.qe h a.eK.heap j.heap
 loc:∃E,j.heap.Ns a.env.locals E/\∀(b:Nat) (f:aF) (u:av),a.N[b]?=Z f->x[b]?=Z (Z u)->vC a.env.scope f->∃H,cm u H/\PG a.env j.heap E f H
 cell:∀f n,a.env.cells.lookup f=Z n->∃u,j.heap.IsCell n u
 free:h a.env.locals=Y
 gM:∀f n,a.env.cells.lookup f=Z n->h n=Y
 pin:∀o∈a.gN++G,j.heap.get? o.1=Z o.2/\h o.1=Y/\o.1≠a.env.locals/\o.1∉a.ar/\∀u,o.2.data≠.cell u
 aT:dt a.prog a.w h j.heap
 len:x.length=a.N.length
section
variable{a:aK}{G:List (ae×a7)}{x:List (Option av)}{h P:az}{j:ao}{Uu:aZ}
def aK.Ok.RJ(ok:a.Ok){c:ae}{m:a7}(d:a.base.get? c=Z m):c∉a.ar:=λb=>by
 have:=(ok.gI.mem b).1;rw[d]at this;cases this
def aG.bs(b:aG a G x h j):∀c m,a.base.get? c=Z m->j.heap.get? c=Z m/\h c=Y:=λc m d=>
 ⟨b.base.keep c m (b.ok.bs c m d).1 (b.ok.bs c m d).2 (b.ok.RJ d) (b.ok.kA c m d),b.base.free c m (b.ok.bs c m d).1 (b.ok.bs c m d).2 (b.ok.kA c m d)⟩
def aG.dI(b:aG a G x h j):∀c m,a.base.get? c=Z m->j.heap.get? c=Z m:=λc m d=>(b.bs c m d).1
def aG.mod(b:aG a G x h j):Mod a.K a.ay a.base:=b.ok.mod
def aG.kd(b:aG a G x h j):a.K.In j.heap:=b.ok.mod.pD.keeps b.dI
def aG.lt(b:aG a G x h j):a.env.locals<j.heap.objs.size:=let ⟨_,c,_⟩:=b.loc;c.lt
def aG.iW(b:aG a G x h j):a.eK.heap.objs.size<=j.heap.objs.size:=fl b.ok.above (ta b.lt)
def aG.MP(b:aG a G x h j){g:ae}(e:j.heap.objs.size<=g):g∉a.ar:=λc=>by
 let@⟨_,⟨@m,d,_⟩⟩:=b.ok.gI.mem c;exact absurd (fe (cb d)<|fl b.iW e) (i1 _)
def aG.oG(b:aG a G x h j):∀f n,a.env.cells.lookup f=Z n->n≠a.env.locals:=λf n d i=>by
 let⟨u,@m,c,hd⟩:=b.cell f n d;let⟨@E,⟨Vb,T,@Vu,e,g,W⟩,W⟩:=b.loc;rw[i,e]at c;cases c;rw[g]at hd;cases hd
def aG.gI(b:aG a G x h j):j.heap.FunFrames a.base a.outer:=by
 have all:∀(M:List d0),(∀c∈di M,c∈a.ar)->a.eK.heap.FunFrames a.base M->j.heap.FunFrames a.base M:=by
  intro M;induction M with
  |nil=>intro W W;trivial
  |cons U r k=>
   intro UH l;let@⟨n,⟨Vz,@m,e,o,p,hd⟩,q⟩:=l;have f:Vz∈a.ar:=UH Vz (by unfold di;rw[sD,e];exact mK);let⟨@aY,d⟩:=b.base.slot Vz m p (b.ok.kl Vz f) f λi=>b.ok.kv Vz i f;exact⟨n,⟨Vz,_,e,o,d,hd⟩,k (λc g=>UH c (by unfold di;rw[sD,e];exact l8 _ g)) q⟩
 exact all a.outer (λ_ g=>g) b.ok.gI
def aG.stack(b:aG a G x h j):j.heap.FunFrames a.base a.stack:=by
 rcases b.ok.mA with d|⟨d,c⟩
 ·rw[d];exact b.gI
 ·rw[d];let⟨@E,e,W⟩:=b.loc;refine .cons (by rw[b.ok.kind];decide) c e ?_ b.gI;exact y6 (fl b.ok.je b.ok.above)
def aG.yJ(e:aG a G x h j):∀c∈di a.stack,c∈a.env.locals::a.ar:=λc b=>by
 rcases e.ok.mA with d|⟨d,f⟩
 ·rw[d]at b;exact l8 _ b
 ·rw[d]at b;unfold di at b;rw[sD,f]at b;exact b
def aG.qd(b:aG a G x h j):∀c∈di a.stack,h c=Y:=λc e=>by
 rcases bI.mp (b.yJ c e) with d|e
 ·rw[d];exact b.free
 ·let@⟨_,⟨@m,f,_⟩⟩:=b.ok.gI.mem e;exact b.base.free c m f (b.ok.kl c e) λi=>b.ok.kv c i e
def aG.step{I:Array zt}{Va:Nat}{S:Drawn}{VI:List ae}(e:aG a G x h j)(z:∀c∈VI,(c∈a.ex\/a.eK.heap.objs.size<=c)/\c≠a.env.locals/\(∀f n,a.env.cells.lookup f=Z n->n≠c)/\∀o∈a.gN++G,o.1≠c)(keep:∀c m,c≠a.env.locals->c∉a.ar->c∉VI->j.heap.get? c=Z m->h c=Y->Uu.get? c=Z m)(J:∀c m,c≠a.env.locals->c∈a.ar->c∉VI->j.heap.get? c=Z m->h c=Y->∃aY,Uu.get? c=Z {m with slots:=aY})(D:∀c m,c∉VI->j.heap.get? c=Z m->h c=Y->P c=Y)(T:∀c m,c∉VI->j.heap.get? c=Z m->∃Vb,Uu.get? c=Z Vb)(hY:∀c y,h c=Z (.tup y)->P c=Z (.tup y))(hv:∀c m H,h c=Z (.dx m H)->P c=Z (.dx m H))(ic:∀c UJ,h c=Z (.m3 UJ)->∃al,P c=Z (.m3<|UJ++al))(UP:∀E,j.heap.Ns a.env.locals E->Uu.Ns a.env.locals E)(aT:dt a.prog a.w P Uu)(am:kW I):
  aG a G x P {j with heap:=Uu,gens:=I,drawn:=S,toks:=Va}:=by
 have L:∀c m,a.eK.heap.get? c=Z m->c≠a.env.locals:=λc m d=>d8 (fe (cb d) e.ok.above);have F:∀c m,a.eK.heap.get? c=Z m->c∉a.ex->c∉VI:=λc m d g l=>by
  rcases (z c l).1 with i|i
  ·exact g i
  ·exact absurd (fe (cb d) i) (i1 _)
 have N:∀f n,a.env.cells.lookup f=Z n->∀u,j.heap.IsCell n u->Uu.IsCell n u:=λf n d u ⟨m,t,hd⟩=>by
  have A:n∉VI:=λi=>(z n i).2.2.1 f n d rfl;by_cases O:n∈a.ar
  ·let⟨@aY,p⟩:=J n m (e.oG f n d) O A t (e.gM f n d);exact⟨_,p,hd⟩
  ·exact⟨m,keep n m (e.oG f n d) O A t<|e.gM f n d,hd⟩
 refine⟨e.ok,e.os,am,⟨λc m d s l g=>?_,λc m d s l g=>?_,λc m d s g=>?_,λc m d g=>?_,λc y d=>hY c y<|e.base.hY c y d,λc m y d=>hv c m y<|e.base.hv c m y d,λc UJ d=>?_⟩,?_,λf n d=>?_,?_,λf n d=>?_,λo Q=>?_,aT,e.len⟩
 ·exact keep c m (L c m d) l (F c m d g) (e.base.keep c m d s l g) (e.base.free c m d s g)
 ·let⟨@aY,k⟩:=e.base.slot c m d s l g;let⟨@an,B⟩:=J c _ (L c m d) l (F c m d g) k (e.base.free c m d s g);exact⟨an,B⟩
 ·let⟨@Vb,k⟩:=e.base.there c m d g;exact D c Vb (F c m d g) k (e.base.free c m d s g)
 ·let⟨@Vb,k⟩:=e.base.there c m d g;exact T c Vb (F c m d g) k
 ·let⟨@ap,k⟩:=e.base.ic c UJ d;let⟨@as,B⟩:=ic c _ k;exact⟨ap++as,by rw[B,xQ]⟩
 ·let⟨@E,a1,a2⟩:=e.loc;refine⟨E,UP E a1,λb f u k B bd=>?_⟩;let⟨@H,r,M⟩:=a2 b f u k B bd;refine⟨H,r,?_⟩;rcases M with M|⟨q,n,d,i⟩
  ·exact .inl M
  ·exact .inr ⟨q,n,d,N f n d _ i⟩
 ·let⟨@u,i⟩:=e.cell f n d;exact⟨u,N f n d u i⟩
 ·let⟨@E,⟨m,W,@W,t,W⟩,W⟩:=e.loc;exact D _ m (λi=>(z _ i).2.1 rfl) t e.free
 ·let⟨u,@m,t,hd⟩:=e.cell f n d;exact D n m (λi=>(z n i).2.2.1 f n d rfl) t (e.gM f n d)
 ·let@⟨d,s,ne,R,v⟩:=e.pin o Q;have A:o.1∉VI:=λi=>(z o.1 i).2.2.2 o Q rfl;exact⟨keep o.1 o.2 ne R A d s,D o.1 o.2 A d s,ne,R,v⟩
def aG.un(b:aG a G x h j)(H:dq a.ar [] h P j.heap Uu)(aT:dt a.prog a.w P Uu):aG a G x P {j with heap:=Uu,toks:=Va}:=by
 let⟨@E,⟨m,T,@Vu,f,r⟩,W⟩:=id b.loc;let⟨@aY,k⟩:=H.any f b.free ↥0;exact b.step (I:=j.gens) (S:=j.drawn) (VI:=[]) (λ_ i=>nomatch i) (λc m W e W d s=>H.keep c m d s e ↥0) (λc m W e W d s=>H.slot c m d s e ↥0) (λc m W d s=>H.free c m d s ↥0) (λc m W d=>H.there c m d ↥0) H.hY H.hv H.ic (λt l=>by
  let⟨Vb,n,@o,g,Vs⟩:=l;rw[f]at g;cases g;exact⟨_,n,o,k,Vs⟩) aT b.bare
def aG.call{k:Array zt}{t:Drawn}(e:aG a G x h j)(H:dq (di a.stack) VI h P j.heap Uu)(aT:dt a.prog a.w P Uu)(u:kW k)(l:∀c∈VI,(c∈a.ex\/a.eK.heap.objs.size<=c)/\c≠a.env.locals/\(∀f n,a.env.cells.lookup f=Z n->n≠c)/\∀o∈a.gN++G,o.1≠c):
  aG a G x P {j with heap:=Uu,gens:=k,drawn:=t,toks:=Va}:=by
 let⟨@E,⟨m,T,@Vu,p,r⟩,W⟩:=id e.loc;let⟨@aY,g⟩:=H.any p e.free λi=>(l _ i).2.1 rfl;exact e.step (VI:=VI) l (λc m g v b d s=>H.keep c m d s (λi=>(bI.mp<|e.yJ c i).elim g v) b) (λc m W W b d s=>H.any d s b) (λc m b d s=>H.free c m d s b) (λc m b d=>H.there c m d b) H.hY H.hv H.ic (λB y=>by
  let⟨Vb,z,@A,q,Vs⟩:=y;rw[p]at q;cases q;exact⟨_,z,A,g,Vs⟩) aT u
def aG.turned(e:aG a G x h j)(q:∀c m,c≠Uz->j.heap.get? c=Z m->Uu.get? c=Z m)(l:h Uz=Y)(g:Uz≠a.env.locals)(t:Uz∈a.ex\/a.eK.heap.objs.size<=Uz)(z:∀f n,a.env.cells.lookup f=Z n->n≠Uz)(v:∀o∈a.gN++G,o.1≠Uz):aG a G x h {j with heap:=Uu,toks:=Va}:=by
 have k:∀c H,h c=Z H->c≠Uz:=λc H d i=>by rw[i,l]at d;cases d
 refine e.step (I:=j.gens) (S:=j.drawn) (VI:=[Uz]) (λc w=>?_) (λc m W W b d W=>q c m (λi=>b (by simp[i])) d) (λc m W W b d W=>⟨m.slots,q c m (λi=>b (by simp[i])) d⟩) (λ_ W W W s=>s)
  (λc m b d=>⟨m,q c m (λi=>b (by simp[i])) d⟩) (λ_ W d=>d) (λ_ W W d=>d) (λc UJ d=>⟨#[],by rw[d];simp⟩) (λE y=>?_) (λc H d=>?_) e.bare
 ·have d:c=Uz:=by simpa using w
  subst d;exact⟨t,g,z,v⟩
 ·let⟨m,T,@Vu,A,r⟩:=y;exact⟨m,T,Vu,q _ m (f6 g) A,r⟩
 ·refine (e.aT c H d).fs (λn u b p=>q n u ?_ p) (λ_ p=>p) λ_ W p=>p;rcases b with i|i
  ·rw[i];exact k c H d
  ·exact k n _ i
def aG.tok(b:aG a G x h j)(I:Nat):aG a G x h {j with toks:=I}:=b.un (Uu:=j.heap) (Va:=I) dq.refl b.aT
def aG.kept(b:aG a G x h j)(q:∀c H,j.heap.get? c=Z H->Uu.get? c=Z H):aG a G x h {j with heap:=Uu,toks:=Va}:=b.un (dq.kept q) (b.aT.kept q)
def aG.laid(b:aG a G x h j)(q:∀c H,j.heap.get? c=Z H->Uu.get? c=Z H)(d:j.heap.objs.size<=g)(new:ff a.prog a.w (upd h g m) Uu g m):
  aG a G x (upd h g m) {j with heap:=Uu,toks:=Va}:=b.un (dq.laid q d<|b.aT.fresh d) (b.aT.laid q d new)
def aG.write{f d:ae}(b:aG a G x h j)(e:rb (h f))(g:d=f\/h d=Z (.own f))(q:∀c H,c≠d->j.heap.get? c=Z H->Uu.get? c=Z H)(i:∃H,Uu.get? d=Z H)(new:ff a.prog a.w (upd h f m) Uu f m):aG a G x (upd h f m) {j with heap:=Uu,toks:=Va}:=b.un (dq.write e g q i) (b.aT.write e g q i new)
def aG.weak{d:List (Option av)}(c:aG a G x h j)(e:d.length=x.length)(C:∀(b:Nat) u,d[b]?=Z (Z u)->x[b]?=Z (Z u)):aG a G d h j:=
 ⟨c.ok,c.os,c.bare,c.base,let ⟨E,g,i⟩:=c.loc;⟨E,g,λb f u k l m=>i b f u k (C b u l) m⟩,c.cell,c.free,c.gM,c.pin,c.aT,e.trans c.len⟩
def aG.ph{c:List (ae×a7)}(b:aG a G x h j)(e:∀o∈c,j.heap.get? o.1=Z o.2/\h o.1=Y/\o.1≠a.env.locals/\o.1∉a.ar/\∀u,o.2.data≠.cell u):aG a c x h j:=
 ⟨b.ok,b.os,b.bare,b.base,b.loc,b.cell,b.free,b.gM,λo d=>(dv.mp d).elim (λi=>b.pin o<|eG _ i)<|e o,b.aT,b.len⟩
def BE(a:UZ.Nodup){b w:Nat}{f:aF}(g:UZ[b]?=Z f)(c:UZ[w]?=Z f):b=w:=by
 let⟨@t,d⟩:=gp.mp g;let⟨@z,e⟩:=gp.mp c;exact (Ho a).mp (d.trans e.symm)
variable{A:Unit->ao->Prop}
def Gg{aE:gn}(k:aG a G x h j)(an:a.N.Nodup)(Uw:a.N[b]?=Z f)(B:jb a.env.scope f)(r:cm u H)(e:∀Ux,aG a G (x.set b<|Z u) h Ux->(∃g,aZ.SameBut g j.heap Ux.heap/\(g=a.env.locals\/a.env.cells.lookup f=Z g))->A () Ux)(bm:a.fn f=aa\/a.env.scope.names.lookup f=Z .local:=by first|exact .inl rfl|exact .inr rfl|assumption):wpAny aE O (storeName a.env f H) A Uv j:=by
 let⟨@E,P,ap⟩:=id k.loc;have bn:(a.env.scope.kind==.class || (a.env.scope.kind==.module&&a.env.locals != a.env.globals))=aq:=by rw[k.ok.kind];rfl
 have as:b<x.length:=by rw[k.len];exact (gp.mp Uw).1
 have oG:=k.oG;have a1:∀{g:ae}{Uu:aZ},(∃m,j.heap.get? g=Z m/\h g=Y)->aZ.SameBut g j.heap Uu->dt a.prog a.w h Uu:=λ{g Uu} bs UH c Vt d=>by
  let⟨@W,W,a2⟩:=bs;refine (k.aT c Vt d).fs (λn L y p=>(UH.2 n ?_).trans p) (λ_ p=>p) λ_ W p=>p;rintro rfl;rcases y with rfl|y
  ·rw[a2]at d;cases d
  ·rw[a2]at y;cases y
 rcases B with F|F
 ·refine wpAny_storeName_local F P (λUu bv UH=>?_) bn;let⟨ca,W,@W,cd,W⟩:=id P;refine e _ ⟨k.ok,k.os,k.bare,⟨λc m d s I B=>?_,λc m d s I B=>?_,k.base.free,λc m d B=>?_,k.base.hY,k.base.hv,k.base.ic⟩,⟨_,bv,λw l Q t D R=>?_⟩,λl n d=>?_,k.free,k.gM,λo S=>?_,a1 ⟨ca,cd,k.free⟩ UH,by simpa using k.len⟩ ⟨_,UH,.inl rfl⟩
  ·exact (UH.2 c<|d8<|fe (cb d) k.ok.above).trans (k.base.keep c m d s I B)
  ·let⟨@aY,t⟩:=k.base.slot c m d s I B;exact⟨aY,(UH.2 c<|d8<|fe (cb d) k.ok.above).trans t⟩
  ·let⟨@Vb,t⟩:=k.base.there c m d B;exact⟨Vb,(UH.2 c<|d8<|fe (cb d) k.ok.above).trans t⟩
  ·by_cases J:w=b
   ·subst J;rw[Uw]at t;cases t;rw[tB as]at D;cases D;exact⟨H,r,.inl ⟨F,by simp⟩⟩
   ·rw[nY (f6 J)]at D;let⟨@T,Vs,p⟩:=ap w l Q t D R;refine⟨T,Vs,?_⟩;rcases p with ⟨q,d⟩|⟨q,n,d,i⟩
    ·refine .inl ⟨q,?_⟩;have:l≠f:=λd=>J (BE an t<|d ▸ Uw);simp[this,d]
    ·exact .inr ⟨q,n,d,i.sameBut UH<|oG l n d⟩
  ·let⟨@L,i⟩:=k.cell l n d;exact⟨L,i.sameBut UH<|oG l n d⟩
  ·let@⟨d,s,ne,al,v⟩:=k.pin o S;exact⟨(UH.2 o.1 ne).trans d,s,ne,al,v⟩
 ·have am:a.fn f=aa:=by
   rcases bm with i|i
   ·exact i
   ·rw[i]at F;cases F
  let⟨@n,y⟩:=k.ok.has f (.inl F);let⟨@L,i⟩:=k.cell f n y;refine wpAny_storeName_cell k.ok.kind F y i (λUu bd UH=>?_);let⟨@z,be,ce⟩:=id i;refine e {j with heap:=Uu} ⟨k.ok,k.os,k.bare,⟨λc m d s I B=>?_,λc m d s I B=>?_,k.base.free,λc m d B=>?_,k.base.hY,k.base.hv,k.base.ic⟩,⟨E,P.sameBut UH<|f6<|oG f n y,λw l Q t D R=>?_⟩,λl M d=>?_,k.free,k.gM,λo S=>?_,a1 ⟨z,be,k.gM f n y⟩ UH,by simpa using k.len⟩ ⟨n,UH,.inr y⟩
  ·exact (UH.2 c<|d8<|fe (cb d)<|k.ok.la f n am y).trans (k.base.keep c m d s I B)
  ·let⟨@aY,t⟩:=k.base.slot c m d s I B;exact⟨aY,(UH.2 c<|d8<|fe (cb d)<|k.ok.la f n am y).trans t⟩
  ·let⟨@Vb,t⟩:=k.base.there c m d B;exact⟨Vb,(UH.2 c<|d8<|fe (cb d)<|k.ok.la f n am y).trans t⟩
  ·by_cases J:w=b
   ·subst J;rw[Uw]at t;cases t;rw[tB as]at D;cases D;exact⟨H,r,.inr ⟨.inl F,n,y,bd⟩⟩
   ·rw[nY (f6 J)]at D;let⟨@T,Vs,p⟩:=ap w l Q t D R;refine⟨T,Vs,?_⟩;rcases p with p|⟨q,M,d,ch⟩
    ·exact .inl p
    ·refine .inr ⟨q,M,d,ch.sameBut UH ?_⟩;rintro rfl;exact J (BE an t<|k.ok.inj _ _ _ d y ▸ Uw)
  ·by_cases bi:M=n
   ·subst bi;exact⟨_,bd⟩
   ·let⟨@dc,ci⟩:=k.cell l M d;exact⟨dc,ci.sameBut UH bi⟩
  ·let@⟨d,s,ne,al,v⟩:=k.pin o S;refine⟨(UH.2 o.1 ?_).trans d,s,ne,al,v⟩;intro p;rw[p,be]at d;have cl:z=o.2:=Option.some.inj d;exact v L (by rw[<-cl];exact ce)
def uK{aE:gn}(c:aG a G x h j)(d:a.N.Nodup)(Uw:a.N[b]?=Z f)(g:jb a.env.scope f)(r:cm u H)(e:∀Ux,aG a G (x.set b<|Z u) h Ux->A () Ux)(i:a.fn f=aa\/a.env.scope.names.lookup f=Z .local:=by first|exact .inl rfl|exact .inr rfl|assumption):wpAny aE O (storeName a.env f H) A Uv j:=
 Gg c d Uw g r (λUx k W=>e Ux k) i
def aG.FN(g:aG a G x h j)(i:Ux.os=j.os)(H:dq (di a.stack) VI h P j.heap Ux.heap)(aT:dt a.prog a.w P Ux.heap)(k:kW Ux.gens)(l:∀c∈VI,(c∈a.ex\/a.eK.heap.objs.size<=c)/\c≠a.env.locals/\(∀f n,a.env.cells.lookup f=Z n->n≠c)/\∀o∈a.gN++G,o.1≠c):aG a G x P Ux:=by
 let⟨Uu,b,e,Va,Vb⟩:=Ux;have d:Vb=j.os:=i;subst d;exact g.call (k:=b) (Va:=Va) (t:=e) H aT k l
end
abbrev fF:=af->Option ae->az->Prop
abbrev a5:=List (Option av)
variable{x:a5}
abbrev cJ:=av->az->Prop
abbrev cf:=a5->az->cJ->Prop
variable{VC:cf}
abbrev eF:=a5->az->(Bool->az->Prop)->Prop
variable{VY:eF}
abbrev fh:=a5->az->(List av->az->Prop)->Prop
variable{Vo:fh}
structure kx where
 aM:a5->az->Prop
 dR:cJ
 dI:a5->az->Prop:=λ_ _=>False
 cG:a5->az->Prop:=λ_ _=>False
abbrev e2:=kx->a5->az->Prop
variable{VE:e2}
def eN(a:aK)(G:List (ae×a7))(x:a5)(A:cJ)(H:af)(Ux:ao):Prop:=(∃u P,aG a G x P Ux/\cm u H/\A u P)
def tp(a:aK)(G:List (ae×a7))(x:a5)(A:Bool->az->Prop)(c:Bool)(Ux:ao):Prop:=(∃P,aG a G x P Ux/\A c P)
def R2(a:aK)(G:List (ae×a7))(x:a5)(A:List av->az->Prop)(UR:List af)(Ux:ao):Prop:=(∃S P,aG a G x P Ux/\bZ S UR/\A S P)
def jO(a:aK)(G:List (ae×a7))(k:kx)(L:Flow)(Ux:ao):Prop:=(
 match L with
 |.next=>∃b P,aG a G b P Ux/\k.aM b P
 |.brk=>∃b P,aG a G b P Ux/\k.dI b P
 |.cont=>∃b P,aG a G b P Ux/\k.cG b P
 |.ret H=>∃u b P,aG a G b P Ux/\cm u H/\k.dR u P)
def y1(a:aK)(d:bj)(I:cf)(G:List (ae×a7)):Prop:=(
 ∀(j:ao) (x:a5) (h:az) (A:cJ),aG a G x h j->I x h A->wpAny (aS a.prog a.w) a.A (b6 d a.env) (eN a G x A) a.cL j)
def bU(a:aK)(d:bj)(I:cf):Prop:=(∀G,y1 a d I G)
def GL(a:aK)(d:bj)(I:eF)(G:List (ae×a7)):Prop:=(
 ∀(j:ao) (x:a5) (h:az) (A:Bool->az->Prop),aG a G x h j->I x h A->wpAny (aS a.prog a.w) a.A (o8 d a.env<|b6 d a.env) (tp a G x A) a.cL j)
def hL(a:aK)(d:bj)(I:eF):Prop:=(∀G,GL a d I G)
def A9(a:aK)(d:bj)(I:eF)(b:ef af):Prop:=(
 ∀(G:List (ae×a7)) (j:ao) (x:a5) (h:az) (A:Bool->az->Prop),aG a G x h j->I x h A->wpAny (aS a.prog a.w) a.A (o8 d a.env b) (tp a G x A) a.cL j)
def jU(a:aK)(d:bj)(I:eF):Prop:=(∀b,A9 a d I b)
def jU.pt{a:aK}{d:bj}{I:eF}(e:jU a d I):hL a d I:=e _
def HQ(a:aK)(T:List bj)(I:fh)(UM:Pos):Prop:=(
 ∀(G:List (ae×a7)) (j:ao) (x:a5) (h:az) (A:List av->az->Prop),aG a G x h j->I x h A->wpAny (aS a.prog a.w) a.A (spliced<|fG UM<|bK T a.env) (R2 a G x A) a.cL j)
def gD(a:aK)(T:List bj)(I:fh):Prop:=(∀UM,HQ a T I UM)
def GJ(a:aK)(X:bz)(I:e2)(G:List (ae×a7)):Prop:=(
 ∀(j:ao) (x:a5) (h:az) (k:kx),aG a G x h j->I k x h->wpAny (aS a.prog a.w) a.A (exec X a.env) (jO a G k) a.cL j)
def hx(a:aK)(X:bz)(I:e2):Prop:=(∀G,GJ a X I G)
def E5(a:aK)(X:List bz)(I:e2)(G:List (ae×a7)):Prop:=(
 ∀(j:ao) (x:a5) (h:az) (k:kx),aG a G x h j->I k x h->wpAny (aS a.prog a.w) a.A (execs X a.env) (jO a G k) a.cL j)
def gs(a:aK)(X:List bz)(I:e2):Prop:=(∀G,E5 a X I G)
def bW{U1:Type}{I:ef U1}{A a:U1->ao->Prop}{aE:gn}(e:wpAny aE O I A Uv j)(b:∀g j,A g j->a g j):wpAny aE O I a Uv j:=gS e b λ_ W f=>f
section
variable{a:aK}
def lU(b:Nat):cf:=(λx h A=>∃u,x[b]?=Z (Z u)/\A u h)
def n3(u:av):cf:=(λ_ h A=>A u h)
def Hx(l:a.N[b]?=Z f)(m:vC a.env.scope f)(hd:(f==("__debug__" : aF))=aq:=by decide)(o:(f==("__classdict__" : aF))=aq:=by decide):bU a (.Name f UM) (lU b):=by
 intro G j x h A g e;let⟨@u,d,e⟩:=e;let⟨@E,p,q⟩:=g.loc;let⟨@H,r,M⟩:=q b f u l d m;have fin:eN a G x A H j:=⟨u,h,g,r,e⟩;rcases M with ⟨c,s⟩|⟨c,n,i,k⟩
 ·exact xU (wpAny_loadName_local g.ok.kind c p s fin) hd
 ·rcases c with c|c
  ·exact xU (wpAny_loadName_cell g.ok.kind c i k fin) hd
  ·exact xU (wpAny_loadName_free g.ok.kind c i k fin o) hd
def Qv{b w UM}:bU a (.Constant (.int b) w UM) (n3<|.int b):=λ_ W W h W c e=>wpAny_Constant_int ⟨.int b,h,c.tok _,⟨_,rfl⟩,e⟩
def S7{c w UM}:bU a (.Constant (.bool c) w UM) (n3<|.aC c):=λ_ W W h W b e=>Constant_bool ⟨.aC c,h,b,rfl,e⟩
def PF{f w UM}:bU a (.Constant (.str f) w UM) (n3<|.str f):=λ_ W W h W b e=>Calls.Constant_str ⟨.str f,h,b.tok _,⟨_,rfl⟩,e⟩
def ey(a:aK)(f:aF):Prop:=(a.env.kindOf f=Z .globalImplicit)
def tG(b:aG a G x h j)(c:ey a f)(d:a.ay f=Z H)(e:A H j)(hd:(f==("__debug__" : aF))=aq:=by decide):wpAny (aS a.prog a.w) a.A (b6 (.Name f UM) a.env) A Uv j:=
 F4 b.ok.kind c (Calls.loadGlobal_global (by rw[b.ok.glob];exact b.mod.glob.keeps b.dI) d e) hd
def pS(b:aG a G x h j)(c:ey a f)(d:a.ay f=Y)(g:fw f=Z H)(e:A H j)(i:f ≠ "__name__" := by decide)(hd:(f==("__debug__" : aF))=aq:=by decide):wpAny (aS a.prog a.w) a.A (b6 (.Name f UM) a.env) A Uv j:=by
 let⟨@k,t,z⟩:=b.mod.blt;exact F4 b.ok.kind c (Calls.loadGlobal_builtin (by rw[b.ok.glob];exact b.mod.glob.keeps b.dI) d (by rw[b.ok.blt];exact t.keeps b.dI) ((z f i).trans g) e) hd
def wx(c:ey a f)(d:a.ay f=Z H)(r:cm u H)(hd:(f==("__debug__" : aF))=aq:=by decide):bU a (.Name f UM) (n3 u):=
 λ_ W W h W b e=>tG b c d ⟨u,h,b,r,e⟩ hd
def JR(c:ey a f)(d:a.ay f=Y)(g:fw f=Z H)(r:cm u H)(i:f ≠ "__name__" := by decide)(hd:(f==("__debug__" : aF))=aq:=by decide):bU a (.Name f UM) (n3 u):=
 λ_ W W h W b e=>pS b c d g ⟨u,h,b,r,e⟩ i hd
variable{g c:bj}{Vo VE:cf}{UM:Pos}
variable{gz i:eF}{c2:List bj}
def EJ(I H:eF):eF:=(λx h A=>I x h λn UD=>if n=aa then H x UD A else A aq UD)
def Bv(I H:eF):eF:=(λx h A=>I x h λn UD=>if n=aa then A aa UD else H x UD A)
def I5(I:eF):eF:=(λx h A=>I x h λn UD=>A (!n) UD)
def Qx(b:hL a g gz):jU a (.BoolOp .And [g] UM) gz:=by
 intro f G j x h A c e;refine isTrue_and (bW (b G j x h A c e) λn i d=>?_);cases n with
 |true=>exact isTrue_and_nil d
 |false=>exact d
def KJ(b:hL a g gz):jU a (.BoolOp .Or [g] UM) gz:=by
 intro f G j x h A c e;refine isTrue_or (bW (b G j x h A c e) λn i d=>?_);cases n with
 |false=>exact isTrue_or_nil d
 |true=>exact d
def R1(f:hL a g gz)(k:jU a (.BoolOp .And (c::c2) UM) i):jU a (.BoolOp .And (g::c::c2) UM) (EJ gz i):=by
 intro l G j x h A m e;refine isTrue_and (bW (f G j x h _ m e) λn o p=>?_);let⟨@UD,b,d⟩:=p;cases n with
 |true=>exact k l G o x UD A b d
 |false=>exact⟨UD,b,d⟩
def Tb(f:hL a g gz)(k:jU a (.BoolOp .Or (c::c2) UM) i):jU a (.BoolOp .Or (g::c::c2) UM) (Bv gz i):=by
 intro l G j x h A m e;refine isTrue_or (bW (f G j x h _ m e) λn o p=>?_);let⟨@UD,b,d⟩:=p;cases n with
 |true=>exact⟨UD,b,d⟩
 |false=>exact k l G o x UD A b d
def OF(b:hL a g gz):hL a (.UnaryOp .Not g UM) (I5 gz):=by
 intro G j x h A c e;exact isTrue_not (b G j x h (λn UD=>A (!n) UD) c e)
def K1(Vo VE:cf):cf:=(λx h A=>Vo x h λf UD=>∃n,f=.aC n/\if n=aa then VE x UD A else A (.aC aq) UD)
def Je(Vo:cf):cf:=(λx h A=>Vo x h λf UD=>∃n,f=.aC n/\A (.aC<|!n) UD)
def Ld{Vk}{I:cf}(e:bU a g I):bU a (.BoolOp Vk [g] UM) I:=λG j x h A b c=>BoolOp_one (e G j x h A b c)
def IF(i:bU a g Vo)(k:bU a (.BoolOp .And (c::c2) UM) VE):bU a (.BoolOp .And (g::c::c2) UM) (K1 Vo VE):=by
 intro G j x h A l e;refine BoolOp_and (bW (i G j x h _ l e) λu m o=>?_);let⟨f,@UD,d,p,b⟩:=o;let⟨@n,rfl,b⟩:=b;cases p;refine mq ?_;cases n with
 |true=>exact k G m x UD A d b
 |false=>exact⟨.aC aq,UD,d,rfl,b⟩
def M_(c:bU a g Vo):bU a (.UnaryOp .Not g UM) (Je Vo):=by
 intro G j x h A d e;refine UnaryOp_ (bW (c G j x h _ d e) λu m i=>?_);let⟨f,@UD,k,l,b⟩:=i;let⟨@n,rfl,b⟩:=b;cases l;exact not_of (mq ⟨.aC<|!n,UD,k,rfl,b⟩)
def JL(I:eF)(Vo VE:cf):cf:=(λx h A=>I x h λn UD=>if n=aa then Vo x UD A else VE x UD A)
def P8(i:hL a n gz)(k:bU a g Vo)(l:bU a c VE):bU a (.IfExp n g c UM) (JL gz Vo VE):=by
 intro G j x h A m e;refine wpAny_IfExp (bW (i G j x h _ m e) λv b o=>?_);let⟨@UD,d,f⟩:=o;cases v with
 |true=>exact k G b x UD A d f
 |false=>exact l G b x UD A d f
end
def dm(Q:Φ)(h:az)(g:ae)(y:List av):Prop:=(
 k6 h g (.lst y)\/
  ∃(m:a7) (UI:Array af) (s:Nat),Q.lookup g=Z m/\m.cls=.type "list" /\ m.dict=Y/\m.data=.seq UI s/\UI.size<=sizeLine/\bZ y UI.toList)
def cp(Q:Φ)(h:az)(g:ae)(y:List av):Prop:=(
 k6 h g (.tup y)\/
  ∃(m:a7) (UI:Array af) (s:Nat),Q.lookup g=Z m/\m.cls=.type "tuple" /\ m.data=.seq UI s/\UI.size<=sizeLine/\bZ y UI.toList)
def Py:af->Option av
 |.none=>Z .a6
 |.bool c=>Z (.aC c)
 |.int b _=>Z (.int b)
 |.str f _=>Z (.str f)
 |.bytes c _=>Z (.sf c)
 |.float c _=>Z (.yI c)
 |.ref g=>Z (.ref g)
 |.type s=>Z (.ty s)
 |_=>Y
def cm.abs{f:av}(r:cm f H):Py H=Z f:=by
 cases f with
 |a6=>cases r;rfl
 |aC _=>cases r;rfl
 |int _=>let⟨@I,rfl⟩:=r;rfl
 |str _=>let⟨@I,rfl⟩:=r;rfl
 |sf _=>let⟨@I,rfl⟩:=r;rfl
 |yI _=>let⟨@I,rfl⟩:=r;rfl
 |ref _=>cases r;rfl
 |ty _=>cases r;rfl
def cm.inj{f:av}(r:cm f H)(p:cm l H):f=l:=Option.some.inj (r.abs.symm.trans p.abs)
theorem bZ.inj:∀{y UL:List av}{UR:List af},bZ y UR->bZ UL UR->y=UL
 |_,_,_,.nil,.nil=>rfl
 |_,_,_,.cons r I,.cons Vs Va=>by rw[r.inj Vs,bZ.inj I Va]
section
variable{a:aK}{G:List (ae×a7)}{x:a5}{h:az}{j:ao}{g:ae}{y UL:List av}
def dm.of(e:h g=Z (.lst y)):dm Q h g y:=.inl (.inl e)
def cp.of(e:h g=Z (.tup y)):cp Q h g y:=.inl (.inl e)
def aG.list(b:aG a G x h j)(e:dm a.K h g y):∃UI:List af,bZ y UI/\PlainL j.heap g UI.toArray/\y.length<=sizeLine:=by
 rcases e with e|⟨m,UI,s,c,f,hd,UH,k,r⟩
 ·let@⟨i,⟨UI,@s,r,d⟩⟩:=e.ok b.aT;exact⟨UI,r,⟨_,s,d,rfl,rfl,rfl⟩,i⟩
 ·refine⟨UI.toList,r,⟨m,s,b.kd g m c,f,hd,by simpa using UH⟩,?_⟩;have d:=r.length;simp only[fW]at d;lia
def aG.tuple(b:aG a G x h j)(e:cp a.K h g y):∃UI:List af,bZ y UI/\nW j.heap g UI.toArray/\y.length<=sizeLine:=by
 rcases e with e|⟨m,UI,s,c,f,UH,k,r⟩
 ·let@⟨i,⟨@UI,r,o⟩⟩:=e.ok b.aT;exact⟨UI,r,o.tup,i⟩
 ·refine⟨UI.toList,r,⟨m,b.kd g m c,f,s,by simpa using UH⟩,?_⟩;have d:=r.length;simp only[fW]at d;lia
def aG.H9(b:aG a G x h j)(e:dm a.K h g y)(Uu:dm a.K h g UL):y=UL:=by
 let⟨@UI,r,⟨m,@s,d,W,W,v⟩,W⟩:=b.list e;let⟨@R,Vs,⟨Vb,@i,c,W,W,f⟩,W⟩:=b.list Uu;rw[d]at c;cases c;rw[v]at f;injection f with U_ _;have:UI=R:=by simpa using congrArg Array.toList U_
 subst this;exact r.inj Vs
def aG.v5(b:aG a G x h j)(e:cp a.K h g y)(Uu:cp a.K h g UL):y=UL:=by
 let⟨@UI,r,⟨@m,d,W,⟨@s,v⟩⟩,W⟩:=b.tuple e;let⟨@R,Vs,⟨@Vb,c,W,⟨@i,f⟩⟩,W⟩:=b.tuple Uu;rw[d]at c;cases c;rw[v]at f;injection f with U_ _;have:UI=R:=by simpa using congrArg Array.toList U_
 subst this;exact r.inj Vs
end
abbrev aK.lq(a:aK)(Uv:af->ao->Prop):aK:={a with cL:=Uv}
abbrev aK.oA(a:aK):aK:=a.lq λ_ _=>False
def aK.Ok.lq(ok:a.Ok)(Uv:af->ao->Prop):(a.lq Uv).Ok:=
 ⟨ok.mod,ok.kind,ok.glob,ok.blt,ok.above,ok.inj,ok.has,ok.la,ok.hd,ok.frames,ok.mA,ok.oP,ok.bs,ok.je,ok.kA,ok.kv,ok.gI,ok.kl⟩
def aK.Ok.m8(ok:(a.lq Uv).Ok):a.Ok:=
 ⟨ok.mod,ok.kind,ok.glob,ok.blt,ok.above,ok.inj,ok.has,ok.la,ok.hd,ok.frames,ok.mA,ok.oP,ok.bs,ok.je,ok.kA,ok.kv,ok.gI,ok.kl⟩
section
variable{a:aK}{G:List (ae×a7)}{x:a5}{h:az}{j:ao}{Uv:af->ao->Prop}
def aG.lq(b:aG a G x h j)(Uv:af->ao->Prop):aG (a.lq Uv) G x h j:=⟨b.ok.lq Uv,b.os,b.bare,b.base,b.loc,b.cell,b.free,b.gM,b.pin,b.aT,b.len⟩
def aG.m8(b:aG (a.lq Uv) G x h j):aG a G x h j:=⟨b.ok.m8,b.os,b.bare,b.base,b.loc,b.cell,b.free,b.gM,b.pin,b.aT,b.len⟩
def jO.m8{k:kx}{L:Flow}(e:jO (a.lq Uv) G k L Ux):jO a G k L Ux:=by
 cases L with
 |next=>let⟨b,@P,c,p⟩:=e;exact⟨b,P,c.m8,p⟩
 |brk=>let⟨b,@P,c,p⟩:=e;exact⟨b,P,c.m8,p⟩
 |cont=>let⟨b,@P,c,p⟩:=e;exact⟨b,P,c.m8,p⟩
 |ret H=>let⟨u,b,@P,c,r,p⟩:=e;exact⟨u,b,P,c.m8,r,p⟩
def gs.oA{X:List bz}{I:e2}(e:gs a.oA X I):gs a X I:=λG j x h k b c=>
 gS (e G j x h k (b.lq _) c) (λ_ W p=>p.m8) λ_ W i=>False.elim i
end
section
variable{a:aK}{X:bz}{c2:List bz}{I H:e2}{d:bj}{VC:cf}{UM:Pos}
def R6:e2:=(λk x h=>k.aM x h)
def D5(I H:e2):e2:=(λk x h=>I {k with aM:=H k} x h)
def Ry:gs a [] R6:=λ_ W x h W b e=>pn ⟨x,h,b,e⟩
def pN(t:hx a X I)(z:gs a c2 H):gs a (X::c2) (D5 I H):=by
 intro G j x h k b e;refine Ep (bW (t G j x h {k with aM:=H k} b e) λL c p=>?_);cases L with
 |next=>
  let⟨d,@P,f,p⟩:=p;exact z G c d P k f p
 |ret u=>exact p
 |brk=>exact p
 |cont=>exact p
def QI(t:hx a X I):gs a [X] I:=by
 intro G j x h k b e;refine Ep (bW (t G j x h k b e) λL c p=>?_);cases L with
 |next=>exact pn p
 |ret u=>exact p
 |brk=>exact p
 |cont=>exact p
def aG.quiet(b:aG a G x h j):interactive a.env=aq:=by simp[interactive,b.ok.kind]
def PO(VC:cf):e2:=(λk x h=>VC x h λ_ UD=>k.aM x UD)
def RX(c:bU a d VC)(UH:me d Y UM.line a.env=pure aq:=by rfl):hx a (.Expr d UM) (PO VC):=by
 intro G j x h k b e;exact wpAny_Expr_any (bW (c G j x h _ b e) λu l ⟨f,UD,g,m,i⟩=>⟨x,UD,g,i⟩) b.quiet UH
def TG(VC:cf):e2:=(λk x h=>VC x h k.dR)
def Cf(b:bU a d VC):hx a (.Return (Z d) UM) (TG VC):=by
 intro G j x h k c e;exact wpAny_Return_some (bW (b G j x h _ c e) λu m ⟨f,UD,g,i,l⟩=>⟨f,x,UD,g,i,l⟩)
def Sj(n:eF)(I H:e2):e2:=(λk x h=>n x h λc UD=>if c=aa then I k x UD else H k x UD)
def Gm{g c:List bz}(i:hL a n VY)(l:gs a g I)(m:gs a c H):hx a (.If n g c UM) (Sj VY I H):=by
 intro G j x h k o e;refine wpAny_If (bW (i G j x h _ o e) λv b p=>?_);let⟨@UD,d,f⟩:=p;cases v with
 |true=>exact l G b x UD k d f
 |false=>exact m G b x UD k d f
def JZ:e2:=(λ_ W W=>False)
def O8:hx a X JZ:=λ_ W W W W W e=>e.elim
end
abbrev gP:=av->a5->az->(a5->az->Prop)->Prop
abbrev kG:=List av->a5->az->(a5->az->Prop)->Prop
def AO(a:aK)(c:bj)(I:gP)(G:List (ae×a7)):Prop:=(
 ∀(j:ao) (x:a5) (h:az) (u:av) (H:af) (A:a5->az->Prop),aG a G x h j->cm u H->I u x h A->
  wpAny (aS a.prog a.w) a.A (ja c a.env H) (λ_ Ux=>∃b P,aG a G b P Ux/\A b P) a.cL j)
def km(a:aK)(b:bj)(I:gP):Prop:=(∀G,AO a b I G)
def E7(a:aK)(U2:List bj)(I:kG)(G:List (ae×a7)):Prop:=(
 ∀(j:ao) (x:a5) (h:az) (S:List av) (UR:List af) (A:a5->az->Prop),aG a G x h j->bZ S UR->I S x h A->
  wpAny (aS a.prog a.w) a.A (Ak ((hr U2 a.env).map (·.2)) UR) (λ_ Ux=>∃b P,aG a G b P Ux/\A b P) a.cL j)
def p0(a:aK)(U2:List bj)(I:kG):Prop:=(∀G,E7 a U2 I G)
abbrev ze:=av->av->av->az->(az->Prop)->Prop
def z3(a:aK)(I:ze):Prop:=(
 ∀(G:List (ae×a7)) (j:ao) (x:a5) (h:az) (m b u:av) (c d H:af) (A:az->Prop),aG a G x h j->cm m c->cm b d->cm u H->I m b u h A->
  wpAny (aS a.prog a.w) a.A (u0 c d H) (λ_ Ux=>∃P,aG a G x P Ux/\A P) a.cL j)
section
variable{a:aK}{UM:Pos}
def x2(b:Nat):gP:=(λu x h A=>A (x.set b<|Z u) h)
def Qe(c:a.N.Nodup)(Uw:a.N[b]?=Z f)(d:jb a.env.scope f)(g:a.fn f=aa\/a.env.scope.names.lookup f=Z .local:=by first|exact .inl rfl|exact .inr rfl|assumption):km a (.Name f UM) (x2 b):=by
 intro G j x h u H A i r e;exact A7 (uK i c Uw d r (λUx k=>⟨_,h,k,e⟩) g)
def MH:kG:=(λS x h A=>S=[]/\A x h)
def Mh(I:gP)(H:kG):kG:=(λS x h A=>∃u r,S=u::r/\I u x h λa P=>H r a P A)
def Kx:p0 a [] MH:=by
 intro G j x h S UR A b r e;let@⟨d,e⟩:=e;subst d;cases r;exact Gj ⟨x,h,b,e⟩
def QG{I:gP}{H:kG}(t:km a d I)(z:p0 a T H)(UH:(hr (d::T) a.env).map (·.2)=ja d a.env::(hr T a.env).map (·.2):=by rfl):p0 a (d::T) (Mh I H):=by
 intro G j x h S UR A b r e;let⟨u,@m,c,e⟩:=e;subst c;cases r with
 |cons r f=>
  rw[UH];refine Af (bW (t G j x h _ _ _ b r e) λ_ g i=>?_);let⟨VZ,@UD,k,l⟩:=i;exact z G g VZ UD _ _ A k f l
def TS(Q:Φ)(s:Nat)(I:kG):gP:=(λu x h A=>∃g y,u=.ref g/\cp Q h g y/\y.length=s/\I y x h A)
def LW{I:kG}(k:a.calm=aa)(e:p0 a T I)(l:(hr T a.env).length=s:=by rfl)(n:(hr T a.env).findIdx? (·.1)=Y:=by rfl):km a (.Tuple T q UM) (TS a.K s I):=by
 intro G j x h u H A b r f;let⟨g,@y,o,p,t,f⟩:=f;subst o;cases r;let⟨@UI,i,v,B⟩:=b.tuple p;refine assign_Tuple_tuple (b.ok.hd k) v (by simp[l,<-t,i.length]) n λUu w=>?_;have z:aG a G x h {j with heap:=Uu}:=b.kept (Va:=j.toks) λc m d=>w c m (d8<|cb d) d;exact e G _ x h y _ A z ⇑i f
def RO(i a:cf)(I:ze):gP:=(λu x h A=>i x h λm UD=>a x UD λb UT=>I m b u UT λc=>A x c)
def JX{m b:bj}{i k:cf}{I:ze}(n:bU a m i)(Uw:bU a b k)(UH:z3 a I)(o:∀u,ja (.Subscript m b UM) a.env u=(do
   let c <-holding [u] (b6 m a.env)
   let d <-holding [u,c] (b6 b a.env)
   standAt UM
   holding [u,c,d] (u0 c d u)
   release [u,c,d] []):=by intro W;rfl):km a (.Subscript m b UM) (RO i k I):=by
 intro G j x h u H A p r e;rw[o];refine aB (iR<|bW (n G j x h _ p e) λc q g=>?_);let⟨f,@UD,s,t,v⟩:=g;refine aB (iR<|bW (Uw G q x UD _ s v) λd w g=>?_);let⟨l,@UT,y,z,B⟩:=g;refine aB (u2<|aB<|iR<|bW (UH G w x UT f l u c d H _ y t z r B) λ_ F g=>?_);let⟨@C,D,E⟩:=g;exact wpAny_release ⟨x,C,D,E⟩
def xy(VC:cf)(J:gP):e2:=(λk x h=>VC x h λf UD=>J f x UD k.aM)
def J3{J:gP}(b:bU a d VC)(c:km a Vc J)(UH:tR [Vc] d UM.line a.env=pure aq:=by rfl)(g:wj [Vc] d a.env=pure Y:=by rfl)(t:(hr [Vc] a.env).map (·.2)=[ja Vc a.env]:=by rfl):hx a (.Assign [Vc] d UM) (xy VC J):=by
 intro G j x h k i e;refine wpAny_Assign_stores (bW (b G j x h _ i e) λu l ⟨f,UD,m,n,o⟩=>?_) UH g;rw[t];exact bW (c G l x UD f u _ m n o) λ_ q p=>p
def BQ{VQ:Pos}(c:a.N.Nodup)(Uw:a.N[b]?=Z f)(g:jb a.env.scope f)(i:bU a d VC)(UH:me d (Z<|.Name f VQ) UM.line a.env=pure aq:=by rfl)(m:a.fn f=aa\/a.env.scope.names.lookup f=Z .local:=by first|exact .inl rfl|exact .inr rfl|assumption):
  hx a (.Assign [.Name f VQ] d UM) (xy VC<|x2 b):=by
 intro G j x h k n e;refine wpAny_Assign_Name (bW (i G j x h _ n e) λu s ⟨l,UD,o,p,q⟩=>?_) UH;exact uK o c Uw g p (λt r=>⟨_,UD,r,q⟩) m
def JC(b w:Nat)(Vo:fh):e2:=(λk x h=>Vo x h λS UD=>∃u C,S=[u,C]/\k.aM ((x.set b<|Z u).set w<|Z C) UD)
def Kf{l:aF}{g c:bj}{jR r pt:Pos}{Vr U9 s}(E:a.calm=aa)(v:a.N.Nodup)(Uw:a.N[b]?=Z f)(F:a.N[w]?=Z l)(H:b≠w)(y:a.env.scope.names.lookup f=Z .local)(z:a.env.scope.names.lookup l=Z .local)(I:gD a [g,c] Vo)(J:wj [.Tuple [.Name f jR,.Name l r] Vr pt] (.Tuple [g,c] U9 s) a.env=pure (Z [f,l]))(UH:tR [.Tuple [.Name f jR,.Name l r] Vr pt] (.Tuple [g,c] U9 s) UM.line a.env=pure aq:=by rfl):
  hx a (.Assign [.Tuple [.Name f jR,.Name l r] Vr pt] (.Tuple [g,c] U9 s) UM) (JC b w Vo):=by
 intro G j x h k B e;rw[exec_Assign_arm];refine aB (u2 ?_);rw[UH];refine aB (a_ ?_);rw[aO ∅];refine aB (Tuple_<|bW (I _ G j x h _ B e) λUR i L=>?_);let⟨S,@UD,M,P,t⟩:=L;let⟨u,@C,Q,t⟩:=t;subst Q;obtain⟨n,q,rfl,R,T⟩:∃n q,UR=[n,q]/\cm u n/\cm C q:=by
  cases P with
  |cons o p=>
   cases p with
   |cons al am=>
    cases am;exact⟨_,_,rfl,o,al⟩
 refine i4 ?_ (by show 2<=sizeLine;decide);have an:aG a G x UD {i with heap:=i.heap.push {cls:=.type "tuple",data:=.seq [n,q].toArray} }:=M.kept (Va:=i.toks) λc m d=>b5 _ d;rw[J];refine aB (a_ ?_);show wpAny (aS a.prog a.w) a.A (do rule "assign.swapped-stores";let U4 <-unpackItems (.ref i.heap.objs.size) 2 Y;Ak [λu=>uI a.env l u,λu=>uI a.env f u] U4.reverse;pure Flow.next) _ _ _;refine aB (iA<|aB<|unpackItems_tuple (items:=#[n,q]) (B.ok.hd E) (nW.new i.heap _) λUu ap=>?_);have as:=an.kept (Uu:=Uu) (Va:=i.toks) λc m d=>ap c m (d8<|cb d) d;show wpAny _ _ (Ak [λu=>uI a.env l u,λu=>uI a.env f u] [q,n] >>= λ_=>pure Flow.next) _ _ _;refine aB (Af<|DB<|uK as v F (.inl z) T (λa2 a1=>?_)<|.inr z);refine Af (DB<|uK a1 v Uw (.inl y) R (λbd D=>Gj<|a_ ?_)<|.inr y);rw[x3 _ _ (f6 H)]at D;exact⟨_,UD,D,t⟩
def LI(n:eF)(VE:e2):e2:=(λk x h=>∃W:Nat->a5->az->Prop,(∃E,W E x h)/\∀E x h,W E x h->
 n x h λc UD=>if c=aa then ∃UZ:a5->az->Prop,(∀a P,UZ a P->∃b,b<E/\W b a P)/\VE {k with aM:=UZ,cG:=UZ,dI:=k.aM} x UD else k.aM x UD)
def M4(p:oW (aS a.prog a.w) a.A a.env a.cL)(v:hL a n VY)(y:gs a VN VE):hx a (.While n VN [] UM) (LI VY VE):=by
 intro G j x h k z e;let⟨@W,⟨@B,iN⟩,turn⟩:=e;refine wpAny_While (codeAny_whileLoop (λs Ux=>∃q P,aG a G q P Ux/\W s q P) ?_ B ⟨x,h,z,iN⟩);rintro s D ⟨VZ,UD,E,dC⟩;refine oh p (bW (v G D VZ UD _ E<|turn s VZ UD dC) λc F H=>?_);let⟨@UT,r,f⟩:=H;cases c with
 |true=>
  let⟨@UZ,t,f⟩:=f;rw[aJ rfl];refine oh p (bW (y G F VZ UT _ r f) λL I g=>?_);cases L with
  |next=>
   let⟨b,@d,i,l⟩:=g;let⟨@m,o,fo⟩:=t b d l;exact⟨m,o,b,d,i,fo⟩
  |cont=>
   let⟨b,@d,i,l⟩:=g;let⟨@m,o,fo⟩:=t b d l;exact⟨m,o,b,d,i,fo⟩
  |brk=>exact g
  |ret u=>exact g
 |false=>
  rw[aO ek];exact pn ⟨VZ,UT,r,f⟩
end
structure fj where
 go:Nat->az->Prop
 qz:Nat->az->av->az->Prop
 stop:Nat->az->Prop
def j0(a:aK)(G:List (ae×a7))(h:az)(c:ae):Prop:=(
 h c=Y/\c≠a.env.locals/\c∉a.ar/\(c∈a.ex\/a.eK.heap.objs.size<=c)/\(∀f n,a.env.cells.lookup f=Z n->n≠c)/\∀o∈a.gN++G,o.1≠c)
def aG.ry(b:aG a G x h j)(e:j.heap.objs.size<=c)(g:P c=Y):j0 a G P c:=by
 refine⟨g,jL<|fe b.lt e,b.MP e,.inr<|fl b.iW e,λf n d i=>?_,λo k i=>?_⟩
 ·let⟨@u,p⟩:=b.cell f n d;exact absurd (fe p.lt (by rw[i];exact e)) (i1 _)
 ·exact absurd (fe (cb (b.pin o k).1) (by rw[i];exact e)) (i1 _)
structure pa(UB:bC)(C:bg)(Q:Φ)(Vc:bj)(Vh:fj)(cN:List ae)(Uz:ae)(B:Nat->aZ->Prop):Prop where
 mem:Uz∈cN
 obj:∀b e,B b e->∀c∈cN,∃m,e.get? c=Z m/\∀u,m.data≠.cell u
 keep:∀b e Uu,B b e->(∀c∈cN,∀m,e.get? c=Z m->Uu.get? c=Z m)->B b Uu
 item:∀(a:aK),a.prog=UB->a.w=C->a.K=Q->a.calm=aa->∀(b:Nat) (G:List (ae×a7)) (j:ao) (x:a5) (h:az) (Uv:af->ao->Prop),aG a G x h j->(∀c∈cN,j0 a G h c)->B b j.heap->Vh.go b h->
  wpAny (aS UB C) a.A (hO<|.ref Uz) (λr s1=>∃H,r=Z H/\
   wpAny (aS UB C) a.A (ql Vc (.ref Uz) H) (λ_ s2=>∃f P,aG a G x P s2/\cm f H/\Vh.qz b h f P/\B (b+1) s2.heap/\∀c∈cN,P c=Y) Uv s1) Uv j
 done:∀(a:aK),a.prog=UB->a.w=C->a.K=Q->a.calm=aa->∀(b:Nat) (G:List (ae×a7)) (j:ao) (x:a5) (h:az) (Uv:af->ao->Prop),aG a G x h j->(∀c∈cN,j0 a G h c)->B b j.heap->Vh.stop b h->
  wpAny (aS UB C) a.A (hO<|.ref Uz) (λr s1=>r=Y/\aG a G x h s1) Uv j
 self:∀(O:bB) (b:Nat) (j:ao) (A:af->ao->Prop) (Uv:af->ao->Prop),B b j.heap->A (.ref Uz) j->wpAny (aS UB C) O (s7<|.ref Uz) A Uv j
abbrev bX:=a5->az->(fj->az->Prop)->Prop
def Ex(a:aK)(G:List (ae×a7))(x:a5)(Vc:bj)(UA:fj->az->Prop)(d:af)(b:ao):Prop:=(
 ∃(Uz:ae) (cN:List ae) (B:Nat->aZ->Prop) (Vh:fj) (P:az),d=.ref Uz/\aG a G x P b/\pa a.prog a.w a.K Vc Vh cN Uz B/\B 0 b.heap/\(∀c∈cN,j0 a G P c)/\UA Vh P)
def Fg(a:aK)(Vc Vy:bj)(VT:bX)(G:List (ae×a7)):Prop:=(
 ∀(j:ao) (x:a5) (h:az) (UA:fj->az->Prop),aG a G x h j->VT x h UA->
  wpAny (aS a.prog a.w) a.A (b6 Vy a.env) (λu b=>wpAny (aS a.prog a.w) a.A (s7 u) (Ex a G x Vc UA) a.cL b) a.cL j)
def kB(a:aK)(Vc Vy:bj)(VT:bX):Prop:=(∀G,Fg a Vc Vy VT G)
def yg{aE:gn}{Uv:af -> ao -> Prop}{m:a7}{s:String}{S:Array af}{A:Unit -> ao -> Prop}(b:j.heap.get? Uz=Z m)(c:m.cls=.type s)(hd:m.data=.fields S)(d:["enumerate", "zip", "dict_itemiterator", "dict_reverseitemiterator", "odict_iterator", "itertools.zip_longest", "itertools.pairwise"].contains s=aq)(a:A () j): wpAny aE O (ql Vc (.ref Uz) H) A Uv j:=by
  unfold ql;cases Vc <;> first
    | exact a_ a
    | (cases H <;> first
        | exact a_ a
        | (refine aB (wpAny_load b ?_)
           rw [c,hd];show wpAny aE O (if (["enumerate", "zip", "dict_itemiterator", "dict_reverseitemiterator", "odict_iterator", "itertools.zip_longest", "itertools.pairwise"].contains s&&S[0]? == Z (i9 _))=aa then _ else _) A Uv j;rw [aO (by intro e; rw [d,Bool.false_and]at e; cases e)];exact a_ a))
def rI(Q:Φ)(g:ae):fj:=(
 ⟨λb h=>∃y f,dm Q h g y/\y[b]?=Z f,λb h f P=>P=h/\∀y,dm Q h g y->y[b]?=Z f,λb h=>∃y,dm Q h g y/\y.length<=b⟩)
def tj(Q:Φ)(g:ae):fj:=(
 ⟨λb h=>∃y f,cp Q h g y/\y[b]?=Z f,λb h f P=>P=h/\∀y,cp Q h g y->y[b]?=Z f,λb h=>∃y,cp Q h g y/\y.length<=b⟩)
def vt(D:Int)(s:Nat):fj:=(⟨λb W=>b<s,λb h f P=>P=h/\f=.int (D+b),λb W=>s<=b⟩)
theorem RR(g Uz:ae):pa UB C Q Vc (rI Q g) [Uz] Uz (λb e=>e.IsListIter Uz g b) where
 mem:=by simp
 obj:=λb e X c k=>by
  have d:c=Uz:=by simpa using k
  subst d;let⟨@m,d,n,v⟩:=X;exact⟨m,d,λu i=>by rw[v]at i;cases i⟩
 keep:=λb e Uu X q=>X.at λm d=>q Uz ↥0 m d
 item:=by
  intro a s t w L b G j x h Uv l p X z;subst s t w;let⟨y,@f,r,A⟩:=z;let⟨@UI,B,o,N⟩:=l.list r;let⟨@H,O,P⟩:=B.get A;let@⟨D,E,R,F,I,J⟩:=p Uz ↥0;refine wpAny_pyNext_list_item X o.isList (x:=H) ⇑O λUu M b8=>?_;have S:aG a G x h {j with heap:=Uu}:=l.turned (Va:=j.toks) (λc m k d=>(b8.2 c k).trans d) D E F I J;let⟨@m,d,n,v⟩:=id M;exact⟨H,rfl,yg (j:={j with heap:=Uu}) d n v ∅ ⟨f,h,S,P,⟨rfl,λUL T=>by rw[l.H9 T r];exact A⟩,M,λc k=>(p c k).1⟩⟩
 done:=by
  intro a s t w L b G j x h Uv l p X z;subst s t w;let⟨@y,r,A⟩:=z;let⟨@UI,B,o,N⟩:=l.list r;let@⟨D,E,R,F,I,J⟩:=p Uz ↥0;have al:=B.length;exact wpAny_pyNext_list_end (l.ok.hd L) X o.isList (by simp;lia) λUu U=>⟨rfl,l.turned (Va:=j.toks) (λc m k d=>U c m k d) D E F I J⟩
 self:=λ_ W W W W X e=>wpAny_pyIter_listiter X e
theorem Qm(g Uz:ae):pa UB C Q Vc (tj Q g) [Uz] Uz (λb e=>e.IsTupleIter Uz g b) where
 mem:=by simp
 obj:=λb e X c k=>by
  have d:c=Uz:=by simpa using k
  subst d;let⟨@m,d,n,v⟩:=X;exact⟨m,d,λu i=>by rw[v]at i;cases i⟩
 keep:=λb e Uu X q=>X.at λm d=>q Uz ↥0 m d
 item:=by
  intro a s t w L b G j x h Uv l p X z;subst s t w;let⟨y,@f,r,A⟩:=z;let⟨@UI,B,o,N⟩:=l.tuple r;let⟨@H,O,P⟩:=B.get A;let@⟨D,E,R,F,I,J⟩:=p Uz ↥0;refine wpAny_pyNext_tuple_item X (show j.heap.IsTuple g UI.toArray from o) (x:=H) ⇑O λUu M b8=>?_;have S:aG a G x h {j with heap:=Uu}:=l.turned (Va:=j.toks) (λc m k d=>(b8.2 c k).trans d) D E F I J;let⟨@m,d,n,v⟩:=id M;exact⟨H,rfl,yg (j:={j with heap:=Uu}) d n v ∅ ⟨f,h,S,P,⟨rfl,λUL T=>by rw[l.v5 T r];exact A⟩,M,λc k=>(p c k).1⟩⟩
 done:=by
  intro a s t w L b G j x h Uv l p X z;subst s t w;let⟨@y,r,A⟩:=z;let⟨@UI,B,o,N⟩:=l.tuple r;let@⟨D,E,R,F,I,J⟩:=p Uz ↥0;have al:=B.length;exact wpAny_pyNext_tuple_end (l.ok.hd L) X (show j.heap.IsTuple g UI.toArray from o) (by simp;lia) λUu U=>⟨rfl,l.turned (Va:=j.toks) (λc m k d=>U c m k d) D E F I J⟩
 self:=λ_ W W W W X e=>wpAny_pyIter_tupleiter X e
theorem Jh(Uz:ae)(D:Int)(s:Nat):pa UB C Q Vc (vt D s) [Uz] Uz (λb e=>IsRangeIter e Uz (D+(b:Nat)*1) ((s:Int)-(b:Nat)) 1) where
 mem:=by simp
 obj:=λb e X c f=>by
  have d:c=Uz:=by simpa using f
  subst d;exact⟨_,X,λu i=>by
   have E:Data.fields _=Data.cell u:=i;cases E⟩
 keep:=λb e Uu X q=>q Uz ↥0 _ X
 item:=by
  intro a l n o p b G j x h Uv g k X r;subst l n o;let@⟨t,v,F,y,z,A⟩:=k Uz ↥0;have W:=od.range (prog:=a.prog) (w:=a.w) (g.ok.hd p) Uz D 1 s;refine W.item b j _ _ r X λu Uu Vn H B fc=>?_;let⟨@I,rfl⟩:=H;have J:aG a G x h {j with heap:=Uu,toks:=Vn}:=g.turned (λc m f d=>fc c m ⇑f d) t v y z A;refine⟨_,rfl,yg (j:={j with heap:=Uu,toks:=Vn}) (s := "range_iterator") B rfl rfl ∅ ⟨.int<|D+b,h,J,⟨I,?_⟩,⟨rfl,rfl⟩,B,λc f=>(k c f).1⟩⟩;rw[H_]
 done:=by
  intro a l n o p b G j x h Uv g k X r;subst l n o;let@⟨t,v,F,y,z,A⟩:=k Uz ↥0;exact wpAny_pyNext_range_end (g.ok.hd p) X (by have:s<=b:=r;lia) λUu L=>⟨rfl,g.turned (Va:=j.toks) (λc m f d=>L c m f d) t v y z A⟩
 self:=λ_ U U U U X e=>wpAny_pyIter_rangeiter X e
section
variable{a:aK}{Vc:bj}
def Jv{UA:fj->az->Prop}{D Uw:Int}{I H u:ib}{Vn:Nat}(e:aG a G x h j)(t : -(2^62)<=D)(z:D<2^62)(f : -(2^62)<=Uw)(g:Uw<2^62)(p:UA (vt D (Uw-D).toNat) h):wpAny (aS a.prog a.w) a.A (s7<|.ref j.heap.objs.size) (Ex a G x Vc UA) Uv {j with heap:=j.heap.push {cls:=.type "range",data:=.fields #[.int D I,.int Uw H,.int 1 u]},toks:=Vn}:=by
 refine wpAny_pyIter_range (IsRange.new ..) (small_one t z f g) ?_;have b:aG a G x h {j with heap:=j.heap.push {cls:=.type "range",data:=.fields #[.int D I,.int Uw H,.int 1 u]},toks:=Vn}:=e.kept λc m d=>b5 _ d;refine⟨(j.heap.push {cls:=.type "range",data:=.fields #[.int D I,.int Uw H,.int 1 u]}).objs.size,[(j.heap.push {cls:=.type "range",data:=.fields #[.int D I,.int Uw H,.int 1 u]}).objs.size],_,_,h,rfl,
  b.kept (Va:=Vn) λc m d=>b5 _ d,Jh _ D (Uw-D).toNat,?_,λc i=>?_,p⟩
 ·have k:D+((0:Nat):Int)*1=D:=by simp
  have l:(((Uw-D).toNat:Nat):Int)-((0:Nat):Int)=bw.Range.rangeSize D Uw 1:=by rw[rangeSize_one];split<;>lia
  show IsRangeIter _ _ (D+((0:Nat):Int)*1) ((((Uw-D).toNat:Nat):Int)-((0:Nat):Int)) 1;rw[k,l];exact dr _ rfl
 ·have d:c=(j.heap.push {cls:=.type "range",data:=.fields #[.int D I,.int Uw H,.int 1 u]}).objs.size:=by simpa using i
  subst d;exact b.ry (bT _) (b.aT.fresh<|bT _)
def LP(Vo:fh):bX:=(λx h UA=>Vo x h λS UD=>∃w:Int,S=[.int w] /\ -(2^62)<=w/\w<2^62/\UA (vt 0 w.toNat) UD)
def QR{g:bj}{o:Pos}(f:ey a "range")(i:a.ay "range" = Y)(k:gD a [g] Vo)(UH:bK [g] a.env=[(aq,b6 g a.env)]:=by rfl):kB a Vc (.Call (.Name "range" o) [g] [] UM) (LP Vo):=by
 intro G j x h UA c e;refine Call_ (pS c f i boot_range<|uE (bW (k UM G j x h _ c e) λUR s ⟨S,UD,l,m,b⟩=>?_) UH rfl);let⟨@w,d,b,n,p⟩:=b;subst d;cases m with
 |cons r q=>
  cases q;let⟨@I,rfl⟩:=r;exact call_range_1 (Jv l ⋯ ⋯ b n ⇑p)
def Bi(VT:bX)(J:gP)(VE:e2):e2:=(λk x h=>VT x h λVh UD=>∃W:Nat->Nat->a5->az->Prop,(∃E,W 0 E x UD)/\∀b E x h,W b E x h->
 (Vh.stop b h/\k.aM x h)\/(Vh.go b h/\∃UZ:a5->az->Prop,(∀a P,UZ a P->∃c,c<E/\W (b+1) c a P)/\∀f P,Vh.qz b h f P->J f x P λd UT=>VE {k with aM:=UZ,cG:=UZ,dI:=k.aM} d UT))
def nH(cN:List ae)(e:aZ):List (ae×a7):=(cN.filterMap λc=>(e.get? c).map λm=>(c,m))
def td{m:a7}(a:c∈cN)(d:e.get? c=Z m):(c,m)∈nH cN e:=EU.mpr ⟨c,a,by rw[d];rfl⟩
def AP{o:ae×a7}(a:o∈nH cN e):o.1∈cN/\e.get? o.1=Z o.2:=by
 let⟨@c,b,d⟩:=EU.mp a;cases p:e.get? c with
 |none=>rw[p]at d;cases d
 |some m=>
  rw[p]at d;have f:(c,m)=o:=Option.some.inj d;subst f;exact⟨b,p⟩
def aG.pinned(b:aG a G x h j)(g:∀c∈cN,j0 a G h c)(k:∀c∈cN,∃m,j.heap.get? c=Z m/\∀u,m.data≠.cell u):aG a (G++nH cN j.heap) x h j:=
 b.ph λo l=>(dv.mp l).elim (λi=>b.pin o<|ei _ i) λi=>by
  let@⟨e,d⟩:=AP i;let@⟨n,p,q,_⟩:=g o.1 e;let⟨@m,f,v⟩:=k o.1 e;rw[d]at f;cases f;exact⟨d,n,p,q,v⟩
def aG.xm{bF:List (ae×a7)}(b:aG a (G++bF) x h j):aG a G x h j:=b.ph λo c=>b.pin o (ei _<|eG _ c)
def BD{Vy:bj}{VT:bX}{J:gP}(q:oW (aS a.prog a.w) a.A a.env a.cL)(T:a.calm=aa)(Uw:kB a Vc Vy VT)(bd:km a Vc J)(g:gs a VN VE)(UH:∀f,lS Vy a.env f=pure f:=by intro U;rfl):hx a (.For Vc Vy VN [] UM) (Bi VT J VE):=by
 intro G j x h k be e;refine wpAny_For (bW (Uw G j x h _ be e) λu f0 t=>bW t λf1 f2 z=>?_) UH;let⟨Uz,cN,B,Vh,@UT,d,bi,F,bm,al,⟨@W,⟨@bn,iN⟩,turn⟩⟩:=z;subst d;have N:∀{P:az},(∀c∈cN,P c=Y)->∀c∈cN,j0 a G P c:=λbs c g=>⟨bs c g,(al c g).2⟩;refine codeAny_forLoop_any (λs Ux=>∃b y P,aG a G y P Ux/\B b Ux.heap/\(∀c∈cN,P c=Y)/\W b s y P) ?_ bn ⟨0,x,UT,bi,bm,λc g=>(al c g).1,iN⟩;rintro s am ⟨b,D,M,an,ap,as,fo⟩;rcases turn b s D M fo with ⟨stop,bv⟩|⟨go,UZ,ca,step⟩
 ·refine oh q (bW (F.done a rfl rfl rfl T b G am D M a.cL an (N as) ap stop) λr cd p=>?_);let@⟨Q,ce⟩:=p;subst Q;exact pn ⟨D,M,ce,bv⟩
 ·refine oh q (bW (F.item a rfl rfl rfl T b G am D M a.cL an (N as) ap go) λr cd p=>?_);let⟨@H,Q,ch⟩:=p;subst Q;refine oh q (bW ch λ_ a1 p=>?_);let⟨f,@a2,ci,fZ,cl,R,co⟩:=p;have cr:=ci.pinned (N co) (F.obj _ _ R);refine oh q (bW (bd _ a1 D a2 f H _ cr fZ<|step f a2 cl) λ_ cs p=>?_);let⟨db,@ds,dL,eq⟩:=p;refine oh q (bW (g _ cs db ds _ dL eq) λL S o=>?_);have again:∀{i:a5}{l:az},aG a (G++nH cN a1.heap) i l S->UZ i l->∃E,E<s/\∃b y P,aG a G y P S/\B b S.heap/\(∀c∈cN,P c=Y)/\W b E y P:=λ{i l} n I=>by
   let⟨@ev,ex,fd⟩:=ca i l I;refine⟨ev,ex,b+1,i,l,n.xm,F.keep _ _ _ R λc g m d=>(n.pin (c,m)<|ei _<|ei _<|td g d).1,λc g=>?_,fd⟩;let⟨@m,d,v⟩:=F.obj _ _ R c g;exact (n.pin (c,m)<|ei _<|ei _<|td g d).2.1
  cases L with
  |next=>let⟨i,@l,n,I⟩:=o;exact again n I
  |cont=>let⟨i,@l,n,I⟩:=o;exact again n I
  |brk=>let⟨i,@l,n,o⟩:=o;exact⟨i,l,n.xm,o⟩
  |ret u=>let⟨fn,i,@l,n,fr,o⟩:=o;exact⟨fn,i,l,n.xm,fr,o⟩
end
abbrev b3:=av->av->az->cJ->Prop
variable{Vs r:b3}
def dV(a:aK)(L:af->af->ef af)(r:b3):Prop:=(
 ∀(G:List (ae×a7)) (j:ao) (x:a5) (h:az) (f l:av) (u H:af) (A:cJ),aG a G x h j->cm f u->cm l H->r f l h A->
  wpAny (aS a.prog a.w) a.A (L u H) (eN a G x A) a.cL j)
def xB(a:aK)(L:af->ef af)(r:av->az->cJ->Prop):Prop:=(
 ∀(G:List (ae×a7)) (j:ao) (x:a5) (h:az) (f:av) (u:af) (A:cJ),aG a G x h j->cm f u->r f h A->
  wpAny (aS a.prog a.w) a.A (L u) (eN a G x A) a.cL j)
def eY(a:aK)(L:af)(r:List av->az->cJ->Prop):Prop:=(
 ∀(G:List (ae×a7)) (j:ao) (x:a5) (h:az) (y:List av) (UR:List af) (A:cJ),aG a G x h j->bZ y UR->r y h A->
  wpAny (aS a.prog a.w) a.A (call L UR) (eN a G x A) a.cL j)
def SG(a:aK)(r:av->az->(Bool->az->Prop)->Prop):Prop:=(
 ∀(G:List (ae×a7)) (j:ao) (x:a5) (h:az) (f:av) (u:af) (A:Bool->az->Prop),aG a G x h j->cm f u->r f h A->
  wpAny (aS a.prog a.w) a.A (truthy u) (tp a G x A) a.cL j)
def sV(r:b3)(Vo VE:cf):cf:=(λx h A=>Vo x h λf UD=>VE x UD λl UT=>r f l UT A)
def Pu(r:av->az->cJ->Prop)(Vo:cf):cf:=(λx h A=>Vo x h λf UD=>r f UD A)
def p4(aH:Int->Int->Prop)(J:Int->Int->av):b3:=(λf l h A=>∃b w,f=.int b/\l=.int w/\aH b w/\A (J b w) h)
def lZ(J:Int->Int->av):b3:=(λf l h A=>∃b w,f=.int b/\l=.int w/\A (J b w) h)
def C1(J:Int->av):av->az->cJ->Prop:=(λf h A=>∃b,f=.int b/\A (J b) h)
section
variable{a:aK}{g c n:bj}{Vo VE VY:cf}{UM:Pos}
def xn(i:bU a g Vo)(k:bU a c VE){G:List (ae×a7)}{j:ao}{x:a5}{h:az}{UA:av->av->az->Prop}(m:aG a G x h j)(e:Vo x h λf UD=>VE x UD λl UT=>UA f l UT){A:af->ao->Prop}{L:af->af->ef af}(n:∀u H b f l UT,aG a G x UT b->cm f u->cm l H->UA f l UT->wpAny (aS a.prog a.w) a.A (L u H) A a.cL b):
  wpAny (aS a.prog a.w) a.A (b6 g a.env) (λu o=>wpAny (aS a.prog a.w) a.A (b6 c a.env) (λH p=>wpAny (aS a.prog a.w) a.A (L u H) A a.cL p) a.cL o) a.cL j:=by
 refine bW (i G j x h _ m e) λu q d=>?_;let⟨f,@UD,r,s,t⟩:=d;refine bW (k G q x UD _ r t) λH b d=>?_;let⟨l,@UT,v,y,z⟩:=d;exact n u H b f l UT v s y z
def Qp{Vk:xS}(b:dV a (gk Vk) r)(d:bU a g Vo)(i:bU a c VE):bU a (.BinOp g Vk c UM) (sV r Vo VE):=by
 intro G j x h A k e;exact wpAny_BinOp (xn d i k e λu H m f l UT n o q p=>b G m x UT f l u H A n o q p)
def RF{Vk:UnaryOp}{r:av->az->cJ->Prop}(b:xB a (unaryOp Vk) r)(c:bU a g Vo):bU a (.UnaryOp Vk g UM) (Pu r Vo):=by
 intro G j x h A d e;exact UnaryOp_ (bW (c G j x h _ d e) λu i ⟨f,UD,k,l,m⟩=>b G i x UD f u A k l m)
def u3{aH:Int->Int->Prop}(c:∀(b w:Int) (I H:ib) (j:ao) (A:af->ao->Prop) (Uv:af->ao->Prop),aH b w->A (.int (J b w) j.toks) {j with toks:=j.toks+1}->wpAny (aS a.prog a.w) a.A (L (.int b I)<|.int w H) A Uv j):
  dV a L (p4 aH λb w=>.int<|J b w):=by
 intro G j x h f l u H A d g i e;let⟨b,@w,rfl,rfl,k,p⟩:=e;let⟨@I,rfl⟩:=g;let⟨@Va,rfl⟩:=i;exact c b w I Va j _ _ k ⟨.int<|J b w,h,d.tok _,⟨_,rfl⟩,p⟩
def HT(c:∀(b w:Int) (I H:ib) (j:ao) (A:af->ao->Prop) (Uv:af->ao->Prop),A (.int (J b w) j.toks) {j with toks:=j.toks+1}->wpAny (aS a.prog a.w) a.A (L (.int b I)<|.int w H) A Uv j):
  dV a L (lZ λb w=>.int<|J b w):=by
 intro G j x h f l u H A d g i e;let⟨b,@w,rfl,rfl,p⟩:=e;let⟨@I,rfl⟩:=g;let⟨@Va,rfl⟩:=i;exact c b w I Va j _ _ ⟨.int<|J b w,h,d.tok _,⟨_,rfl⟩,p⟩
def uk{J:Int->Int->Bool}(c:∀(b w:Int) (I H:ib) (j:ao) (A:af->ao->Prop) (Uv:af->ao->Prop),A (.bool<|J b w) j->wpAny (aS a.prog a.w) a.A (L (.int b I)<|.int w H) A Uv j):
  dV a L (lZ λb w=>.aC<|J b w):=by
 intro G j x h f l u H A d g i e;let⟨b,@w,rfl,rfl,p⟩:=e;let⟨@I,rfl⟩:=g;let⟨@Va,rfl⟩:=i;exact c b w I Va j _ _ ⟨.aC<|J b w,h,d,rfl,p⟩
def Om(b w:Int):Prop:=(0<w/\w<1073741824)
def RL(b w:Int):Prop:=(0<=w/\w<=1000000/\b.natAbs<2^64)
def Jy:dV a (gk .Add) (lZ λb w=>.int<|b+w):=HT λ_ W W W W W W p=>add_int p
def Jb:dV a (gk .Sub) (lZ λb w=>.int<|b-w):=HT λ_ W W W W W W p=>sub_int p
def L9:dV a (gk .FloorDiv) (p4 Om λb w=>.int<|b/w):=u3 λb w W W W W W c p=>by
 have t:(0:Int)<w:=c.1;have z:w<1073741824:=c.2;exact floordiv_int ⋯ (by rw[Int.fdiv_eq_ediv_of_nonneg b ⋯];exact p) (.inl (PyProof.noPylong_small ⋯))
def KC:dV a (gk .Mod) (p4 (λ_ w=>0<w) λb w=>.int<|b%w):=u3 λb w W W W W W c p=>by
 have t:(0:Int)<w:=c;exact mod_int' ⋯ (by rw[Int.fmod_eq_emod_of_nonneg b ⋯];exact p)
def Sm:dV a (gk .Pow) (p4 RL λb w=>.int<|b^w.toNat):=u3 λ_ W W W W W W c p=>pow_int_small c.1 c.2.1 c.2.2 p
def KQ{L:af->ef af}{J:Int->Int}(c:∀(b:Int) (I:ib) (j:ao) (A:af->ao->Prop) (Uv:af->ao->Prop),A (.int (J b) j.toks) {j with toks:=j.toks+1}->wpAny (aS a.prog a.w) a.A (L<|.int b I) A Uv j):
  xB a L (C1 λb=>.int<|J b):=by
 intro G j x h f u A d g e;let⟨@b,rfl,p⟩:=e;let⟨@I,rfl⟩:=g;exact c b I j _ _ ⟨.int<|J b,h,d.tok _,⟨_,rfl⟩,p⟩
def P5:xB a (unaryOp .USub) (C1 λb=>.int<|-b):=KQ λ_ W W W W p=>neg_int p
def LZ{A:cJ}{q b:Bool}(c:aG a G x h j)(p:A (.aC q) h)(d:q=b):eN a G x A (.bool b) j:=by
 subst d;exact⟨.aC q,h,c,rfl,p⟩
def N1:dV a (dW .Lt) (lZ λb w=>.aC<|decide (b<w)):=uk λ_ W W W W W W p=>lt_int p
def O_:dV a (dW .LtE) (lZ λb w=>.aC<|decide (b<=w)):=uk λ_ W W W W W W p=>le_int p
def Ox:dV a (dW .Gt) (lZ λb w=>.aC<|decide (w<b)):=uk λ_ W W W W W W p=>gt_int p
def Oq:dV a (dW .GtE) (lZ λb w=>.aC<|decide (w<=b)):=uk λ_ W W W W W W p=>ge_int p
def JV:dV a (dW .IsNot) (λf l h A=>l=.a6/\A (.aC<|!decide (f=.a6)) h):=by
 intro G j x h f l u H A c b d e;let@⟨rfl,p⟩:=e;cases d;refine isnot_none_gen (LZ c p ?_);cases f<;>first
  | (cases b;rfl)
  | (let⟨@I,rfl⟩:=b;rfl)
def dV.or(e:dV a L r)(Uu:dV a L Vs):dV a L (λf l h A=>r f l h A\/Vs f l h A):=by
 intro G j x h f l u H A b c d p;rcases p with p|p
 ·exact e G j x h f l u H A b c d p
 ·exact Uu G j x h f l u H A b c d p
def eg(c:bj){Vk:lT}(e:Vk≠.In:=by decide)(z:Vk≠.NotIn:=by decide):p8 Vk c=aq:=by
 have a:(Vk==lT.In)=aq:=by cases Vk<;>first|rfl|exact absurd rfl e
 have b:(Vk==lT.NotIn)=aq:=by cases Vk<;>first|rfl|exact absurd rfl z
 cases c<;>simp[p8,a,b]
def ND(b:dV a (dW Vk) r)(d:bU a g Vo)(i:bU a c VE)(k:p8 Vk c=aq):bU a (.Compare g [Vk] [c] UM) (sV r Vo VE):=by
 intro G j x h A m e;exact wpAny_Compare1 (xn d i m e λu H n f l UT o q s p=>b G n x UT f l u H A o q s p) k
def AX(I:cf):eF:=(λx h A=>I x h λf P=>∃q,f=.aC q/\A q P)
def IU(b:dV a (dW Vk) r)(k:bU a g Vo)(m:bU a c VE)(o:p8 Vk c=aq):hL a (.Compare g [Vk] [c] UM) (AX<|sV r Vo VE):=by
 intro G j x h A p e;refine wpAny_isTrue_Compare1 (bW (k G j x h _ p e) λu s ⟨f,UD,t,v,w⟩=>bW (m G s x UD _ t w) λH y ⟨l,UT,z,B,C⟩=>
  bW (b G y x UT f l u H _ z v B C) λn J ⟨i,D,E,F,q,d,I⟩=>?_) o;subst d;cases F;exact mq ⟨D,E,I⟩
def w5(r Vs:b3)(Vo VE VY:cf):cf:=(λx h A=>Vo x h λf UD=>VE x UD λl UT=>r f l UT λi a=>∃q,i=.aC q/\
 (if q=aa then VY x a λb c=>Vs l b c A else A (.aC aq) a))
def Jx(p:dV a (dW Vk) r)(s:dV a (dW V1) Vs)(t:bU a g Vo)(w:bU a c VE)(y:bU a n VY)(z:ue [Vk,V1] [c,n]=aq:=by with_unfolding_all rfl):bU a (.Compare g [Vk,V1] [c,n] UM) (w5 r Vs Vo VE VY):=by
 intro G j x h A B e;refine Compare_chain (bW (t G j x h _ B e) λu C ⟨f,UD,D,E,F⟩=>chain_link (bW (w G C x UD _ D F) λH I ⟨l,UT,J,b,L⟩=>
  bW (p G I x UT f l u H _ J E b L) λv M ⟨i,k,m,N,q,d,o⟩=>?_)) z;subst d;cases N;refine mq ?_;cases q with
 |false=>exact ite_ff ⟨.aC aq,k,m,rfl,o⟩
 |true=>exact ite_tt (chain_last<|bW (y G M x k _ m o) λO P ⟨Q,R,S,T,U⟩=>s G P x R l Q H O A S b T U)
def Mn(p:dV a (dW Vk) r)(s:dV a (dW V1) Vs)(t:bU a g Vo)(w:bU a c VE)(y:bU a n VY)(z:ue [Vk,V1] [c,n]=aq:=by with_unfolding_all rfl):hL a (.Compare g [Vk,V1] [c,n] UM) (AX<|w5 r Vs Vo VE VY):=by
 intro G j x h A B e;refine isTrue_chain (bW (t G j x h _ B e) λu C ⟨f,UD,D,E,F⟩=>test_link (bW (w G C x UD _ D F) λH I ⟨l,UT,J,b,L⟩=>
  bW (p G I x UT f l u H _ J E b L) λv M ⟨i,k,m,N,q,d,o⟩=>?_)) z;subst d;cases N;refine mq ?_;cases q with
 |false=>
  let⟨@bd,O,P⟩:=o;cases O;exact ite_ff ⟨k,m,P⟩
 |true=>
  refine ite_tt (test_last<|bW (y G M x k _ m o) λQ R ⟨S,T,U,al,am⟩=>bW (s G R x T l S H Q _ U b al am) λbe bi an=>?_);let⟨bm,@ap,as,fZ,⟨@U9,a1,a2⟩⟩:=an;subst a1;cases fZ;exact mq ⟨ap,as,a2⟩
def Aa(Q:Φ)(f:av)(h:az)(q:Bool):Prop:=(
 match f with
 |.a6=>q=aq
 |.aC c=>q=c
 |.int b=>q=(b != 0)
 |.str l=>l.length<=sizeLine/\q=((l.length:Int) != 0)
 |.sf l=>l.size<=sizeLine/\q=((l.size:Int) != 0)
 |.ref o=>(∃y,dm Q h o y/\q=!y.isEmpty)\/(∃y,cp Q h o y/\q=!y.isEmpty)\/∃UK,h o=Z (.dJ UK)/\q=!UK.isEmpty
 |_=>False)
def RH{UX:Type}{UK:List (UX×av)}{S:List (UX×af)}(r:fY UK S):(!S.isEmpty)=!UK.isEmpty:=by
 cases r<;>rfl
def G4{UI:List af}(r:bZ y UI):(!UI.toArray.isEmpty)=!y.isEmpty:=by
 cases r<;>simp
def oI:(sizeLine:Nat)<2^63:=by rw[uM];decide
def Oz:SG a (λf h A=>∃q,Aa a.K f h q/\A q h):=by
 intro G j x h f u A i k e;let⟨@q,d,p⟩:=e;have z:=oI;have UH:sizeLine=16777216:=uM;cases f with
 |a6=>
  cases k;have g:q=aq:=d;subst g;exact truthy_none ⟨h,i,p⟩
 |aC c=>
  cases k;have g:q=c:=d;subst g;exact mq ⟨h,i,p⟩
 |int b=>
  let⟨@I,rfl⟩:=k;have g:q=(b != 0):=d;subst g;exact PySem.P.truthy_int ⟨h,i,p⟩
 |str l=>
  let⟨@I,rfl⟩:=k;obtain⟨t,g⟩:l.length<=sizeLine/\q=((l.length:Int) != 0):=d;subst g;exact PySem.P.truthy_str ⋯ ⟨h,i.tok _,p⟩
 |sf l=>
  let⟨@I,rfl⟩:=k;obtain⟨t,g⟩:l.size<=sizeLine/\q=((l.size:Int) != 0):=d;subst g;exact PySem.W.truthy_bytes ⋯ ⟨h,i.tok _,p⟩
 |ref o=>
  cases k;have g:(∃y,dm a.K h o y/\q=!y.isEmpty)\/(∃y,cp a.K h o y/\q=!y.isEmpty)\/∃UK,h o=Z (.dJ UK)/\q=!UK.isEmpty:=d;rcases g with ⟨y,m,g⟩|⟨y,m,g⟩|⟨UK,m,g⟩
  ·subst g;let⟨@UI,r,bF,n⟩:=i.list m;have s:=r.length;exact wpAny_truthy_list bF.isList (by simp only[cX];lia) ⟨h,i.tok _,by rw[G4 r];exact p⟩
  ·subst g;let⟨@UI,r,bF,n⟩:=i.tuple m;have s:=r.length;exact truthy_tuple bF (by simp only[cX];lia) ⟨h,i.tok _,by rw[G4 r];exact p⟩
  ·subst g;obtain⟨n,v,S,r,E⟩:UK.length<=sizeLine/\(o==i3)=aq/\∃S,fY UK S/\j.heap.DictOf (mO a.prog a.w) o S:=i.aT o _ m;have s:UK.length=S.length:=er.length r;exact wpAny_truthy_dict v E ⋯ ⟨h,i.tok _,by rw[RH r];exact p⟩
 |_=>exact (show False from d).elim
def ML(c:bU a g Vo)(d:∀b,o8 g a.env b=(do let u <-b;standAt g.pos;holding [u] (truthy u))):
  hL a g (λx h A=>Vo x h λf P=>∃q,Aa a.K f P q/\A q P):=by
 intro G j x h A i e;exact isTrue_plain (bW (c G j x h _ i e) λu k ⟨f,UD,l,m,n⟩=>Oz G k x UD f u A l m n) (d _)
def NU:dV a (gk .Add) (λf l h A=>∃b w,f=.str b/\l=.str w/\b.length+w.length<=sizeLine/\A (.str<|b++w) h):=by
 intro G j x h f l u H A c d g e;let⟨b,@w,rfl,rfl,i,p⟩:=e;let⟨@I,rfl⟩:=d;let⟨@Va,rfl⟩:=g;exact add_str (λVa Vn=>⟨.str<|b++w,h,c.tok _,⟨_,rfl⟩,p⟩) i
def iM{f:av}(r:bZ [f] UR):∃H,UR=[H]/\cm f H:=by
 cases r with
 |cons a b=>cases b;exact⟨_,rfl,a⟩
def qX{f:av}(r:bZ [f,l] UR):∃H a,UR=[H,a]/\cm f H/\cm l a:=by
 cases r with
 |cons b c=>
  cases c with
  |cons d e=>cases e;exact⟨_,_,rfl,b,d⟩
def NS(f:a.calm=aa):eY a (.builtin "max") (λy h A=>∃b w,y=[.int b,.int w]/\A (.int<|if w>b then w else b) h):=by
 intro G j x h y UR A d r e;let⟨b,@w,rfl,p⟩:=e;let⟨H,@g,rfl,⟨@I,rfl⟩,⟨@Va,rfl⟩⟩:=qX r;refine max_two_ints (d.ok.hd f) λUu Vn q=>⟨_,h,d.kept q,?_,p⟩;by_cases c:w>b
 ·rw[aJ c,aJ c];exact⟨_,rfl⟩
 ·rw[aO c,aO c];exact⟨_,rfl⟩
def R7(f:a.calm=aa):eY a (.builtin "min") (λy h A=>∃b w,y=[.int b,.int w]/\A (.int<|if w<b then w else b) h):=by
 intro G j x h y UR A d r e;let⟨b,@w,rfl,p⟩:=e;let⟨H,@g,rfl,⟨@I,rfl⟩,⟨@Va,rfl⟩⟩:=qX r;refine min_two_ints (d.ok.hd f) λUu Vn q=>⟨_,h,d.kept q,?_,p⟩;by_cases c:w<b
 ·rw[aJ c,aJ c];exact⟨_,rfl⟩
 ·rw[aO c,aO c];exact⟨_,rfl⟩
def Nf:eY a (.type "int") (λy h A=>(∃b,y=[.int b]/\A (.int b) h)\/∃q,y=[.aC q]/\A (.int<|if q then 1 else 0) h):=by
 intro G j x h y UR A c r e;rcases e with ⟨b,rfl,p⟩|⟨q,rfl,p⟩
 ·let⟨@H,rfl,⟨@I,rfl⟩⟩:=iM r;exact call_int_int ⟨.int b,h,c,⟨_,rfl⟩,p⟩
 ·let⟨@H,rfl,d⟩:=iM r;cases d;exact call_int_bool ⟨.int<|if q then 1 else 0,h,c.tok _,⟨_,rfl⟩,p⟩
end
def kZ.some_of{m:Option af}(r:kZ (Z u) m):∃H,m=Z H/\cm u H:=by
 cases m with
 |none=>exact (show False from r).elim
 |some H=>exact⟨H,rfl,r⟩
structure ea(q:Nat)(O:bB):Prop where
 hd:O.handled=Y
 x8:O.depth+3*q+5<HH
 un:O.units+16*q+200<b9
 Ce:O.guards=Z []
def ea.mono(r:ea q O)(e:w<=q):ea w O:=⟨r.hd,by have:=r.x8;lia,by have:=r.un;lia,r.Ce⟩
def ea.deeper(r:ea (q+1) O)(U:d0):ea q (O.deeper U):=
 ⟨r.hd,by have:=r.x8;show O.depth+1+3*q+5<_;lia,by have:=r.un;show O.units+3+16*q+200<_;lia,r.Ce⟩
def ea.depth(r:ea q O):O.depth<HH:=by have:=r.x8;lia
def L6:fh:=(λ_ h A=>A [] h)
def SD(Vo:cf)(a:fh):fh:=(λx h A=>Vo x h λf UD=>a x UD λy UT=>A (f::y) UT)
section
variable{a:aK}{d:bj}{T:List bj}{VC:cf}{I:fh}{UM:Pos}
def xv:gD a [] L6:=λ_ W W W h A b e=>Calls.spliced_nil ⟨[],h,b,.nil,e⟩
def so(c:bU a d VC)(g:gD a T I)(UH:bK (d::T) a.env=(aq,b6 d a.env)::bK T a.env:=by rfl):gD a (d::T) (SD VC I):=by
 intro UM G j x h A i e;rw[UH];show wpAny _ _ (spliced ((aq,b6 d a.env)::fG UM (bK T a.env))) _ _ j;refine Calls.spliced_cons (bW (c G j x h _ i e) λH k b=>?_);let⟨f,@UD,l,m,n⟩:=b;refine bW (g UM G k x UD _ l n) λUR r b=>?_;let⟨y,@UT,o,p,q⟩:=b;exact⟨f::y,UT,o,.cons m p,q⟩
def OS(I:fh):cf:=(λx h A=>I x h λy UD=>y.length<=sizeLine/\∀o,UD o=Y->A (.ref o) (upd UD o<|.tup y))
def LO(I:fh):cf:=(λx h A=>I x h λy UD=>y.length<=sizeLine/\∀o,UD o=Y->A (.ref o) (upd UD o<|.lst y))
def Q6{g}(e:gD a T I):bU a (.Tuple T g UM) (OS I):=by
 intro G j x h A k l;refine wpAny_Tuple_spliced (bW (e UM G j x h _ k l) λUR b ⟨y,UD,f,r,i,p⟩=>⟨by rw[<-r.length];exact i,?_⟩);have m:UD b.heap.objs.size=Y:=f.aT.fresh (bT _);refine⟨.ref b.heap.objs.size,upd UD b.heap.objs.size<|.tup y,f.laid (Va:=b.toks) (λc H d=>b5 _ d) (bT _) ?_,rfl,p _ m⟩;exact⟨i,UR,r,⟨_,dr _ rfl,rfl,_,rfl⟩⟩
def PL(e:gD a T I):bU a (.List T UM) (LO I):=by
 intro G j x h A g k;refine wpAny_List_spliced (bW (e UM G j x h _ g k) λUR b ⟨y,UD,f,r,i,p⟩=>⟨by rw[<-r.length];exact i,?_⟩);have l:UD b.heap.objs.size=Y:=f.aT.fresh (bT _);refine⟨.ref b.heap.objs.size,upd UD b.heap.objs.size<|.lst y,f.laid (Va:=b.toks) (λc H d=>b5 _ d) (bT _) ?_,rfl,p _ l⟩;exact⟨i,UR,0,r,dr _ rfl⟩
end
abbrev kj:=List av->az->cJ->fF->Prop
abbrev jo:=List d0->az->ao->fF->af->ao->Prop
variable{VL:jo}
structure um(UB:bC)(C:bg)(Q:Φ)(ay:aF->Option af)(UC:aZ)(O:bB)(U7:List d0)(j:ao)(h:az):Prop where
 frames:O.frames=Z U7
 mod:Mod Q ay UC
 bs:∀c m,UC.get? c=Z m->j.heap.get? c=Z m/\h c=Y
 je:UC.objs.size<=j.heap.objs.size
 gI:j.heap.FunFrames UC U7
 kl:∀c∈di U7,h c=Y
 aT:dt UB C h j.heap
 bare:kW j.gens
def Ae(U7:List d0)(UB:bC)(C:bg)(h:az)(j:ao)(A:cJ)(H:af)(Ux:ao):Prop:=(
 ∃u P,Ux.os=j.os/\kW Ux.gens/\dq (di U7) [] h P j.heap Ux.heap/\dt UB C P Ux.heap/\cm u H/\A u P)
def Mt(VL:jo)(U7:List d0)(UB:bC)(C:bg)(h:az)(j:ao)(A:cJ)(Uv:fF)(r:Result)(Ux:ao):Prop:=(
 match r with
 |.ok (.ret H)=>Ae U7 UB C h j A H Ux
 |.ok _=>False
 |.error d=>VL U7 h j Uv d Ux)
structure gL(UB:bC)(C:bg)(Q:Φ)(ay:aF->Option af)(UC:aZ)(VL:jo)(q:Nat)(L:ae)(fd:gC)(UJ:List aF)(sp:kj):Prop where
 len:∀S h A Uv,sp S h A Uv->S.length=UJ.length
 run:∀(O:bB) (U7:List d0) (j:ao) (h:az) (args:Args) (UR:List af) (S:List av) (A:cJ) (Uv:fF),ea q O->um UB C Q ay UC O U7 j h->mF j fd args (UJ.zip UR)->bZ S UR->sp S h A Uv->
  codeAny (aS UB C) O (.call (.ref L) args) (Mt VL U7 UB C h j A Uv) j
section
variable{a:aK}{G:List (ae×a7)}{x:a5}{h:az}{j Ux:ao}
def aG.By(b:aG a G x h j):um a.prog a.w a.K a.ay a.base a.A a.stack j h:=
 ⟨b.ok.frames,b.ok.mod,b.bs,fl b.ok.je b.iW,b.stack,b.qd,b.aT,b.bare⟩
def aG.after{A:cJ}(b:aG a G x h j)(e:Ae a.stack a.prog a.w h j A H Ux):eN a G x A H Ux:=by
 let⟨u,@P,UN,d,un,aT,r,p⟩:=e;let⟨f,J,v,I,g⟩:=Ux;obtain rfl:g=j.os:=UN;exact⟨u,P,b.call (Uu:=f) (k:=J) (t:=v) (Va:=I) (VI:=[]) un aT d (λc i=>absurd i ↥0),r,p⟩
end
def yo(sp:kj)(i:List av)(Uv:fF)(I:fh):cf:=(λx h A=>I x h λS UD=>sp (S++i) UD A Uv)
def ix(Q:Φ)(fd:gC)(UJ:List aF)(B:List af):Prop:=(
 ∀(j:ao) (UR:List af),Q.In j.heap->(UR++B).length=UJ.length->mF j fd ⟨UR,[]⟩ (UJ.zip<|UR++B))
def ix.all{fd:gC}(e:∀UR:List af,UR.length=UJ.length->mC fd ⟨UR,[]⟩=pure (UJ.zip UR)):ix Q fd UJ []:=λj UR W a=>by
 rw[b_]at a ⊢;exact .of_eq (e UR a)
def ui(VL:jo)(a:aK)(Uv:fF):Prop:=(∀(G:List (ae×a7)) (x:a5) (h:az) (j:ao) (d:af) (Ux:ao),aG a G x h j->VL a.stack h j Uv d Ux->a.cL d Ux)
section
variable{a:aK}{VL:jo}{q:Nat}{L aH:ae}{fd:gC}{UJ:List aF}{sp:kj}{i:List av}{B:List af}{Uv:fF}{f E:aF}{o UM M:Pos}{d m:bj}{T:List bj}{Vo:cf}{I:fh}
def AN{A:cJ}(N:gL a.prog a.w a.K a.ay a.base VL q L fd UJ sp)(g:ea q a.A)(k:ix a.K fd UJ B)(hd:bZ i B)(l:ui VL a Uv)(c:aG a G x h j)(r:bZ S UR)(e:sp (S++i) h A Uv):wpAny (aS a.prog a.w) a.A (call (.ref L) UR) (eN a G x A) a.cL j:=by
 have f:bZ (S++i) (UR++B):=r.append hd;have m:(UR++B).length=UJ.length:=by rw[<-f.length];exact N.len _ _ _ _ e
 refine wpAny_call (uu (N.run a.A a.stack j h ⟨UR,[]⟩ (UR++B) (S++i) A Uv g c.By (k j UR c.kd m) f e) λr Ux b=>?_);cases r with
 |error d=>exact l G x h j d Ux c b
 |ok aU=>
  cases aU with
  |ret H=>exact c.after b
  |next=>exact False.elim b
  |brk=>exact False.elim b
  |cont=>exact False.elim b
def DU(N:gL a.prog a.w a.K a.ay a.base VL q L fd UJ sp)(g:ea q a.A)(k:ey a f)(l:a.ay f=Z (.ref L))(m:Θ a.K (.ref L)=aa)(n:ix a.K fd UJ B)(hd:bZ i B)(s:ui VL a Uv)(t:gD a (d::T) I)(u:(f==("__debug__" : aF))=aq:=by decide)(v:bK (d::T) a.env=(aq,b6 d a.env)::bK T a.env:=by rfl)(y:(fG UM<|bK T a.env).any (·.1)=aq:=by rfl):
  bU a (.Call (.Name f o) (d::T) [] UM) (yo sp i Uv I):=by
 intro G j x h A b e;refine rj (tG b k l ?_ u);refine yY (h₀:=a.base) b.ok.mod.pD m (bW (t UM G j x h _ b e) λUR D ⟨S,UD,c,r,p⟩=>⟨c.kd,?_⟩) v y;exact AN N g n hd s c r p
end
structure kb(UZ UB:List aF)(D:ha):Prop where
 kind:D.kind=.function
 co:D.isCoroutine=aq
 gen:D.isGenerator=aq
 ai:UZ.Nodup
 pre:UZ.take UB.length=UB
 par:∀f∈UB,D.names.lookup f=Z .local\/D.names.lookup f=Z .cell
 QW:∀l∈D.names,l.2≠.free
theorem D6{a:aF->Option da}{f:aF}:∀{binds:List (aF×af)}{E:aF->Option af},(∀u,(f,u)∉binds)->bindL a binds E f=E f
 |[],_,_=>rfl
 | (s,u)::r,E,e=>by
  unfold bindL;rw[D6 λC b=>e C<|l8 _ b];split
  ·have:f≠s:=by rintro rfl;exact e u mK
   simp[this]
  ·rfl
theorem Az{a:aF->Option da}{f:aF}:∀{binds:List (aF×af)}{E:aF->Option af},(∀u,(f,u)∉binds)->bindC a binds E f=E f
 |[],_,_=>rfl
 | (s,u)::r,E,e=>by
  unfold bindC;rw[Az λC b=>e C<|l8 _ b];split
  ·rfl
  ·have:f≠s:=by rintro rfl;exact e u mK
   simp[this]
theorem ER{a:aF->Option da}{f:aF}{u:af}:∀{UB:List aF}{S:List af}{b:Nat}{E:aF->Option af},UB.Nodup->UB[b]?=Z f->S[b]?=Z u->a f=Z .local->
  bindL a (UB.zip S) E f=Z u
 |[],_,_,_,_,e,_,_=>by simp at e
 |_::_,[],_,_,_,_,e,_=>by simp at e
 |o::UB,C::S,0,E,ai,t,z,c=>by
  simp at t z;subst t;subst z;show bindL a ((o,C)::UB.zip S) E o=_;unfold bindL;rw[D6 λu d=>(iI.mp ai).1 (oL d).1,aJ c];simp
 |o::UB,C::S,b+1,E,ai,t,z,c=>by
  show bindL a ((o,C)::UB.zip S) E f=_;unfold bindL;exact ER (b:=b) (iI.mp ai).2 ⇑t ⇑z c
theorem Ao{a:aF->Option da}{f:aF}{u:af}:∀{UB:List aF}{S:List af}{b:Nat}{E:aF->Option af},UB.Nodup->UB[b]?=Z f->S[b]?=Z u->a f≠Z .local->
  bindC a (UB.zip S) E f=Z u
 |[],_,_,_,_,e,_,_=>by simp at e
 |_::_,[],_,_,_,_,e,_=>by simp at e
 |o::UB,C::S,0,E,ai,t,z,c=>by
  simp at t z;subst t;subst z;show bindC a ((o,C)::UB.zip S) E o=_;unfold bindC;rw[Az λu d=>(iI.mp ai).1 (oL d).1,aO c];simp
 |o::UB,C::S,b+1,E,ai,t,z,c=>by
  show bindC a ((o,C)::UB.zip S) E f=_;unfold bindC;exact Ao (b:=b) (iI.mp ai).2 ⇑t ⇑z c
def start(UZ:List aF)(S:List av):a5:=(S.map Z++replicate (UZ.length-S.length) Y)
def h7(VL:jo)(UB:bC)(C:bg)(Q:Φ)(ay:aF->Option af)(UC:aZ)(UZ:List aF)(VA:aF)(US:ha)(L:ae)(VP:af)(O:bB)(U7:List d0)(j:ao)(h:az)(Uv:fF):aK where
 prog:=UB
 w:=C
 K:=Q
 ay:=ay
 base:=UC
 A:=O.deeper (iD VA US j.heap.objs.size L VP)
 N:=UZ
 eK:=j
 qe:=h
 env:=iD VA US j.heap.objs.size L VP
 outer:=U7
 stack:=iD VA US j.heap.objs.size L VP::U7
 ex:=[]
 calm:=aa
 fn:=λ_=>aa
 gN:=[]
 cL:=λd Ux=>wpAny (aS UB C) (O.deeper<|iD VA US j.heap.objs.size L VP) (leaving (iD VA US j.heap.objs.size L VP) d) (λ_ a=>VL U7 h j Uv d a) (λb a=>VL U7 h j Uv b a) Ux
def HW{D:ha}(e:D.names.lookup f=Z .cell):∃n,(Ad s D.names []).lookup f=Z n:=by
 have p:=AI D.names s [] (.inl e);exact Gx.mp p
def MK{L:ae}{VP:af}{U7:List d0}{w:ao}{Uv:fF}(UW:kb UZ UJ US)(hd:O.handled=Y)(a:um UB C Q ay UC O U7 j h)(F:S.length=UJ.length)(r:bZ S UR)(f:InCallC j j.heap.objs.size (bindL (iD VA US j.heap.objs.size L VP).kindOf (UJ.zip UR) λ_=>Y) (Ad (j.heap.objs.size+1) US.names []) (bindC (iD VA US j.heap.objs.size L VP).kindOf (UJ.zip UR) λ_=>Y) w):
  aG (h7 VL UB C Q ay UC UZ VA US L VP O U7 j h Uv) [] (start UZ S) h w:=by
 have G:UJ.length<=UZ.length:=by have:=congrArg List.length UW.pre;rw[h2]at this;lia
 let⟨t,@Vn,rfl,x⟩:=f.done;have v:∀c:ae,c∉(h7 VL UB C Q ay UC UZ VA US L VP O U7 j h Uv).ex:=λc i=>absurd (show c∈([]:List ae) from i) ↥0;refine⟨⟨a.mod,UW.kind,rfl,rfl,bT _,λl i n t z=>?_,λl k=>?_,λl n W e=>?_,λ_=>hd,bB.frames_deeper a.frames,.inr ⟨rfl,rfl⟩,λc i=>absurd i<|v c,a.bs,a.je,λc W W=>v c,λc i=>absurd i<|v c,a.gI,a.kl⟩,
  rfl,a.bare,dq.kept x,⟨_,f.toInCall.ns,λb l u t z I=>?_⟩,λl n e=>⟨_,f.cell l n e⟩,a.aT.fresh<|bT _,λl n e=>?_,λo m=>absurd (show o∈([]:List (ae×a7)) from m) ↥0,a.aT.kept x,?_⟩
 ·exact name_of_addr f.apart (PySem.mem_of_lookup t) (PySem.mem_of_lookup z)
 ·have k:US.names.lookup l=Z .cell\/US.names.lookup l=Z .free:=k;rcases k with k|k
  ·exact HW k
  ·exact absurd rfl (UW.QW _<|PySem.mem_of_lookup k)
 ·exact ta (f.above l n<|PySem.mem_of_lookup e)
 ·have Uw:b<S.length:=by
   unfold start at z;by_cases Uw:b<S.length
   ·exact Uw
   ·rw[o4 ⇑Uw]at z;rw[List.getElem?_replicate]at z;split at z<;>cases z
  have B:S[b]?=Z u:=by
   unfold start at z;rw[pU ⇑Uw,gy]at z;cases d:S[b]? with
   |none=>rw[d]at z;cases z
   |some g=>rw[d]at z;cases z;rfl
  let⟨@H,y,E⟩:=r.get B;have m:UJ[b]?=Z l:=by
   rw[<-UW.pre,List.getElem?_take_of_lt ⋯];exact t
  have A:UJ.Nodup:=by rw[<-UW.pre];exact UW.ai.sublist (tx _ _)
  refine⟨H,E,?_⟩;rcases UW.par l (nF m) with q|q
  ·exact .inl ⟨q,ER A m y q⟩
  ·let⟨@n,d⟩:=HW (s:=j.heap.objs.size+1) q;refine .inr ⟨.inl q,n,d,?_⟩;have p:=f.cell l n d;rw[Ao A m y (by show US.names.lookup l≠_;rw[q];decide)]at p;exact p
 ·exact a.aT.fresh (ta<|f.above l n<|PySem.mem_of_lookup e)
 ·unfold start;show _=UZ.length;rw[d7,bS,List.length_replicate];lia
def AJ{L:ae}{name:aF}{i:Arguments}{n cM k U5 Vg cG z:af}{F t:Option ae}{V0:Array (Option af)}{sp:kj}(lk:Q.lookup L=Z ⟨z,t,.func<|Ξ name VA i VN US n cM k U5 F Vg cG,V0⟩)(x:Ω Q Vg VA=aa)(UW:kb UZ UJ US)(len:∀S h A Uv,sp S h A Uv->S.length=UJ.length)(y:∀(O:bB) (U7:List d0) (j:ao) (h:az) (S:List av) (A:cJ) (Uv:fF),ea q (O.deeper<|iD VA US j.heap.objs.size L Vg)->sp S h A Uv->
   ∃I,gs (h7 VL UB C Q ay UC UZ VA US L Vg O U7 j h Uv) VN I/\I {aM:=λ_ P=>A .a6 P,dR:=A} (start UZ S) h):
  gL UB C Q ay UC VL (q+1) L (Ξ name VA i VN US n cM k U5 F Vg cG) UJ sp:=by
 refine⟨len,λO U7 j h args UR S A Uv e a B r o=>?_⟩;have E:=len _ _ _ _ o;have v:Q.In j.heap:=a.mod.pD.keeps λc m d=>(a.bs c m d).1;have G:j.heap.NoLimit:=a.mod.nolimit.keeps λc m d=>(a.bs c m d).1;have J:∀l∈UJ.zip UR,US.names.lookup l.1=Z .local\/(US.names.lookup l.1=Z .cell/\((Ad (j.heap.objs.size+1) US.names []).lookup l.1).isSome=aa):=λ⟨s,u⟩ M=>by
  rcases UW.par s (oL M).1 with p|p
  ·exact .inl p
  ·exact .inr ⟨p,AI _ _ _<|.inl p⟩
 refine codeAny_call_function e.depth (v _ _ lk) rfl UW.co UW.gen rfl (PySem.W.codeRec_of v x) (B _ _ _ _ ?_);refine wpAny_newFunctionEnv_cells UW.kind J λU N w f=>?_;subst N;refine⟨G.keeps f.toInCall.keep,codeAny_func ?_⟩;let⟨@I,R,T⟩:=y O U7 j h S A Uv (e.deeper _) o;have al:aG (h7 VL UB C Q ay UC UZ VA US L Vg O U7 j h Uv) [] (start UZ S) h w:=MK UW e.hd a E r f;refine gS (R [] w (start UZ S) h _ al T) (λaU Ux UH=>?_) λd Ux UH=>UH;have fin:∀{b:a5}{P:az}{u:av}{H:af},aG (h7 VL UB C Q ay UC UZ VA US L Vg O U7 j h Uv) [] b P Ux->cm u H->A u P->Ae U7 UB C h j A H Ux:=
  λ{b P u H} Vh g p=>⟨u,P,Vh.os,Vh.bare,Vh.base,Vh.aT,g,p⟩;cases aU with
 |ret H=>
  let⟨u,b,@P,Vh,g,p⟩:=UH;exact fin Vh g p
 |next=>
  let⟨b,@P,Vh,p⟩:=UH;exact fin (u:=av.a6) (H:=af.none) Vh rfl p
 |brk=>
  let⟨K,@K,K,p⟩:=UH;exact False.elim p
 |cont=>
  let⟨K,@K,K,p⟩:=UH;exact False.elim p
section
variable{a:aK}{f:aF}{o UM:Pos}{d:bj}{T:List bj}{I:fh}{id F:String}{r:List av->az->cJ->Prop}
def D8(r:List av->az->cJ->Prop)(I:fh):cf:=(λx h A=>I x h λS UD=>r S UD A)
def ES(c:eY a (.builtin id) r)(g:ey a f)(i:a.ay f=Y)(k:fw f=Z (.builtin id))(l:gD a (d::T) I)(m:f ≠ "__name__" := by decide)(n:(f==("__debug__" : aF))=aq:=by decide)(p:bK (d::T) a.env=(aq,b6 d a.env)::bK T a.env:=by rfl)(q:(fG UM<|bK T a.env).any (·.1)=aq:=by rfl):bU a (.Call (.Name f o) (d::T) [] UM) (D8 r I):=by
 intro G j x h A b e;refine rj (pS b g i k ?_ m n);exact JI (bW (l UM G j x h _ b e) λUR s ⟨S,UD,t,u,v⟩=>c G s x UD S UR A t u v) p q
def Sr(c:eY a (.type F) r)(g:ey a f)(i:a.ay f=Y)(k:fw f=Z (.type F))(l:gD a (d::T) I)(m:f ≠ "__name__" := by decide)(n:(f==("__debug__" : aF))=aq:=by decide)(p:bK (d::T) a.env=(aq,b6 d a.env)::bK T a.env:=by rfl)(q:(fG UM<|bK T a.env).any (·.1)=aq:=by rfl):bU a (.Call (.Name f o) (d::T) [] UM) (D8 r I):=by
 intro G j x h A b e;refine rj (pS b g i k ?_ m n);exact uE (bW (l UM G j x h _ b e) λUR s ⟨S,UD,t,u,v⟩=>c G s x UD S UR A t u v) p q
end
end L2
namespace dw
open PyProof.Rows
variable{Uw D:Option Int}{i cB:af}{aY I:ae}{A:af->ao->Prop}
theorem KV(O:bB)(j:ao)(g:Int)(I:ib)(n:Int)(H:ib)(UG:bC)(C:bg)(Uv:af->ao->Prop)(A:af->ao->Prop)(e:A (.bool<|decide (g<n)) j):
  wpAny (aS UG C) O (n7 .Lt (.int g I)<|.int n H) A Uv j:=
 (Mu e:wpAny (aS UG C) O (dW .Lt (.int g I)<|.int n H) A Uv j)
section
open PySem.SeqAt
open PySem.AutoSeq1 (wpAny_loadPart')
open PySem.MeetsSeq PySem.MeetsSeq2 PySem.MeetsSeq3
end
section
variable{UG:bC}{C:bg}{O:bB}{Uv:af->ao->Prop}{j:ao}
def Me{c:ae}{S a:List af}(p:nW j.heap I S.toArray)(q:nW j.heap c a.toArray)(g:S≠[])(t:a=[]->A (.ref I) j)(z:a≠[]->A (.ref j.heap.objs.size) {j with heap:=j.heap.push {cls:=.type "tuple",data:=.seq (S++a).toArray} })(r:S.length+a.length<=sizeLine):wpAny (aS UG C) O (gk .Add (.ref I)<|.ref c) A Uv j:=by
 let⟨@⟨cls,h,data,aY⟩,b,i,⟨@s,hd⟩⟩:=id p;let⟨@⟨u,k,data2,l⟩,e,m,⟨@n,o⟩⟩:=id q;simp only at i hd m o;subst i hd m o;have d:S.toArray++a.toArray=(S++a).toArray:=by simp
 by_cases f:a=[]
 ·exact w1 ⟨_,b,rfl⟩ ⟨_,e,rfl⟩ yx yy zE z0 (ya _ _)
   (tuple_addW1 I c S.toArray a.toArray s n h k aY l ⇑g (by simp[f])) ⟨b,e,t f⟩
 ·refine w1 ⟨_,b,rfl⟩ ⟨_,e,rfl⟩ yx yy zE z0 (ya _ _)
   (tuple_addW2 I c S.toArray a.toArray s n h k aY l ⇑g ⇑f (by rw[cX,cX];exact r)) ⟨b,e,?_⟩;rw[d];exact z f
def cw(s v:Nat):Option Int->Nat
 |none=>v
 |some u=>if u<0 then (u+(s:Int)).toNat else min u.toNat s
def AB(s v:Nat):cw s v Y=v:=rfl
def Hp(s v q:Nat):cw s v (Z (q:Int))=min q s:=by
 show (if (q:Int)<0 then ((q:Int)+(s:Int)).toNat else min (q:Int).toNat s)=min q s;rw[aO ⋯,rO]
def P9(s v:Nat)(hd:v<=s)(m:Option Int):cw s v m<=s:=by
 cases m with
 |none=>exact hd
 |some u=>
  show (if u<0 then (u+(s:Int)).toNat else min u.toNat s)<=s;by_cases a:u<0
  ·rw[aJ a];lia
  ·rw[aO a];exact Nat.min_le_right _ _
def IC(u:Int)(s v:Nat):(if u<0 then max (u+(s:Int)) 0 else min u (s:Int))=((cw s v (Z u):Nat):Int):=by
 show (if u<0 then max (u+(s:Int)) 0 else min u (s:Int))=(((if u<0 then (u+(s:Int)).toNat else min u.toNat s):Nat):Int);by_cases a:u<0
 ·simp only[aJ a];lia
 ·simp only[aO a];lia
def Te(D Uw:Option Int)(s:Nat):bw.Slice.sliceAdjust D Uw 1 (s:Int)=(((cw s 0 D:Nat):Int),((cw s s Uw:Nat):Int)):=by
 have t:¬ ((1:Int)<0):=⋯
 unfold bw.Slice.sliceAdjust;simp only[t,ih];refine eD ?_ ?_
 ·cases D with
  |none=>rfl
  |some u=>exact IC u s 0
 ·cases Uw with
  |none=>rfl
  |some u=>exact IC u s s
def P_(b w:Nat):bw.Slice.slicePlaces (b:Int) (w:Int) 1=w-b:=by
 unfold bw.Slice.slicePlaces;have t:(1:Int)>0:=⋯
 simp only[t,hK,Int.ediv_one];split<;>lia
def Cw{u:af}{m:Option Int}{A:Option Int->ao->Prop}(o:kP u m)(e:A m j):wpAny (aS UG C) O (bw.Slice.slicePartIndex u) A Uv j:=by
 cases o with
 |none=>exact Fi e
 |int b I=>exact slicePart_int e
def HP{s:Nat}{A:Int×Int×Nat->ao->Prop}(UH:j.heap.IsSliceOf aY cB i .none)(bF:kP cB D)(c:kP i Uw)(e:A (((cw s 0 D:Nat):Int),1,cw s s Uw-cw s 0 D) j):wpAny (aS UG C) O (bw.Slice.sliceApplied (.ref aY)<|pure (s:Int)) A Uv j:=by
 let⟨@UN,a,d,b⟩:=id UH;unfold bw.Slice.sliceApplied bw.Slice.sliceFields;refine aB (aB<|fx a b (x:=cB) rfl<|aB<|fx a b (x:=i) rfl<|aB<|fx a b (x:=.none) rfl<|a_ ?_);refine aB (Fi ?_);show wpAny _ _ (if ((1:Int)==0)=aa then _ else _) _ _ j;rw[aO ∅];refine aB (Cw bF<|aB<|Cw c<|aB<|a_ ?_);show wpAny _ _ (match bw.Slice.sliceAdjust D Uw 1 (s:Int) with|(D,Uw)=>pure (D,(1:Int),bw.Slice.slicePlaces D Uw 1)) _ _ j;rw[Te D Uw s];show wpAny _ _ (pure (((cw s 0 D:Nat):Int),(1:Int),bw.Slice.slicePlaces ((cw s 0 D:Nat):Int) ((cw s s Uw:Nat):Int) 1)) _ _ j;rw[P_];exact a_ e
def Ri(y:Array af)(b q:Nat):((range q).filterMap λ(E:Nat)=>y[((b:Int)+(E:Int)*1).toNat]?).toArray=((y.toList.drop b).take q).toArray:=by
 have d:(λ(E:Nat)=>y[((b:Int)+(E:Int)*1).toNat]?)=λE=>y[b+E]?:=by
  funext E;have:((b:Int)+(E:Int)*1).toNat=b+E:=⋯
  rw[this]
 rw[d];have:=pick_run y b q;rw[List.filterMap_map]at this;have a:((λf=>y[f]?) ∘ λf=>b+f)=λE=>y[b+E]?:=rfl;rw[a]at this;rw[this]
def Kb{U4:Array af}(a:nW j.heap I U4)(UH:j.heap.IsSliceOf aY cB i .none)(bF:kP cB D)(c:kP i Uw)(d:¬ (cw U4.size 0 D=0/\cw U4.size U4.size Uw=U4.size))(e:A (.ref j.heap.objs.size) {j with heap:=j.heap.push {cls:=.type "tuple",data:=.seq ((U4.toList.drop<|cw U4.size 0 D).take<|cw U4.size U4.size Uw-cw U4.size 0 D).toArray} })(l:U4.size<=sizeLine):wpAny (aS UG C) O (nj (.ref I)<|.ref aY) A Uv j:=by
 have b:sizeOk (.seq ((U4.toList.drop<|cw U4.size 0 D).take<|cw U4.size U4.size Uw-cw U4.size 0 D).toArray):=by
  show ((U4.toList.drop<|cw U4.size 0 D).take<|cw U4.size U4.size Uw-cw U4.size 0 D).toArray.size<=sizeLine;rw[cX,h2,gQ,fW];lia
 have m:cw U4.size U4.size Uw<=U4.size:=P9 _ _ (bT _) Uw;let⟨@UN,f,g,n⟩:=id UH;have h:j.TypeIs (.ref aY) "slice" := ⟨UN,f,g⟩;unfold nj;try with_reducible refine iR ?_
 first|refine aB (a_ ?_)|skip
 refine aB (De a.typeIs ∅ ?_);refine aB (kr (name:=aF.ofString "__getitem__") a.typeIs qv
  (iS qv a.typeIs Co ?_<|C3 _ _));show wpAny _ _ (bw.Tuple.tupleItemsOf (.ref I) >>= _) _ _ j;refine aB (HS a ?_);refine aB (r3 h ?_);rw[aJ ∅];refine aB (HP UH bF c ?_);have k:¬ ((((cw U4.size 0 D:Nat):Int)==0&&(1:Int)==1&&(cw U4.size U4.size Uw-cw U4.size 0 D)==U4.size)=aa):=by
  intro p;rw[cV,cV]at p;have o:((cw U4.size 0 D:Nat):Int)=0:=eq_of_beq p.1.1;have q:cw U4.size U4.size Uw-cw U4.size 0 D=U4.size:=eq_of_beq p.2;exact d ⟨⋯,⋯⟩
 show wpAny _ _ (if (((cw U4.size 0 D:Nat):Int)==0&&(1:Int)==1&&(cw U4.size U4.size Uw-cw U4.size 0 D)==U4.size)=aa then _ else _) _ _ j;rw[aO k,Ri];first
  | exact aB (m:=bw.Tuple.tupleExact _) (i4 (a_ ⟨_,rfl,a_ e⟩) b)
  | exact aB (m:=bw.Tuple.tupleExact _) (i4 (aB<|a_<|a_ ⟨_,rfl,a_ e⟩) b)
  | exact aB (aB (m:=bw.Tuple.tupleExact _)<|i4 (a_<|a_ ⟨_,rfl,a_ e⟩) b)
  | exact aB (aB (m:=bw.Tuple.tupleExact _)<|i4 (a_ ⟨_,rfl,a_ e⟩) b)
end
end dw
namespace L2
open Spec PyProof.Rows
variable{Uu:aZ}{A:af->ao->Prop}{P h:az}{UK:List (List ab×av)}{C:bg}{UB:bC}{m:Option av}{Va s:Nat}{R UI UR:List af}{o:ae}{j:ao}{x:a5}{G:List (ae×a7)}{r:b3}{U1:Type}{b:Int}{y:List (List ab×ae×af)}
abbrev bO:=a5->az->(Option Int->az->Prop)->Prop
def Ck(a:aK)(d:Option bj)(I:bO)(G:List (ae×a7)):Prop:=(
 ∀(j:ao) (x:a5) (h:az) (A:Option Int->az->Prop),aG a G x h j->I x h A->
  wpAny (aS a.prog a.w) a.A (evalPart d a.env) (λH Ux=>∃m P,aG a G x P Ux/\kP H m/\A m P) a.cL j)
def qE(a:aK)(d:Option bj)(I:bO):Prop:=(∀G,Ck a d I G)
def Qs:bO:=(λ_ h A=>A Y h)
def II(I:cf):bO:=(λx h A=>I x h λf UD=>∃b,f=.int b/\A (Z b) UD)
section
variable{a:aK}{d:bj}{VC:cf}{D Uw:Option bj}{U px:bO}{UM Vj:Pos}
def MG:qE a Y Qs:=by
 intro G j x h A b e;rw[FC];exact a_ ⟨Y,h,b,.none,e⟩
def PM(e:bU a d VC):qE a (Z d) (II VC):=by
 intro G j x h A c g;rw[evalPart_some];refine bW (e G j x h _ c g) λH n i=>?_;let⟨f,@UD,k,l,m⟩:=i;let⟨@b,rfl,p⟩:=m;let⟨@I,rfl⟩:=l;exact⟨Z b,UD,k,.int b I,p⟩
def rD(a:aK)(r:av->Option Int->Option Int->az->cJ->Prop):Prop:=(
 ∀(G:List (ae×a7)) (j:ao) (x:a5) (h:az) (f:av) (u cB i:af) (D Uw:Option Int) (aY:ae) (A:cJ),aG a G x h j->cm f u->j.heap.IsSliceOf aY cB i .none->kP cB D->kP i Uw->r f D Uw h A->
  ∃F id,typeLookup (.type F) "__getitem__" = pure (Z<|.builtin id)/\j.TypeIs u F/\wpAny (aS a.prog a.w) a.A (nj u<|.ref aY) (eN a G x A) a.cL j)
def RB(r:av->Option Int->Option Int->az->cJ->Prop)(VC:cf)(U px:bO):cf:=(λx h A=>VC x h λf UD=>U x UD λM UT=>px x UT λH a=>r f M H a A)
def Tw{r:av->Option Int->Option Int->az->cJ->Prop}(l:rD a r)(m:bU a d VC)(n:qE a D U)(o:qE a Uw px):bU a (.Subscript d (.Slice D Uw Y Vj) UM) (RB r VC U px):=by
 intro G j x h A q e;refine Subscript_ (bW (m G j x h _ q e) λu s g=>?_);let⟨f,@UD,t,v,y⟩:=g;refine wpAny_Slice (bW (n G s x UD _ t y) λcB z ⟨M,UT,B,bF,E⟩=>bW (o G z x UT _ B E) λi b g=>?_);let⟨H,@k,I,J,L⟩:=g;rw[FC];refine a_ ?_;have N:aG a G x k {b with heap:=b.heap.push {cls:=.type "slice",data:=.fields #[cB,i,.none]} }:=I.kept (Va:=b.toks) λc Vt p=>b5 _ p;let⟨F,@id,P,Q,R⟩:=l G {b with heap:=b.heap.push {cls:=.type "slice",data:=.fields #[cB,i,.none]} } x k f u cB i M H b.heap.objs.size A N v (aZ.IsSliceOf.new ..) bF J L;show wpAny (aS a.prog a.w) a.A (D7 d (.Slice D Uw Y Vj) u<|.ref b.heap.objs.size) (eN a G x A) a.cL {b with heap:=b.heap.push {cls:=.type "slice",data:=.fields #[cB,i,.none]} };exact x4 (ops:=[.ref b.heap.objs.size,u]) Q P R (by with_unfolding_all rfl)
def mX(y:List av)(D Uw:Option Int):List av:=((y.drop<|dw.cw y.length 0 D).take (dw.cw y.length y.length Uw-dw.cw y.length 0 D))
def Fv(y:List av)(D Uw:Option Int):(mX y D Uw).length<=y.length:=by
 unfold mX;rw[h2,gQ];lia
def S8(Q:Φ):av->Option Int->Option Int->az->cJ->Prop:=(λf D Uw h A=>∃g y,f=.ref g/\cp Q h g y/\
 ¬ (dw.cw y.length 0 D=0/\dw.cw y.length y.length Uw=y.length)/\∀o,h o=Y->A (.ref o) (upd h o<|.tup<|mX y D Uw))
def Kh:rD a (S8 a.K):=by
 intro G j x h f u cB i D Uw aY A b n UH bF o e;let⟨g,@y,rfl,q,s,p⟩:=e;cases n;let⟨@UI,r,k,l⟩:=b.tuple q;have d:UI.toArray.size=y.length:=by rw[cX];exact r.length.symm
 refine⟨"tuple",_,qv.lookup,k.typeIs,?_⟩;refine dw.Kb k UH bF o (by rw[d];exact s) ?_ (by rw[d];exact l);rw[d];refine⟨.ref j.heap.objs.size,_,b.laid (Va:=j.toks) (m:=.tup (mX y D Uw)) (λc Vt p=>b5 _ p) (bT _) ?_,rfl,p _<|b.aT.fresh<|bT _⟩;exact⟨fl (Fv y D Uw) l,_,(r.drop<|dw.cw y.length 0 D).take<|dw.cw y.length y.length Uw-dw.cw y.length 0 D,nC.new _ _⟩
def RN(Q:Φ):b3:=(λf l h A=>∃g c y UL,f=.ref g/\l=.ref c/\cp Q h g y/\cp Q h c UL/\y≠[]/\y.length+UL.length<=sizeLine/\
 (UL=[]->A (.ref g) h)/\(UL≠[]->∀o,h o=Y->A (.ref o) (upd h o<|.tup<|y++UL)))
def bZ.uS{y:List av}(r:bZ y UR):UR=[]↔y=[]:=by
 cases r with
 |nil=>simp
 |cons _ _=>simp
def KP:dV a (gk .Add) (RN a.K):=by
 intro G j x h f l u H A b o q e;let⟨g,c,y,@UL,rfl,rfl,r,s,t,n,v,w⟩:=e;cases o;cases q;let⟨@UI,k,z,W⟩:=b.tuple r;let⟨@B,d,Vj,W⟩:=b.tuple s;refine dw.Me z Vj (λi=>t<|k.uS.mp i) (λi=>⟨.ref g,h,b,rfl,v<|d.uS.mp i⟩) (λi=>?_) (by rw[<-k.length,<-d.length];exact n);refine⟨.ref j.heap.objs.size,_,b.laid (Va:=j.toks) (m:=.tup (y++UL)) (λc Vt p=>b5 _ p) (bT _) ?_,rfl,w (λC=>i<|d.uS.mpr C) _<|b.aT.fresh<|bT _⟩;exact⟨by rw[d7];exact n,_,k.append d,nC.new _ _⟩
end
def mz(s:Nat)(b:Int):Option Nat:=(if 0<=b then (if b<s then Z b.toNat else Y) else if -(s:Int)<=b then Z (b+s).toNat else Y)
def eH{U1:Type}(y:List U1)(b:Int):Option U1:=((mz y.length b).bind λw=>y[w]?)
def DC{w:Nat}(e:mz s b=Z w):xk b s=Z w/\w<s /\ -(s:Int)<=b/\b<s:=by
 unfold mz at e;by_cases Vx:0<=b
 ·rw[aJ Vx]at e;by_cases t:b<s
  ·rw[aJ t]at e;have d:b.toNat=w:=Option.some.inj e;exact⟨by rw[tm Vx t,d],⋯,⋯,t⟩
  ·rw[aO t]at e;cases e
 ·rw[aO Vx]at e;by_cases t : -(s:Int)<=b
  ·rw[aJ t]at e;have d:(b+s).toNat=w:=Option.some.inj e;exact⟨by rw[zV ⋯ t,d],⋯,t,⋯⟩
  ·rw[aO t]at e;cases e
def Hs{y:List U1}{u:U1}(e:eH y b=Z u):∃w,xk b y.length=Z w/\y[w]?=Z u/\w<y.length /\ -(y.length:Int)<=b/\b<y.length:=by
 unfold eH at e;cases d:mz y.length b with
 |none=>rw[d]at e;cases e
 |some w=>
  rw[d]at e;let@⟨t,z,a,c⟩:=DC d;exact⟨w,t,e,z,a,c⟩
def vh(c:bj):Prop:=(∀m b,subscripted c aq m b=operate [m,b] (nj m b))
def iq(a:aK)(r:b3):Prop:=(
 ∀(D b:bj) (G:List (ae×a7)) (j:ao) (x:a5) (h:az) (f l:av) (u H:af) (A:cJ),aG a G x h j->cm f u->cm l H->r f l h A->
  subscripted b aq u H=operate [u,H] (nj u H)->wpAny (aS a.prog a.w) a.A (D7 D b u H) (eN a G x A) a.cL j)
def zl(a:aK)(id:String)(r:av->List av->az->cJ->Prop):Prop:=(
 ∀(G:List (ae×a7)) (j:ao) (x:a5) (h:az) (f:av) (y:List av) (u:af) (UR:List af) (A:cJ),aG a G x h j->cm f u->bZ y UR->r f y h A->
  wpAny (aS a.prog a.w) a.A (call (.builtin id) (u::UR)) (eN a G x A) a.cL j)
section
variable{a:aK}{g c:bj}{Vo VE:cf}{UM:Pos}
def iq.or{Vs:b3}(e:iq a r)(Uu:iq a Vs):iq a (λf l h A=>r f l h A\/Vs f l h A):=by
 intro D b G j x h f l u H A c d g p UH;rcases p with p|p
 ·exact e D b G j x h f l u H A c d g p UH
 ·exact Uu D b G j x h f l u H A c d g p UH
def SY(b:iq a r)(d:bU a g Vo)(i:bU a c VE)(UH:vh c):bU a (.Subscript g c UM) (sV r Vo VE):=by
 intro G j x h A k e;exact Subscript_ (xn d i k e λu H m f l UT n o q p=>b g c G m x UT f l u H A n o q p<|UH _ _)
def NC(Q:Φ):b3:=(λf l h A=>∃o y b u,f=.ref o/\l=.int b/\dm Q h o y/\eH y b=Z u/\A u h)
def SN(Q:Φ):b3:=(λf l h A=>∃o y b u,f=.ref o/\l=.int b/\cp Q h o y/\eH y b=Z u/\A u h)
def IZ:iq a (NC a.K):=by
 intro D F G j x h f l u H A d k m e UH;let⟨o,y,b,@i,rfl,rfl,n,q,p⟩:=e;cases k;let⟨@I,rfl⟩:=m;let⟨@UI,r,bF,J⟩:=d.list n;let⟨@w,t,z,L,s,v⟩:=Hs q;let⟨@C,g,B⟩:=r.get z;have E:=r.length;have M:=oI;have fin:eN a G x A C j:=⟨i,h,d,B,p⟩;by_cases Vx:0<=b
 ·have c:b.toNat=w:=by
   rw[tm Vx v]at t;exact Option.some.inj t
  exact item_listR bF.isList Vx ⋯ (by rw[c];simpa using g) fin UH
 ·have c:(b+(UI.toArray.size:Int)).toNat=w:=by
   rw[zV ⋯ s]at t;rw[cX,<-E];exact Option.some.inj t
  exact AZ (x:=C) bF.isList.typeIs BK.lookup
   (wpAny_getItem_list_neg (Q:=λr Ux=>r=C/\eN a G x A r Ux) bF.isList ⋯ (by rw[cX]<;>lia) ⋯ (by rw[c];simpa using g) ⟨rfl,fin⟩) UH
def EH:iq a (SN a.K):=by
 intro D v G j x h f l u H A c d g e UH;let⟨o,y,b,@i,rfl,rfl,k,m,p⟩:=e;cases d;let⟨@I,rfl⟩:=g;let⟨@UI,r,bF,B⟩:=c.tuple k;let⟨@w,t,z,E,F,J⟩:=Hs m;let⟨@C,n,q⟩:=r.get z;have s:=r.length;have L:=oI;have fin:eN a G x A C j:=⟨i,h,c,q,p⟩;exact AZ (x:=C) bF.typeIs slot_tuple_getitem.lookup
  (getItem_tuple (j:=w) (Q:=λr Ux=>r=C/\eN a G x A r Ux) bF ⋯ ⋯ (by rw[cX,<-s];exact t) ⇑n ⟨rfl,fin⟩) UH
def SH(UI:List af)(s w:Nat)(H:af):a7.mapSeq (·.setIfInBounds w H) {cls:=.type "list",data:=.seq UI.toArray s}={cls:=.type "list",data:=.seq (UI.set w H).toArray s}:=by
 simp[a7.mapSeq]
variable{y:List av}
def aG.lst(b:aG a G x h j)(e:h o=Z (.lst y)):
  ∃(UI:List af) (s:Nat),bZ y UI/\j.heap.get? o=Z {cls:=.type "list",data:=.seq UI.toArray s}/\y.length<=sizeLine:=by
 let@⟨i,⟨UI,@s,r,d⟩⟩:=b.aT o _ e;exact⟨UI,s,r,d,i⟩
def aG.Np{UL:List av}{b:Nat}{L:a7->a7}(i:aG a G x h j)(e:h o=Z (.lst y))(k:j.heap.get? o=Z {cls:=.type "list",data:=.seq UI.toArray s})(g:L {cls:=.type "list",data:=.seq UI.toArray s}={cls:=.type "list",data:=.seq R.toArray b})(r:bZ UL R)(l:UL.length<=sizeLine)(I:Nat):
  aG a G x (upd h o<|.lst UL) {j with heap:=j.heap.update o L,toks:=I}:=by
 have d:(j.heap.update o L).get? o=Z {cls:=.type "list",data:=.seq R.toArray b}:=by
  rw[rR L k (by rw[g]<;>rfl),g]
 refine i.write (f:=o) (d:=o) (by rw[e];trivial) (.inl rfl) (λc H m p=>(kH _ _<|f6 m).trans p) ⟨_,d⟩ ?_;exact⟨l,R,b,r,d⟩
def Qa:av->av->av->az->(az->Prop)->Prop:=(λm b u h A=>∃o y q w,m=.ref o/\b=.int q/\h o=Z (.lst y)/\mz y.length q=Z w/\A (upd h o<|.lst<|y.set w u))
def JY:z3 a Qa:=by
 intro G j x h m b u F J H A g k B C e;let⟨o,y,q,@w,rfl,rfl,i,D,p⟩:=e;cases k;let⟨@I,rfl⟩:=B;let⟨UI,@s,r,c,E⟩:=g.lst i;let@⟨t,z,l,n⟩:=DC D;have d:=r.length;have L:=oI;have v:aG a G x (upd h o<|.lst<|y.set w u) {j with heap:=j.heap.update o (a7.mapSeq (·.setIfInBounds w H))}:=
  g.Np i c (SH UI s w H) (r.set C w) (by rw[wm];exact E) j.toks;by_cases Vx:0<=q
 ·have f:q.toNat=w:=by
   rw[tm Vx n]at t;exact Option.some.inj t
  exact PySem.W.ki_setAt c Vx ⋯ (by rw[cX,<-d];exact n) (by rw[f];exact⟨_,v,p⟩)
 ·have f:(q+(UI.toArray.size:Int)).toNat=w:=by
   rw[zV ⋯ l]at t;rw[cX,<-d];exact Option.some.inj t
  exact PySem.W.ki_setBack c ⋯ (by rw[cX,<-d];exact l) ⋯ (by rw[f];exact⟨_,v,p⟩)
def QH(D Uw:Option Int)(s:Nat):(n0 D Uw Y s).1=((dw.cw s 0 D:Nat):Int)/\(n0 D Uw Y s).2.1=((dw.cw s s Uw:Nat):Int)/\(n0 D Uw Y s).2.2=1:=by
 refine⟨?_,?_,rfl⟩
 ·cases D with
  |none=>simp[n0,dw.cw]
  |some b=>
   simp only[n0,dw.cw,B4,show (1:Int)>0 by decide,hK];by_cases e:b<0
   ·simp only[e,hK]<;>lia
   ·simp only[e,ih]<;>lia
 ·cases Uw with
  |none=>simp[n0,dw.cw]
  |some b=>
   simp only[n0,dw.cw,B4,show (1:Int)>0 by decide,hK];by_cases e:b<0
   ·simp only[e,hK]<;>lia
   ·simp only[e,ih]<;>lia
def IT(UI:List af)(D Uw:Option Int):slicePick UI.toArray D Uw Y=((UI.drop<|dw.cw UI.length 0 D).take<|dw.cw UI.length UI.length Uw-dw.cw UI.length 0 D).toArray:=by
 let@⟨t,z,a⟩:=QH D Uw UI.toArray.size;unfold slicePick;rw[t,z,a];simp only[sliceRange_one,pick_run,cX]<;>rfl
def KW(Q:Φ):av->Option Int->Option Int->az->cJ->Prop:=(λf D Uw h A=>∃g y,f=.ref g/\dm Q h g y/\∀o,h o=Y->A (.ref o) (upd h o<|.lst<|mX y D Uw))
def HC:rD a (KW a.K):=by
 intro G j x h f u cB i D Uw aY A b k UH bF l e;let⟨g,@y,rfl,n,p⟩:=e;cases k;let⟨@UI,r,d,o⟩:=b.list n;have q:=r.length;refine⟨"list",_,BK.lookup,d.isList.typeIs,?_⟩;refine wpAny_getItem_list_slice d.isList UH bF l .none ↥0 ?_ (by rw[cX]<;>lia);rw[IT,<-q];refine⟨.ref j.heap.objs.size,_,b.laid (Va:=j.toks) (m:=.lst (mX y D Uw)) (λc Vt p=>b5 _ p) (bT _) ?_,rfl,p _<|b.aT.fresh<|bT _⟩;exact⟨fl (Fv y D Uw) o,_,0,(r.drop<|dw.cw y.length 0 D).take<|dw.cw y.length y.length Uw-dw.cw y.length 0 D,dr _ rfl⟩
def Sf:eY a (.builtin "len") (λy h A=>∃o UL,y=[.ref o]/\(dm a.K h o UL\/cp a.K h o UL)/\A (.int UL.length) h):=by
 intro G j x h y UR A c r e;let⟨o,@UL,rfl,b,p⟩:=e;let⟨@H,rfl,f⟩:=iM r;cases f;have i:=oI;rcases b with b|b
 ·let⟨@UI,Vs,bF,g⟩:=c.list b;have d:=Vs.length;exact Calls.call_len_list bF.isList (by simp only[cX]<;>lia) ⟨.int UL.length,h,c.tok _,⟨j.toks+1,by rw[cX,d]⟩,p⟩
 ·let⟨@UI,Vs,bF,g⟩:=c.tuple b;have d:=Vs.length;exact len_tuple bF (by simp only[cX]<;>lia) ⟨.int UL.length,h,c.tok _,⟨j.toks+1,by rw[cX,d]⟩,p⟩
def R8:eY a (.builtin "len") (λy h A=>∃i,y=[.str i]/\i.length<=sizeLine/\A (.int i.length) h):=by
 intro G j x h y UR A b r e;let⟨@i,rfl,c,p⟩:=e;let⟨@H,rfl,⟨@I,rfl⟩⟩:=iM r;have d:=oI;exact len_str ⋯ ⟨.int i.length,h,b.tok _,⟨_,rfl⟩,p⟩
def eY.or{L:af}{r Vs:List av->az->cJ->Prop}(e:eY a L r)(Uu:eY a L Vs):eY a L (λy h A=>r y h A\/Vs y h A):=by
 intro G j x h y UR A b Vv p;rcases p with p|p
 ·exact e G j x h y UR A b Vv p
 ·exact Uu G j x h y UR A b Vv p
def Qb:eY a (.type "list") (λy h A=>∃o UL,y=[.ref o]/\(dm a.K h o UL\/cp a.K h o UL)/\∀M,h M=Y->A (.ref M) (upd h M<|.lst UL)):=by
 intro G j x h y UR A i r e;let⟨o,@UL,rfl,f,p⟩:=e;let⟨@H,rfl,n⟩:=iM r;cases n;have fin:∀(UI:List af),bZ UL UI->UL.length<=sizeLine->∀(Uu:aZ) (b:Nat),(∀c Vb,j.heap.get? c=Z Vb->Uu.get? c=Z Vb)->
   Uu.get? j.heap.objs.size=Z {cls:=.type "list",dict:=Y,data:=.seq UI.toArray b,slots:=#[]}->eN a G x A (.ref j.heap.objs.size) {j with heap:=Uu}:=λUI Vs g Uu b c8 d=>
  ⟨.ref j.heap.objs.size,_,i.laid (Va:=j.toks) c8 (bT _)<|show ff a.prog a.w _ Uu _ (.lst UL) from ⟨g,UI,b,Vs,d⟩,rfl,p _<|i.aT.fresh<|bT _⟩;rcases f with f|f
 ·let⟨@UI,Vs,bF,g⟩:=i.list f;have q:=Vs.length;let⟨@m,k,l,⟨@s,hd⟩⟩:=bF.isList;exact Dt o (.inl rfl) k l hd (λUu b c8 d=>fin UI Vs g Uu b c8 d) (by simp only[cX]<;>lia)
 ·let⟨@UI,Vs,bF,g⟩:=i.tuple f;have q:=Vs.length;let⟨@m,k,l,⟨@s,hd⟩⟩:=bF;exact Dt o (.inr rfl) k l hd (λUu b c8 d=>fin UI Vs g Uu b c8 d) (by simp only[cX]<;>lia)
def Rg:eY a (.type "tuple") (λy h A=>∃o UL,y=[.ref o]/\((dm a.K h o UL/\∀M,h M=Y->A (.ref M) (upd h M<|.tup UL))\/(cp a.K h o UL/\A (.ref o) h))):=by
 intro G j x h y UR A b r e;let⟨o,@UL,rfl,e⟩:=e;let⟨@H,rfl,k⟩:=iM r;cases k;rcases e with ⟨f,p⟩|⟨f,p⟩
 ·let⟨@UI,Vs,bF,g⟩:=b.list f;have n:=Vs.length;refine call_tuple_list bF.isList (λUu c8=>?_) (by simp only[cX]<;>lia);have i:aG a G x h {j with heap:=Uu}:=b.kept (Va:=j.toks) c8;have l:aG a G x (upd h Uu.objs.size<|.tup UL) {j with heap:=Uu.push {cls:=.type "tuple",data:=.seq UI.toArray} }:=
   i.laid (Va:=j.toks) (λc m d=>b5 _ d) (bT _) (show ff a.prog a.w _ _ _ (.tup UL) from ⟨g,UI,Vs,nC.new _ _⟩);exact⟨.ref Uu.objs.size,_,l,rfl,p _<|i.aT.fresh<|bT _⟩
 ·let⟨@UI,Vs,bF,g⟩:=b.tuple f;exact call_tuple_same bF ⟨.ref o,h,b,rfl,p⟩
def nu(Q:Φ)(F:String)(f:av)(h:az):Prop:=(match f with
 |.str _=>F = "str"
 |.int _=>F = "int"
 |.ref o=>(F = "list" /\ ∃y,dm Q h o y)\/(F = "tuple" /\ ∃m,Q.lookup o=Z m/\m.cls=.type "tuple" /\ m.dict=Y)\/
   (F = "dict" /\ ((∃UK,h o=Z (.dJ UK))\/∃UK,h o=Z (.aQ UK)))\/(F = "set" /\ ∃UW s,h o=Z (.set UW s))
 |_=>False)
def Bd{F:String}{f:av}{u:af}(e:aG a G x h j)(r:cm f u)(ty:nu a.K F f h):
  j.TypeIs u F/\∀g,u=.ref g->∃Vt,j.heap.get? g=Z Vt/\Vt.dict=Y:=by
 cases f with
 |str i=>
  let⟨@I,rfl⟩:=r;cases (show F = "str" from ty);exact⟨yE j i I,λ_ d=>nomatch d⟩
 |int b=>
  let⟨@I,rfl⟩:=r;cases (show F = "int" from ty);exact⟨typeIs_int j b I,λ_ d=>nomatch d⟩
 |ref o=>
  cases r;rcases ty with ⟨rfl,y,l⟩|⟨rfl,m,c,p,hd⟩|⟨rfl,c⟩|⟨rfl,UW,s,c⟩
  ·let⟨@UI,W,bF,W⟩:=e.list l;refine⟨bF.isList.typeIs,λg d=>?_⟩;cases d;let⟨m,@s,d,n,hd,W⟩:=bF;exact⟨m,d,hd⟩
  ·refine⟨⟨m,e.kd o m c,p⟩,λg d=>?_⟩;cases d;exact⟨m,e.kd _ m c,hd⟩
  ·have i:∃m,j.heap.get? o=Z m/\m.ExactDict:=by
    rcases c with ⟨UK,c⟩|⟨UK,c⟩
    ·let@⟨_,_,⟨@_,_,⟨m,_,@_,d,Vl,_⟩⟩⟩:=e.aT o _ c;exact⟨m,d,Vl⟩
    ·let@⟨_,_,⟨@_,_,⟨m,_,@_,d,Vl,_⟩⟩⟩:=e.aT o _ c;exact⟨m,d,Vl⟩
   let⟨@m,d,Vl⟩:=i;refine⟨⟨m,d,Vl.1⟩,λg k=>?_⟩;cases k;exact⟨m,d,Vl.2.1⟩
  ·let⟨m,W,W,@W,d,Vl,W⟩:=e.aT o _ c;refine⟨⟨m,d,Vl.1⟩,λg k=>?_⟩;cases k;exact⟨m,d,Vl.2.1⟩
 |_=>exact False.elim ty
def Q_(Q:Φ)(F:String)(r:av->List av->az->cJ->Prop)(i:cf):cf:=(λx h A=>i x h λf UD=>nu Q F f UD/\r f [] UD A)
def TM(Q:Φ)(F:String)(r:av->List av->az->cJ->Prop)(i:cf)(I:fh):cf:=(λx h A=>i x h λf UD=>nu Q F f UD/\I x UD λy UT=>r f y UT A)
variable{m d:bj}{T:List bj}{i:cf}{I:fh}{name:aF}{M VR:Pos}{F id:String}{r:av->List av->az->cJ->Prop}
def N_(bQ:tQ F)(d:Slot F name id)(g:p3 (.builtin id)=pure (.type "method_descriptor"))(k:zl a id r)(l:bU a m i)(n:vk m name a.env (b6 m a.env)=b6 m a.env:=by rfl)(o:(M.endLine==VR.line)=aa:=by rfl):bU a (.Call (.Attribute m name M) [] [] VR) (Q_ a.K F r i):=by
 intro G j x h A p e;refine wpAny_Call_method0_late n o (bW (l G j x h _ p e) λu q s=>?_);let⟨f,@UD,b,c,ty,v⟩:=s;let@⟨t,z⟩:=Bd b c ty;exact⟨F,id,bQ,d,g,t,z,Ba rfl<|PySem.evalArgs_none<|k G q x UD f [] u [] A b c .nil v⟩
def Td(bQ:tQ F)(l:Slot F name id)(n:p3 (.builtin id)=pure (.type "method_descriptor"))(o:zl a id r)(p:bU a m i)(q:gD a (d::T) I)(s:vk m name a.env (b6 m a.env)=b6 m a.env:=by rfl)(v:((fG VR<|bK (d::T) a.env).all (λf=>!f.1)&&(backToKw VR<|keywordEach [] a.env).all (λf=>f.1.isSome)
   && decide ((d::T).length+([]:List ru).length+(if ([]:List ru).isEmpty then 0 else 1)<30))=aa:=by rfl)(w:(M.endLine==VR.line)=aa:=by rfl)(UH:bK (d::T) a.env=(aq,b6 d a.env)::bK T a.env:=by rfl)(y:(fG VR<|bK T a.env).any (·.1)=aq:=by rfl):
  bU a (.Call (.Attribute m name M) (d::T) [] VR) (TM a.K F r i I):=by
 intro G j x h A B e;refine wpAny_Call_method_late s v w rfl (bW (p G j x h _ B e) λu C b=>?_);let⟨f,@UD,c,g,ty,D⟩:=b;let@⟨t,z⟩:=Bd c g ty;refine⟨F,id,bQ,l,n,t,z,?_⟩;have k:=q VR G C x UD _ c D;rw[UH]at k ⊢;refine Ba (by show (aq || (fG VR<|bK T a.env).any (·.1))=aq;rw[y]<;>rfl) (D0 ?_);refine bW k λUR E b=>?_;let⟨S,@UT,H,J,L⟩:=b;exact o G E x UT f S u UR A H g J L
end
def vx(a:aK)(id:String)(r:av->List av->az->cJ->Prop):Prop:=(
 ∀(G:List (ae×a7)) (j:ao) (x:a5) (h:az) (f:av) (y:List av) (u:af) (UR:List af) (A:cJ),aG a G x h j->cm f u->bZ y UR->r f y h A->
  wpAny (aS a.prog a.w) a.A (call (.builtin id) (u::UR)) (eN a G x A) a.cL j)
theorem bZ.one:∀{f:av}{UR:List af},bZ [f] UR->∃H,UR=[H]/\cm f H
 |_,_,.cons r .nil=>⟨_,rfl,r⟩
theorem bZ.zero:∀{UR:List af},bZ [] UR->UR=[]
 |_,.nil=>rfl
def bZ.dropLast{y:List av}(e:bZ y UR):bZ y.dropLast UR.dropLast:=by
 induction e with
 |nil=>exact .nil
 |cons r I a=>
  cases I with
  |nil=>exact .nil
  |cons p Va=>exact .cons r a
theorem bZ.eraseIdx:∀{y:List av}{UR:List af} (b:Nat),bZ y UR->bZ (y.eraseIdx b) (UR.eraseIdx b)
 |_,_,_,.nil=>.nil
 |_,_,0,.cons _ I=>I
 |_,_,b+1,.cons r I=>.cons r (bZ.eraseIdx b I)
def MI(M:List U1):M.eraseIdx (M.length-1)=M.dropLast:=by
 induction M with
 |nil=>rfl
 |cons g r a=>
  cases r with
  |nil=>rfl
  |cons c r=>
   have d:(g::c::r).length-1=((c::r).length-1)+1:=by
    have t:(g::c::r).length=r.length+2:=rfl;have z:(c::r).length=r.length+1:=rfl;lia
   rw[d,List.eraseIdx_cons_succ,a];all_goals rfl
theorem F3{U1:Type}:∀(M:List U1) (b:Nat),(M.eraseIdx b).length<=M.length
 |[],_=>bT _
 |_::_,0=>G3 _
 |_::r,b+1=>H5 (F3 r b)
section
variable{a:aK}{G:List (ae×a7)}{x:a5}{h:az}{j:ao}{M c:ae}{y UL VJ:List av}
def aG.t_{L:Array af->Array af}(b:aG a G x h j)(c:h M=Z (.lst y))(d:j.heap.get? M=Z {cls:=.type "list",data:=.seq UI.toArray s})(e:L UI.toArray=R.toArray)(g:bZ UL R)(i:UL.length<=sizeLine):
  aG a G x (upd h M<|.lst UL) {j with heap:=j.heap.update M (a7.mapSeq L),toks:=Va}:=by
 have p:=ED d L;rw[e]at p;refine b.write (f:=M) (d:=M) (by rw[c];exact trivial) (.inl rfl) (λm H k l=>(kH j.heap (a7.mapSeq L)<|f6 k).trans l) ⟨_,p⟩ ?_;exact⟨i,R,_,g,p⟩
def aG.I_(b:aG a G x h j)(c:bZ UL UI)(d:UL.length<=sizeLine):
  aG a G x (upd h j.heap.objs.size<|.lst UL) {j with heap:=j.heap.push {cls:=.type "list",data:=.seq UI.toArray},toks:=Va}:=
 b.laid (λ_ W p=>b5 _ p) (bT _) ⟨d,UI,0,c,dr _ rfl⟩
def aG.fresh(b:aG a G x h j):h j.heap.objs.size=Y:=b.aT.fresh (bT _)
def aG.hM(b:aG a G x h j)(c:h M=Z (.lst y)):y.length<=sizeLine/\∃(UI:List af) (s:Nat),bZ y UI/\y.length=UI.length/\j.heap.get? M=Z {cls:=.type "list",data:=.seq UI.toArray s}:=by
 let@⟨i,⟨UI,@s,r,d⟩⟩:=b.aT M _ c;exact⟨i,UI,s,r,r.length,d⟩
def KS(e:s<=sizeLine):bw.List.listTooLong s=aq:=by
 unfold bw.List.listTooLong;exact ep ⋯
end
section
variable{a:aK}
def TJ:av->List av->az->cJ->Prop:=(λf S h A=>∃M y l,f=.ref M/\S=[l]/\h M=Z (.lst y)/\y.length<sizeLine/\A .a6 (upd h M<|.lst<|y++[l]))
def Nj:vx a "list.append" TJ:=by
 intro G j x h f S u UR A b g k e;let⟨M,y,@l,rfl,rfl,c,n,p⟩:=e;cases g;let⟨@H,rfl,m⟩:=k.one;let@⟨i,⟨UI,@s,r,o,d⟩⟩:=b.hM c;refine qp Ed ⟨_,d,rfl⟩ E6 (F6 _ _) (Cj M UI.toArray s H (by rw[cX];lia)) ⟨d,?_⟩;refine⟨.a6,_,b.t_ (R:=UI++[H]) c d ↥0 (r.append<|.cons m .nil) ?_,rfl,p⟩;rw[d7,kK];lia
def JO:av->List av->az->cJ->Prop:=(λf S h A=>∃M c y VJ,f=.ref M/\S=[.ref c]/\h M=Z (.lst y)/\h c=Z (.lst VJ)/\y.length+VJ.length<=sizeLine/\A .a6 (upd h M<|.lst<|y++VJ))
def JF:vx a "list.extend" JO:=by
 intro G j x h f S u UR A g l m e;let⟨M,c,y,@VJ,rfl,rfl,k,n,B,p⟩:=e;cases l;let⟨@H,rfl,o⟩:=m.one;cases o;let@⟨i,⟨UI,@s,r,C,d⟩⟩:=g.hM k;let@⟨D,⟨b,@q,t,E,v⟩⟩:=g.hM n;have w:UI.toArray.size+b.toArray.size<=sizeLine:=by rw[cX,cX];lia
 have z:¬ (!UI.toArray.isEmpty&&bw.List.listTooLong (UI.toArray.size+b.toArray.size))=aa:=by
  rw[KS w,Hz];exact ek
 refine qp F.slot_list_extend ⟨_,d,rfl⟩ F.entry_list_extend (F.args_list_extend_2 _ _)
  (AutoSeq1.list_extend_list_list_0 M UI.toArray s c b.toArray q z (by rw[cX];lia) ⋯) ⟨d,v,?_⟩;refine⟨.a6,_,g.t_ (R:=UI++b) k d ↥0 (r.append t) ?_,rfl,p⟩;rw[d7];lia
def Tx:av->List av->az->cJ->Prop:=(λf S h A=>∃M y l,f=.ref M/\S=[]/\h M=Z (.lst y)/\y[y.length-1]?=Z l/\A l (upd h M<|.lst y.dropLast))
def SF:vx a "list.pop" Tx:=by
 intro G j x h f S u UR A b g k e;let⟨M,y,@l,rfl,rfl,c,m,p⟩:=e;cases g;have n:=k.zero;subst n;let@⟨i,⟨UI,@s,r,o,d⟩⟩:=b.hM c;let⟨@H,q,t⟩:=r.get m;have v:UI.toArray[UI.toArray.size-1]?=Z H:=by
  show UI.toArray[UI.length-1]?=Z H;rw[<-hq,<-o];exact q
 refine qp Hj ⟨_,d,rfl⟩ AS (F.args_list_pop_1 _) (MeetsSeq.list_pop_last M UI.toArray s H v (by rw[cX];lia)) ⟨d,?_⟩;refine⟨l,_,b.t_ (R:=UI.dropLast) c d ?_ r.dropLast ?_,t,p⟩
 ·show UI.toArray.eraseIdxIfInBounds (UI.toArray.size-1)=UI.dropLast.toArray;rw[cX,wC,MI]
 ·rw[List.length_dropLast];lia
def N4:av->List av->az->cJ->Prop:=(λf S h A=>∃M y b q l,f=.ref M/\S=[.int b]/\h M=Z (.lst y) /\ -(2^63)<=b/\b<2^63/\xk b y.length=Z q/\y[q]?=Z l/\A l (upd h M<|.lst<|y.eraseIdx q))
def SJ:vx a "list.pop" N4:=by
 intro G j x h f S u UR A c k m e;let⟨M,y,b,q,@l,rfl,rfl,g,t,z,n,o,p⟩:=e;cases k;let⟨@H,rfl,v⟩:=m.one;let⟨@I,rfl⟩:=v;let@⟨i,⟨UI,@s,r,w,d⟩⟩:=c.hM g;let⟨@C,B,D⟩:=r.get o;refine qp Hj ⟨_,d,rfl⟩ AS (F.args_list_pop_2 _ _)
  (MeetsSeq.list_pop_at M UI.toArray s b I q C (fitsIndex_both t z) (by rw[cX,<-w];exact n) (by rw[<-hq];exact B) (by rw[cX];lia)) ⟨d,?_⟩;refine⟨l,_,c.t_ (R:=UI.eraseIdx q) g d ?_ (r.eraseIdx q) ?_,D,p⟩
 ·show UI.toArray.eraseIdxIfInBounds q=(UI.eraseIdx q).toArray;rw[wC]
 ·have:=F3 y q;lia
def NJ:b3:=(λf l h A=>∃M c y VJ,f=.ref M/\l=.ref c/\h M=Z (.lst y)/\h c=Z (.lst VJ)/\y.length+VJ.length<=sizeLine/\∀o,h o=Y->A (.ref o) (upd h o<|.lst<|y++VJ))
def Rj:dV a (gk .Add) NJ:=by
 intro G j x h f l u H A b k m e;let⟨M,c,y,@VJ,rfl,rfl,n,o,w,p⟩:=e;cases k;cases m;let@⟨i,⟨UI,@s,r,z,d⟩⟩:=b.hM n;let@⟨B,⟨g,@C,q,D,t⟩⟩:=b.hM o;refine PySem.P.add_list d t ?_ (by rw[cX,cX];lia);have v:UI.toArray++g.toArray=(UI++g).toArray:=by simp
 rw[v];exact⟨.ref _,_,b.I_ (Va:=j.toks) (r.append q) (by rw[d7];lia),rfl,p _ b.fresh⟩
end
section
variable{UX:Type}[DecidableEq UX]
def iz(UK:List (UX×av))(q:UX):Option av:=((UK.find? λa=>decide (a.1=q)).map (·.2))
def hJ(UK:List (UX×av))(q:UX)(u:av):List (UX×av):=(
 if (UK.any λa=>decide (a.1=q))=aa then UK.map (λa=>if a.1=q then (a.1,u) else a) else UK++[(q,u)])
def vr{o:UX×av}{r:List (UX×av)}{q:UX}(d:o.1=q):iz (o::r) q=Z o.2:=by simp[iz,jl,d]
def vJ{o:UX×av}{r:List (UX×av)}{q:UX}(d:¬ o.1=q):iz (o::r) q=iz r q:=by simp[iz,jl,d]
theorem GR(q:UX):∀UK:List (UX×av),(UK.any λa=>decide (a.1=q))=(iz UK q).isSome
 |[]=>rfl
 |o::r=>by
  rw[nL];by_cases d:o.1=q
  ·simp only[vr d,df d,Bool.true_or,Option.isSome_some]
  ·rw[vJ d,ep d,Bool.false_or];exact GR q r
def IA(UK:List (UX×av))(q:UX)(u:av):(hJ UK q u).length<=UK.length+1:=by
 unfold hJ;split
 ·rw[bS];lia
 ·rw[d7,dT,sX];lia
def kZ.sJ{H:Option af}(r:kZ m H):m.isSome=H.isSome:=by
 cases m with
 |none=>cases H with
  |none=>rfl
  |some _=>exact (show False from r).elim
 |some _=>cases H with
  |none=>exact (show False from r).elim
  |some _=>rfl
def fY.val{UK:List (UX×av)}{S:List (UX×af)}(r:fY UK S)(q:UX):kZ (iz UK q) (nP S q):=by
 unfold fY at r;induction r with
 |nil=>exact True.intro
 |@cons o p UJ a e I f=>
  let@⟨t,z⟩:=e;by_cases d:o.1=q
  ·have b:p.1=q:=t.symm.trans d;have c:nP (p::a) q=Z p.2:=by simp[nP,jl,b]
   rw[vr d,c];exact z
  ·have b:¬ p.1=q:=λi=>d (t.trans i);have c:nP (p::a) q=nP a q:=by simp[nP,jl,b]
   rw[vJ d,c];exact f
def fY.any{UK:List (UX×av)}{S:List (UX×af)}(r:fY UK S)(q:UX):(UK.any λa=>decide (a.1=q))=S.any λa=>decide (a.1=q):=by
 unfold fY at r;induction r with
 |nil=>rfl
 |cons e I b=>rw[nL,nL,b,e.1]
def fY.xH{UK:List (UX×av)}{S:List (UX×af)}(r:fY UK S)(q:UX){l:av}{H:af}(b:cm l H):
  fY (UK.map λa=>if a.1=q then (a.1,l) else a) (S.map λa=>if a.1=q then (a.1,H) else a):=by
 unfold fY at r ⊢;induction r with
 |nil=>exact .nil
 |@cons o p UJ f e I c=>
  rw[cK,cK];refine .cons ?_ c;let@⟨t,z⟩:=e;by_cases d:o.1=q
  ·rw[aJ d,aJ<|t.symm.trans d];exact⟨t,b⟩
  ·rw[aO d,aO<|λi=>d<|t.trans i];exact⟨t,z⟩
def fY.put{UK:List (UX×av)}{S:List (UX×af)}(r:fY UK S)(q:UX){l:av}{H:af}(a:cm l H):fY (hJ UK q l) (stored S q H):=by
 unfold hJ stored;rw[r.any q];by_cases d:(S.any λb=>decide (b.1=q))=aa
 ·rw[aJ d,aJ d];exact r.xH q a
 ·rw[aO d,aO d];exact er.snoc r ⟨rfl,a⟩
def fY.length{UK:List (UX×av)}{S:List (UX×af)}(r:fY UK S):UK.length=S.length:=er.length r
end
def tI{q:eQ}{H:af}(r:cm (cM q) H):(mO UB C).is q H=aa:=by
 cases q with
 |inl b=>let⟨@I,d⟩:=(show ∃I,H=af.int b I from r);subst d;exact NZ UB C b I
 |inr f=>let⟨@I,d⟩:=(show ∃I,H=af.str f I from r);subst d;exact Nz UB C f I
abbrev c9(h:az):List (List ab×av)->List (List ab×ae×af)->Prop:=er λo p=>o.1=p.1/\hH h o.1 p.2.1/\cm o.2 p.2.2
def c9.val(r:c9 h UK y)(q:List ab):kZ (iz UK q) ((kg y q).map (·.2)):=by
 induction r with
 |nil=>exact True.intro
 |@cons o p UJ a e I f=>
  let@⟨t,_,z⟩:=e;by_cases d:o.1=q
  ·have b:p.1=q:=t.symm.trans d;have c:kg (p::a) q=Z p.2:=by simp[kg,jl,b]
   rw[vr d,c];exact z
  ·have b:¬ p.1=q:=λi=>d (t.trans i);have c:kg (p::a) q=kg a q:=by simp[kg,jl,b]
   rw[vJ d,c];exact f
def c9.xH(r:c9 h UK y)(q:List ab){l:av}{H:af}(b:cm l H):
  c9 h (UK.map λa=>if a.1=q then (a.1,l) else a) (y.map<|putAt q H):=by
 induction r with
 |nil=>exact .nil
 |@cons o p UJ g e I c=>
  rw[cK,cK];refine .cons ?_ c;let@⟨t,z,f⟩:=e;unfold putAt;by_cases d:o.1=q
  ·rw[aJ d,aJ<|t.symm.trans d];exact⟨t,z,b⟩
  ·rw[aO d,aO<|λi=>d<|t.trans i];exact⟨t,z,f⟩
def c9.put(r:c9 h UK y)(q:List ab){c:ae}{l:av}{H:af}(b:hH h q c)(a:cm l H):
  c9 h (hJ UK q l) (storedH y q c H):=by
 have d:(UK.any λe=>decide (e.1=q))=(kg y q).isSome:=by
  rw[GR,(r.val q).sJ,tF]
 unfold hJ storedH;rw[d];by_cases p:(kg y q).isSome=aa
 ·rw[aJ p,aJ p];exact r.xH q a
 ·rw[aO p,aO p];exact er.snoc r ⟨rfl,b,a⟩
def c9.keeps(r:c9 h UK y)(a:∀c UL,h c=Z (.tup UL)->P c=Z (.tup UL)):c9 P UK y:=
 er.vs r λ_ W i=>⟨i.1,i.2.1.mono a,i.2.2⟩
section
variable{UB:bC}{C:bg}{h:az}{e:aZ}{g:ae}
def E2{H:gi}(ok:dt UB C h e)(d:k6 h g H):ff UB C h e g H:=d.ok ok
def pT{UK:List (eQ×av)}(ok:dt UB C h e)(d:k6 h g (.dJ UK)):UK.length<=sizeLine/\(g==i3)=aq/\∃S,fY UK S/\e.DictOf (mO UB C) g S:=
 show ff UB C h e g (.dJ UK) from E2 ok d
def K_{UK:List (eQ×av)}(ok:dt UB C h e)(d:h g=Z (.dJ UK)):UK.length<=sizeLine/\(g==i3)=aq/\∃S,fY UK S/\e.DictOf (mO UB C) g S:=pT ok (.inl d)
mutual
theorem cO.fp(ok:dt UB C h e):∀{v:ab}{u:av}{H:af},cO h v u->cm u H->dB e v H
 |.a6,_,_,d,r=>by cases (show _=av.a6 from d);exact r
 |.aC c,_,_,d,r=>by cases (show _=av.aC c from d);exact r
 |.int b,_,_,d,r=>by cases (show _=av.int b from d);exact r
 |.str f,_,_,d,r=>by cases (show _=av.str f from d);exact r
 |.fn g,_,_,d,r=>by cases (show _=av.ref g from d);exact r
 |.tup B,_,_,d,r=>by
  let⟨g,@y,rfl,t,z⟩:=d;cases r;let@⟨_,⟨@UI,a,⟨@m,i,j,⟨@s,k⟩⟩⟩⟩:=(show ff UB C h e g (.tup y) from ok g _ t);exact⟨g,m,UI.toArray,s,rfl,i,(Prod.mk.inj j).1,k,by simpa using bP.fp ok z a⟩
 |.aU B,_,_,d,r=>by
  let⟨g,y,@m,rfl,t,z⟩:=d;cases r;exact⟨g,rfl⟩
 |.fd,_,_,d,r=>by
  let⟨g,@m,rfl,t⟩:=d;cases r;exact⟨g,rfl⟩
theorem bP.fp(ok:dt UB C h e):∀{B:List ab}{S:List av}{UR:List af},bP h B S->bZ S UR->d4 e B UR
 |[],_,_,d,r=>by cases (show _=[] from d);cases r;rfl
 |v::B,_,_,d,r=>by
  let⟨u,@I,rfl,t,z⟩:=d;cases r with
  |cons a b=>exact⟨_,_,rfl,cO.fp ok t a,bP.fp ok z b⟩
end
def lR{Uy:List ab}(ok:dt UB C h e)(d:hH h Uy g):(hS UB C).is e Uy g:=⟨d.1,d.2.fp ok rfl⟩
def o9{UB:bC}{C:bg}{O:bB}(e:O.units+20<b9):(hS UB C).room O.in1:=show O.units+1+10<b9 by lia
def rg(ok:dt UB C h e)(d:k6 h g (.aQ UK)):UK.length<=sizeLine/\(g==i3)=aq/\
  ∃y,c9 h UK y/\e.DictOfH (hS UB C) g y:=by
 let@⟨i,l,⟨@y,r,⟨m,T,@Vu,t,z,c,j,k⟩⟩⟩:=(show ff UB C h e g (.aQ UK) from E2 ok d);refine⟨i,l,y,r,m,T,Vu,t,z,c,j,λf a=>?_,k⟩;have all:∀{M:List (List ab×av)}{E:List (List ab×ae×af)},c9 h M E->∀f∈E,(hS UB C).is e f.1 f.2.1:=by
  intro M E p;induction p with
  |nil=>intro f a;exact nomatch a
  |@cons o p UJ q b I n=>
   intro f a;rcases bI.mp a with d|a
   ·subst d;exact lR ok (by rw[<-b.1];exact b.2.1)
   ·exact n f a
 exact all r f a
def xR(ok:dt UB C h e)(d:h g=Z (.aQ UK)):UK.length<=sizeLine/\(g==i3)=aq/\
  ∃y,c9 h UK y/\e.DictOfH (hS UB C) g y:=rg ok (.inl d)
end
def hg(h:az)(g:ae)(l:av)(r:Option av):Prop:=(
 (∃UK q,k6 h g (.dJ UK)/\l=cM q/\r=iz UK q)\/∃UK q c,k6 h g (.aQ UK)/\l=.ref c/\hH h q c/\r=iz UK q)
def nT(h:az)(g:ae)(l u:av)(P:az):Prop:=(
 (∃UK q,h g=Z (.dJ UK)/\l=cM q/\UK.length<sizeLine/\P=upd h g (.dJ<|hJ UK q u))\/
 ∃UK q c,h g=Z (.aQ UK)/\l=.ref c/\hH h q c/\UK.length<sizeLine/\P=upd h g (.aQ<|hJ UK q u))
def hg.k{h:az}{g:ae}{UK:List (eQ×av)}{q:eQ}(d:h g=Z (.dJ UK)):hg h g (cM q) (iz UK q):=.inl ⟨UK,q,.inl d,rfl,rfl⟩
def hg.t{h:az}{g c:ae}{UK:List (List ab×av)}{q:List ab}(d:h g=Z (.aQ UK))(a:hH h q c):hg h g (.ref c) (iz UK q):=.inr ⟨UK,q,c,.inl d,rfl,a,rfl⟩
def nT.k{h:az}{g:ae}{UK:List (eQ×av)}{q:eQ}{u:av}(d:h g=Z (.dJ UK))(a:UK.length<sizeLine):nT h g (cM q) u (upd h g<|.dJ<|hJ UK q u):=.inl ⟨UK,q,d,rfl,a,rfl⟩
def nT.t{h:az}{g c:ae}{UK:List (List ab×av)}{q:List ab}{u:av}(d:h g=Z (.aQ UK))(a:hH h q c)(b:UK.length<sizeLine):
  nT h g (.ref c) u (upd h g<|.aQ<|hJ UK q u):=.inr ⟨UK,q,c,d,rfl,a,b,rfl⟩
section
variable{a:aK}{G:List (ae×a7)}{x:a5}{h:az}{j:ao}{g:ae}{l u:av}{H r:af}{m:Option av}{O:bB}{Uv:af->ao->Prop}
def aG.big(b:aG a G x h j):i3<j.heap.objs.size:=by
 have e:dP<j.heap.objs.size:=(b.mod.glob.keeps b.dI).lt;exact DF ∅ e
def TN(v:O.units+20<b9)(f:aG a G x h j)(J:hg h g l (Z u))(t:cm l H)(e:∀b Ux,aG a G x h Ux->cm u b->A b Ux):
  wpAny (aS a.prog a.w) O (nj (.ref g) H) A Uv j:=by
 rcases J with ⟨UK,q,d,k,M⟩|⟨UK,q,c,d,k,z,M⟩
 ·subst k;let@⟨i,hd,⟨@S,n,p⟩⟩:=pT f.aT d;let⟨@b,r,s⟩:=kZ.some_of (u:=u) (m:=nP S q) (by rw[M];exact n.val q);exact wpAny_getItem_of (tI t) p.mapOf r (e b _ (f.tok _) s)
 ·subst k;cases (show H=af.ref c from t);let@⟨i,hd,⟨@y,n,p⟩⟩:=rg f.aT d;let⟨@b,r,s⟩:=kZ.some_of (u:=u) (m:=(kg y q).map (·.2)) (by rw[M];exact n.val q);let⟨@o,B,D⟩:=cx.mp r;refine CK (o9 v) (lR f.aT z) p B ?_;rw[D];exact e b _ (f.tok _) s
def xi(r:O.units+20<b9)(b:aG a G x h j)(J:hg h g l m)(o:cm l H)(e:∀Ux,aG a G x h Ux->A (.bool m.isSome) Ux):
  wpAny (aS a.prog a.w) O (dW .In H<|.ref g) A Uv j:=by
 rcases J with ⟨UK,q,d,f,M⟩|⟨UK,q,c,d,f,s,M⟩
 ·subst f;let@⟨i,hd,⟨@S,k,n⟩⟩:=pT b.aT d;refine wpAny_in_of (tI o) hd n.mapOf ?_;rw[<-(k.val q).sJ,<-M];exact e _ (b.tok _)
 ·subst f;cases (show H=af.ref c from o);let@⟨i,hd,⟨@y,k,n⟩⟩:=rg b.aT d;refine wpAny_in_heap (o9 r) (lR b.aT s) hd n ?_;have p:=(k.val q).sJ;rw[tF]at p;rw[<-p,<-M];exact e _ (b.tok _)
def Ai(r:O.units+20<b9)(b:aG a G x h j)(J:hg h g l m)(o:cm l H)(e:∀Ux,aG a G x h Ux->A (.bool<|!m.isSome) Ux):
  wpAny (aS a.prog a.w) O (dW .NotIn H<|.ref g) A Uv j:=by
 rcases J with ⟨UK,q,d,f,M⟩|⟨UK,q,c,d,f,s,M⟩
 ·subst f;let@⟨i,hd,⟨@S,k,n⟩⟩:=pT b.aT d;refine wpAny_notIn_of (tI o) hd n.mapOf ?_;rw[<-(k.val q).sJ,<-M];exact e _ (b.tok _)
 ·subst f;cases (show H=af.ref c from o);let@⟨i,hd,⟨@y,k,n⟩⟩:=rg b.aT d;refine wpAny_notIn_heap (o9 r) (lR b.aT s) hd n ?_;have p:=(k.val q).sJ;rw[tF]at p;rw[<-p,<-M];exact e _ (b.tok _)
def xO{Vt:gi}(b:aG a G x h j)(e:rb (h g))(UH:aZ.SameBut g j.heap Uu)(k:∃p,Uu.get? g=Z p)(new:ff a.prog a.w (upd h g Vt) Uu g Vt):
  aG a G x (upd h g Vt) {j with heap:=Uu,toks:=Va}:=
 b.write (f:=g) (d:=g) e (.inl rfl) (λc p l i=>(UH.2 c l).trans i) k new
def LJ{UK:List (eQ×av)}{S:List (eQ×af)}(i:UK.length<=sizeLine)(hd:(g==i3)=aq)(a:fY UK S)(b:Uu.DictOf (mO UB C) g S):
  ff UB C P Uu g (.dJ UK):=⟨i,hd,S,a,b⟩
def H4{A:Unit->ao->Prop}(L:O.units+20<b9)(b:aG a G x h j)(J:nT h g l u P)(D:cm l H)(E:cm u r)(e:∀Ux,aG a G x P Ux->A () Ux):
  wpAny (aS a.prog a.w) O (u0 (.ref g) H r) A Uv j:=by
 rcases J with ⟨UK,q,d,o,M,s⟩|⟨UK,q,c,d,o,F,M,s⟩
 ·subst o s;let@⟨i,hd,⟨@S,f,t⟩⟩:=K_ b.aT d;have v:S.length<=sizeLine:=by rw[<-f.length];exact i
  have B:(hJ UK q u).length<=sizeLine:=by have:=IA UK q u;lia
  refine wpAny_setItem_pairs (hsz:=v) (tI D) t λUu k UH=>e _ ?_;have Q:∃p,Uu.get? g=Z p:=let ⟨p,_,_,m,_⟩:=k;⟨p,m⟩
  exact xO b (by rw[d];exact True.intro) UH Q (LJ B hd (f.put q E) k)
 ·subst o s;cases (show H=af.ref c from D);let@⟨i,hd,⟨@y,f,t⟩⟩:=xR b.aT d;have v:y.length<=sizeLine:=by rw[<-er.length f];exact i
  have B:(hJ UK q u).length<=sizeLine:=by have:=IA UK q u;lia
  refine wpAny_setItem_heap (hsz:=v) (o9 L) (lR b.aT F) t λUu k UH=>e _ ?_;let⟨p,T,@Vu,m,z,R,U,W,al⟩:=k;refine xO b (by rw[d];exact True.intro) UH ⟨p,m⟩ ⟨B,hd,_,(f.put q F E).keeps λn UL I=>?_,p,T,Vu,m,z,R,U,al⟩;rw[cW (Eu I d<|λi=>nomatch i)];exact I
end
section
variable{a:aK}{G:List (ae×a7)}{x:a5}{h:az}{j:ao}{g:ae}{UK:List (eQ×av)}{q:eQ}{H:af}{O:bB}{Uv:af->ao->Prop}
def LC(b:aG a G x h j)(d:k6 h g (.dJ UK))(e:∀I Ux,aG a G x h Ux->A (.int UK.length I) Ux):wpAny (aS a.prog a.w) O (call (.builtin "len") [.ref g]) A Uv j:=by
 let@⟨i,hd,⟨@S,c,f⟩⟩:=pT b.aT d;refine call_len_dict hd f (by rw[<-c.length];rw[uM]at i;lia) ?_;rw[<-c.length];exact e _ _ (b.tok _)
end
def Rl{a:aK}{g:ae}{l:av}(e:aG a G x h j)(J:hg h g l m):j.TypeIs (.ref g) "dict" := by
 rcases J with ⟨UK,q,d,_,_⟩|⟨UK,q,c,d,_,_,_⟩
 ·let@⟨_,_,⟨@S,_,b⟩⟩:=pT e.aT d;exact b.typeIs
 ·let@⟨_,_,⟨@y,_,b⟩⟩:=rg e.aT d;exact b.typeIs
def BC(e:aZ)(a:i3<e.objs.size):ff UB C h (e.push {cls:=.type "dict",data:=.dict #[]}) e.objs.size (.aQ []):=
 ⟨lB _,ys.mpr<|f6<|d8 a,[],.nil,_,#[],0,dr _ rfl,⟨rfl,rfl,rfl⟩,rfl,rfl,my⟩
def Mb:cf:=(λ_ h A=>∀o,h o=Y->A (.ref o) (upd h o<|.aQ []))
section
variable{a:aK}{UM:Pos}
def J_:bU a (.Dict [] [] UM) Mb:=λG j x h A b e=>
 wpAny_Dict_empty ⟨.ref j.heap.objs.size,_,b.laid (g:=j.heap.objs.size) (m:=.aQ []) (Va:=j.toks) (λ_ W p=>b5 _ p) (bT _)<|BC j.heap b.big,rfl,e _<|b.aT.fresh<|bT _⟩
end
end L2
namespace FF
open PySem.W PySem.Calls PyProof.Rows
variable{s:Nat}{M:OpenLaw}
def ME{UB:tD}{e:aZ}:∀(UP:List Int) (S:List af),WellAll UB e S (UP.map sz.int)->rx S UP:=by
 intro UP;induction UP with
 |nil=>
  intro S C;rw[z9]at C;cases C;exact .nil
 |cons s UP a=>
  intro S C;rw[cK]at C;cases C with
  |cons g c=>
   cases g;exact .cons _ _ (a _ c)
def SE(h:M.most=Z s){UB:tD}{e:aZ}{args:List sz}{c:List af}(d:M.row.toRowW.claim.pre args=aa)(i:WellAll UB e c args):
  ∃g S UP,c=[af.ref g]/\args=[sz.list (UP.map sz.int)]/\e.get? g=Z {cls:=.type "list",data:=.seq S.toArray}/\rx S UP/\UP.length<=s:=by
 have j:sL.hasAll [] args [.list .int]=aa:=(pre_splitW d).1;have f:M.pre.holds [] {args:=args}=aa:=(pre_splitW d).2;let⟨v,@r,rfl,t,z⟩:=hasAllW_cons j;obtain rfl:=hasAllW_nil z;let⟨@y,rfl,k⟩:=hasW_list t;let⟨@UP,rfl⟩:=items_int k;have l:UP.length<=s:=by
  unfold OpenLaw.pre at f;have a:(WTm.not<|.lt (.lit<|.int (s:Int))<|.len<|.arg 0).holds [] {args:=[.list (UP.map .int)]}=aa:=by
   have a:=(holds_andW f).1;rw[h]at a;exact a
  have b:=condW_of a (w_not<|w_lt w_lit<|w_len_list<|w_arg rfl);rw[bS]at b;refine Nat.le_of_not_lt λp=>?_;have m:(s:Int)<((UP.length:Nat):Int):=⋯
  first
   | (rw[df m]at b;exact absurd b ∅)
   | (simp at b;lia)
 cases i with
 |cons dC dc=>
  cases dc;cases dC with
  |list n o=>exact⟨_,_,UP,rfl,rfl,n,ME UP _ o,l⟩
def OU(M:OpenLaw)(args:List sz):M.row.toRowW.claim.post args (.bool aa) args=aa:=
 postW_of (r:=M.row.toRowW) (X:=(aa==aa))
  (show sL.has [] (.bool aa) .bool=aa by first|rfl|decide|simp[sL.has,sL.arms,sL.armsAll])
  (show (WTm.eq .res<|.lit<|.bool aa).value [] {args:=args,res:=Z (.bool aa),after:=args}=Z (.bool<|aa==aa) from w_eq_bool (w_res rfl) w_lit) rfl
def Nm{p:bC}{d:List aF}{e:(aF->Option af)->aZ->Prop}{f:bg->aZ->Prop}{v:DefRec}(i:M.most=Z s)(j:v.params.defaults=[])(call:∀(C:bg) (eK a:ao) (ay c:aF->Option af) (b:ae) (m:a7) (U5 VP k:af) (g:ae) (S:List af) (UP:List Int),
   Ground p d [] e C eK ay c a.heap->f C a.heap->
   a.heap.get? b=Z m->m.data=.func (docDef v.name v.params v.body v.scope U5 VP k)->a.heap.CodeRec VP v.name->ay v.name=Z (.ref b)->
   a.heap.get? g=Z {cls:=.type "list",data:=.seq S.toArray}->rx S UP->UP.length<=s->a.gens=#[]->
   codeAny (aS M.prog C) oM (.call (.ref b) ⟨[.ref g],[]⟩) (λr Ux=>r=.ok (.ret<|.bool aa)/\OldK a.heap Ux.heap/\Ux.os=a.os/\kW Ux.gens) a):
  WalkO p d e f M.row.toRowW v [] (λL S=>PySem.call L S):=by
 intro C eK a ay c R l b m U5 VP k n cM o hd q h t u args H I w J N x O;obtain rfl:n=.none:=Dflts.none h j;obtain rfl:cM=.none:=Dflts.noKw h;let⟨g,S,@UP,rfl,rfl,y,A,B⟩:=SE i w x;refine enter_call (uu (call C eK a ay c b m U5 VP k g S UP R l o (fd_plain hd) q t y A B u) λr Ux D=>?_);let@⟨rfl,z,E,F⟩:=D;exact⟨.inl ⟨.bool aa,.bool aa,[],rfl,λ_=>rfl,.bool aa,OU M _,λ_=>⟨List.Pairwise.nil,λ_ G=>(nomatch G)⟩⟩,z,E,F⟩
end FF
namespace L2
open Spec PyProof.Rows
variable{UJ:List aF}{L:ae}{VA f:aF}{fd:gC}{q:Nat}
theorem CV:∀{S:List af}{UP:List Int},rx S UP->bZ (UP.map av.int) S
 |_,_,.nil=>.nil
 |_,_,.cons s I e=>.cons ⟨I,rfl⟩ (CV e)
def uH(h:az):Prop:=(∀c,h c=Y\/∃m y,h c=Z (.dx m<|.lst y))
def PY{UB:bC}{C:bg}{Q:Φ}{ay o:aF->Option af}{VL:jo}{w g:ae}{sp:kj}{a:ao}{S:List af}{UP:List Int}(B:Q.In a.heap)(D:a.heap.Ns dP ay)(b:a.heap.Ns u4 o)(U:∀f:aF,f ≠ "__name__" -> o f=fw f)(al:a.heap.NoLimit)(am:a.gens=#[])(l:a.heap.get? g=Z {cls:=.type "list",data:=.seq S.toArray})(Uw:rx S UP)(F:UP.length<=sizeLine)(an:ea q oM)(N:∀UC:aZ,Q.In UC->UC.Ns dP ay->gL UB C Q ay UC VL q w fd [f] sp)(ap:∀(j:ao) (H:af),mF j fd ⟨[H],[]⟩ [(f,H)])(as:∀h:az,uH h->dm Q h g (UP.map av.int)->sp [.ref g] h (λu K=>u=.aC aa) λ_ K K=>False)(a1:∀h d Ux,VL [] h a (λ_ K K=>False) d Ux->False):
  codeAny (aS UB C) oM (.call (.ref w) ⟨[.ref g],[]⟩) (λr Ux=>r=.ok (.ret<|.bool aa)/\OldK a.heap Ux.heap/\Ux.os=a.os/\kW Ux.gens) a:=by
 have G:=CV Uw;have a2:=Uw.length;have I:∀h:az,uH h->dm Q h g (UP.map av.int)->dt UB C h a.heap->(∀c,h c≠Y->c=g)->(h g≠Y->Q.lookup g=Y)->
   codeAny (aS UB C) oM (.call (.ref w) ⟨[.ref g],[]⟩) (λr Ux=>r=.ok (.ret<|.bool aa)/\OldK a.heap Ux.heap/\Ux.os=a.os/\kW Ux.gens) a:=by
  intro h J bd aT L be;have M:∀{c:ae}{m:a7},a.heap.get? c=Z m->h c=Y->(lO a.heap h).get? c=Z m:=λd s=>To d s;have bi:∀{c:ae}{m:a7}{T:Array DictEntry}{Vu:Nat},a.heap.get? c=Z m->m.data=.dict T Vu->h c=Y:=λ{c m T Vu} d v=>by
   cases p:h c with
   |none=>rfl
   |some H=>
    have x:c=g:=L c (by rw[p];simp);subst x;rw[l]at d;cases d;have bm:Data.seq S.toArray _=Data.dict T Vu:=v;cases bm
  have n:∀{c:ae}{E:aF->Option af},a.heap.Ns c E->(lO a.heap h).Ns c E:=λ{c E} ⟨m,T,Vu,d,v,r⟩=>⟨m,T,Vu,M d<|bi d v,v,r⟩;have O:Q.In (lO a.heap h):=λc m d=>M (B c m d) (by
   cases p:h c with
   |none=>rfl
   |some H=>
    have x:c=g:=L c (by rw[p];simp);subst x;rw[be (by rw[p];simp)]at d;cases d)
  have bn:Mod Q ay (lO a.heap h):=⟨O,n D,⟨o,n b,U⟩,let ⟨bs,t,z⟩:=al;⟨bs,n t,z⟩⟩;have bv:um UB C Q ay (lO a.heap h) oM [] a h:=⟨rfl,bn,λc m d=>OR d,Nat.le_of_eq<|MR _ _,trivial,λc b=>absurd (show c∈([]:List ae) from b) ↥0,aT,.of_eq am⟩;refine uu ((N _ O<|n D).run oM [] a h ⟨[.ref g],[]⟩ [.ref g] [.ref g] _ _ an bv (ap a<|.ref g) (.cons rfl .nil)<|as h J bd) λr Ux e=>?_;cases r with
  |error d=>exact (a1 h d Ux e).elim
  |ok aU=>
   cases aU with
   |next=>exact False.elim e
   |brk=>exact False.elim e
   |cont=>exact False.elim e
   |ret H=>
    let⟨u,@P,UN,ca,un,cd,Vs,p⟩:=e;have ce:u=.aC aa:=p;subst ce;obtain rfl:H=af.bool aa:=Vs;refine⟨rfl,OldK.of_keep λc m d=>?_,UN,ca⟩;cases p:h c with
    |none=>exact un.keep c m d p (by intro i;exact absurd (show c∈([]:List ae) from i) ↥0) ↥0
    |some H=>
     rcases J c with i|⟨Vt,y,i⟩
     ·rw[p]at i;cases i
     ·have ch:=un.hv c Vt _ i;let@⟨R,_⟩:=aT c _ i;let@⟨ci,_⟩:=cd c _ ch;rw[d]at R;cases R;exact ci
 cases A:Q.lookup g with
 |some m=>
  have d:=B g m A;rw[l]at d;cases d;refine I (λ_=>Y) (λ_=>.inl rfl) (.inr ⟨_,S.toArray,_,A,rfl,rfl,rfl,by rw[cX,a2];exact F,by simpa using G⟩) (λc H i=>by have k:(Y:Option gi)=Z H:=i;cases k) (λc i=>absurd rfl i) λi=>absurd rfl i
 |none=>
  refine I (λc=>if c=g then Z (.dx {cls:=.type "list",data:=.seq S.toArray} (.lst<|UP.map av.int)) else Y) (λc=>?_) (.inl<|.inr ⟨{cls:=.type "list",data:=.seq S.toArray},aJ rfl⟩) (λc H i=>?_) (λc i=>?_) λ_=>A
  ·by_cases b:c=g
   ·exact .inr ⟨_,_,aJ b⟩
   ·exact .inl (aO b)
  ·by_cases b:c=g
   ·have k:=(aJ b).symm.trans i;cases k;subst b;exact⟨l,by rw[bS];exact F,S,_,G,l⟩
   ·have k:=(aO b).symm.trans i;cases k
  ·by_cases b:c=g
   ·exact b
   ·exact absurd (aO b) i
def PZ{M:PySem.W.OpenLaw}{s:Nat}{p:bC}{o:List aF}{r:(aF->Option af)->aZ->Prop}{i:bg->aZ->Prop}{v:DefRec}{Q:tD->Φ}{VL:bg->jo}{sp:bg->kj}(t:M.most=Z s)(w:s<=sizeLine)(x:v.params.defaults=[])(y:ea q oM)(z:∀(C:bg) (e:aZ),i C e->(Q C.params).In e)(N:∀(C:bg) (ay:aF->Option af) (a:ae) (e:aZ),(Q C.params).In e->e.Ns dP ay->ay v.name=Z (.ref a)->
   ∃fd:gC,(∀(j:ao) (H:af),mF j fd ⟨[H],[]⟩ [(f,H)])/\
    ∀UC:aZ,(Q C.params).In UC->UC.Ns dP ay->gL M.prog C (Q C.params) ay UC (VL C) q a fd [f] (sp C))(A:∀(C:bg) (h:az) (g:ae) (UP:List Int),UP.length<=s->uH h->dm (Q C.params) h g (UP.map av.int)->sp C [.ref g] h (λu K=>u=.aC aa) λ_ K K=>False)(B:∀(C:bg) (h:az) (j:ao) (d:af) (Ux:ao),VL C [] h j (λ_ K K=>False) d Ux->False):
  PySem.W.WalkO p o r i M.row.toRowW v [] (λL S=>PySem.call L S):=by
 refine FF.Nm t x λC eK D ay ap a m U5 VP k g S UP R E as hd a1 G I O l P=>?_;have n:=z C _ E;let⟨@fd,U,al⟩:=N C ay a _ n R.T.g G;exact PY n R.T.g R.T.b R.T.builtins R.T.nolimit P I O (fl l w) y al U (λh am an=>A C h g UP l am an) λh d Ux=>B C h D d Ux
def jN(j:bz):Arguments:=(match j with
 |.FunctionDef _ g _ _ _ _ _ _ _ _=>g
 |_=>{posonlyargs:=[],args:=[],vararg:=Y,kwonlyargs:=[],kw_defaults:=[],kwarg:=Y,defaults:=[]})
def g4(j:bz):List bz:=(match j with
 |.FunctionDef _ _ c _ _ _ _ _ _ _=>c
 |_=>[])
def dU(j:bz):ha:=(match j with
 |.FunctionDef _ _ _ _ _ _ D _ _ _=>D
 |_=>{kind:=.function,names:=[],isGenerator:=aq,isCoroutine:=aq})
abbrev il:jo:=λ_ _ _ _ _ _=>False
abbrev LH:fF:=λ_ _ _=>False
def yC{a:aK}:ui il a LH:=λ_ W W W W W W e=>e.elim
structure gV(Q:Φ)(f VA:aF)(X:bz)(L:ae)(fd:gC):Prop where
 ex:∃(z:af) (t:Option ae) (cM k U5:af) (F:Option ae) (Vg cG:af) (V0:Array (Option af)),
  fd=Ξ f VA (jN X) (g4 X) (dU X) .none cM k U5 F Vg cG/\Q.lookup L=Z ⟨z,t,.func fd,V0⟩/\Ω Q Vg VA=aa
 c8:Θ Q (.ref L)=aa
section
variable{UB:bC}{C:bg}{Q:Φ}{ay:aF->Option af}{UC:aZ}
def gV.ok{X:bz}{UZ:List aF}{sp:kj}(N:gV Q f VA X L fd)(UW:kb UZ UJ (dU X))(len:∀S h A Uv,sp S h A Uv->S.length=UJ.length)(a:∀(Vg:af) (O:bB) (U7:List d0) (j:ao) (h:az) (S:List av) (A:cJ) (Uv:fF),ea q (O.deeper<|iD VA (dU X) j.heap.objs.size L Vg)->sp S h A Uv->
   ∃I,gs (h7 il UB C Q ay UC UZ VA (dU X) L Vg O U7 j h Uv).oA (g4 X) I/\I {aM:=λ_ P=>A .a6 P,dR:=A} (start UZ S) h):gL UB C Q ay UC il (q+1) L fd UJ sp:=by
 let⟨z,t,cM,k,U5,F,Vg,cG,@V0,rfl,lk,b⟩:=N.ex;refine AJ lk b UW len λO U7 j h S A Uv c d=>?_;let⟨@I,e,p⟩:=a Vg O U7 j h S A Uv c d;exact⟨I,e.oA,p⟩
def gV.binds{X:bz}(N:gV Q f VA X L fd)(e:∀(cM k U5:af) (F:Option ae) (Vg cG:af) (UR:List af),UR.length=UJ.length->mC (Ξ f VA (jN X) (g4 X) (dU X) .none cM k U5 F Vg cG) ⟨UR,[]⟩=pure (UJ.zip UR)):ix Q fd UJ []:=by
 let⟨z,t,cM,k,U5,F,Vg,cG,@V0,rfl,lk,a⟩:=N.ex;exact .all (e cM k U5 F Vg cG)
def Sl{X:bz}{z:af}{t F:Option ae}{V0:Array (Option af)}{cM k U5 Vg cG:af}(M:Q.lookup L=Z ⟨z,t,.func<|Ξ f VA (jN X) (g4 X) (dU X) .none cM k U5 F Vg cG,V0⟩)(n:Ω Q Vg VA=aa)(q:Θ Q (.ref L)=aa):gV Q f VA X L (Ξ f VA (jN X) (g4 X) (dU X) .none cM k U5 F Vg cG):=⟨⟨z,t,cM,k,U5,F,Vg,cG,V0,rfl,M,n⟩,q⟩
end
section
variable{a:aK}
def ez(b:Nat){f:aF}{UM:Pos}(c:a.N[b]?=Z f:=by rfl)(d:vC a.env.scope f:=by first|exact Or.inl rfl|exact Or.inr (Or.inl rfl)|exact Or.inr (Or.inr rfl))(hd:(f==("__debug__" : aF))=aq:=by decide)(e:(f==("__classdict__" : aF))=aq:=by decide):bU a (.Name f UM) (lU b):=Hx c d hd e
end
def c1(h P:az):Prop:=(∀c m,h c=Z m->P c=Z m)
def c1.refl(h:az):c1 h h:=λ_ W e=>e
end L2
namespace L2
section
variable{a:aK}
def RP:eY a (.builtin "len") (λy h A=>∃g UK,y=[av.ref g]/\h g=Z (.dJ UK)/\A (.int UK.length) h):=by
 intro G j x h y UR A b r e;let⟨g,@UK,rfl,c,p⟩:=e;let⟨@H,rfl,d⟩:=iM r;cases d;exact LC b (.inl c) λI Ux f=>⟨.int UK.length,h,f,⟨I,rfl⟩,p⟩
end
end L2
namespace L2
open Spec PyProof.Rows
variable{A:Option af->ao->Prop}{b Vu VM:Nat}{Uz v aH:ae}{e t:aZ}{Uy:List af}{VT:bX}{Vc Vy VS:bj}{cN:List ae}{h:az}{x:a5}{G:List (ae×a7)}{Ve:List Nat}{own:List aF}{U:d0}{UM:Pos}{US:ha}{VO:List bj}{j:ao}{O:bB}
def Kp{UG:bC}{C:bg}{UA:Result->ao->Prop}{c:bj}{Uz g:af}(b:Nat->ao->Prop)(o:∀s j,b s j->wpAny (aS UG C) O (hO Uz) (λr a=>match r with
   |none=>UA (.ok .next) a
   |some u=>wpAny (aS UG C) O (ql c Uz u) (λ_ a=>wpAny (aS UG C) O (ja c U u) (λ_ i=>
     wpAny (aS UG C) O (forIn VO aa λn r=>if r=aa then do let ok <-o8 n U (b6 n U);pure (ForInStep.yield ok) else pure (ForInStep.yield r)) (λok h=>
      if ok=aa then wpAny (aS UG C) O (b6 VS U) (λf k=>
       wpAny (aS UG C) O (call (.builtin "list.append") [g,f]) (λ_ l=>∃E,E<s/\b E l) (λ_ W=>False) k) (λ_ W=>False) h
      else ∃E,E<s/\b E h) (λ_ W=>False) i) (λ_ W=>False) a) (λ_ W=>False) a) (λ_ W=>False) j)(s:Nat)(e:b s j):
  codeAny (aS UG C) O (.compLoop (.ListComp VS [⟨c,Vy,VO,0⟩] US UM) 0 Uz g U) UA j:=by
 refine codeAny_loop rfl b (λs j p=>?_) s e;show wpAny _ O ((compTurn (.ListComp VS [⟨c,Vy,VO,0⟩] US UM) 0 Uz g U).onRaise (λf=>do noteFrame f U;theTreesLotGoes f)) _ _ j;refine wpAny_noted ?_;rw[compTurn_list];refine aB (u2<|aB<|gS (o s j p) (λr a d=>?_) λ_ W Uu=>Uu.elim);cases r with
 |none=>exact a_ d
 |some u=>
  refine aB (gS d (λ_ a d=>?_) λ_ W Uu=>Uu.elim);refine aB (gS d (λ_ i q=>aB<|gS q (λok h m=>?_) λ_ W Uu=>Uu.elim) λ_ W Uu=>Uu.elim);cases ok with
  |false=>exact a_ ⟨rfl,m⟩
  |true=>
   exact aB (aB<|gS m (λf k t=>aB<|gS t (λ_ l v=>a_<|a_ ⟨rfl,v⟩) λ_ W Uu=>Uu.elim) λ_ W Uu=>Uu.elim)
def kX(U:d0)(Vf:List (aF×da)):List (aF×ae):=(Vf.foldl (λcs l=>if l.2==.free then (l.1,(U.cells.lookup l.1).getD 0)::cs else cs) [])
theorem zF{U:d0}:∀(Vf:List (aF×da)) (cs:List (aF×ae)),(∀l∈Vf,l.2=.free->∃n,U.cells.lookup l.1=Z n)->
  (forIn Vf cs λ(l:aF×da) cs=>if l.2==.free then (do let n <-vD U l.1;pure (ForInStep.yield ((l.1,n)::cs))) else pure (ForInStep.yield cs):ef _)=
   pure (Vf.foldl (λcs l=>if l.2==.free then (l.1,(U.cells.lookup l.1).getD 0)::cs else cs) cs)
 |[],cs,_=>rfl
 |l::r,cs,e=>by
  rw[pJ,mU];by_cases a:l.2=.free
  ·let⟨@n,c⟩:=e l mK a;have d:(l.2==da.free)=aa:=by simp[a]
   rw[aJ d,aJ d];have f:vD U l.1=pure n:=by unfold vD;rw[c]
   rw[f,c];show (forIn r ((l.1,n)::cs) _:ef _)=_;exact zF r _ λi b=>e i (l8 _ b)
  ·have d:¬ (l.2==da.free)=aa:=by simp[a]
   rw[aO d,aO d];show (forIn r cs _:ef _)=_;exact zF r _ λi b=>e i (l8 _ b)
def Ku(e:∀l∈US.names,l.2=.free->∃n,U.cells.lookup l.1=Z n):closureFor US U=pure (kX U US.names):=by
 have:=zF (U:=U) US.names [] e;unfold closureFor;dsimp only;have d:(forIn US.names ([]:List (aF×ae))<|λ(f:aF×da) (r:List (aF×ae))=>(if f.2==.free then (do let n <-vD U f.1;pure (ForInStep.yield ((f.1,n)::r))) else pure (ForInStep.yield r):ef (ForInStep<|List<|aF×ae)))=pure (kX U US.names):=this;rw[d];rfl
theorem CA{U:d0}:∀(Vf:List (aF×da)) (cs:List (aF×ae)) (f:aF) (n:ae),
  (Vf.foldl (λcs l=>if l.2==.free then (l.1,(U.cells.lookup l.1).getD 0)::cs else cs) cs).lookup f=Z n->
  (n=(U.cells.lookup f).getD 0/\(f,da.free)∈Vf)\/cs.lookup f=Z n
 |[],cs,f,n,e=>.inr e
 |l::r,cs,f,n,e=>by
  rw[mU]at e;rcases CA r _ f n e with ⟨d,E⟩|e
  ·exact .inl ⟨d,l8 _ E⟩
  ·by_cases a:l.2=.free
   ·rw[aJ (by simp[a])]at e;rw[hh]at e;by_cases b:f=l.1
    ·subst b;rw[kS]at e;refine .inl ⟨(Option.some.inj e).symm,?_⟩;rw[<-a];exact mK
    ·have:(f==l.1)=aq:=by simpa using b
     rw[this]at e;exact .inr e
   ·rw[aO (by simp[a])]at e;exact .inr e
theorem y5{U:d0}:∀(Vf:List (aF×da)) (cs:List (aF×ae)) (f:aF),(f,da.free)∈Vf\/(∃n,cs.lookup f=Z n)->
  ∃n,(Vf.foldl (λcs l=>if l.2==.free then (l.1,(U.cells.lookup l.1).getD 0)::cs else cs) cs).lookup f=Z n
 |[],cs,f,e=>by
  rcases e with e|e
  ·cases e
  ·exact e
 |l::r,cs,f,e=>by
  rw[mU];apply y5 r _ f;rcases e with e|⟨n,e⟩
  ·rcases bI.mp e with d|e
   ·right;subst d;rw[aJ (by rfl),hh,kS];exact⟨_,rfl⟩
   ·exact .inl e
  ·right;by_cases a:(l.2==da.free)=aa
   ·rw[aJ a,hh];cases f==l.1
    ·exact⟨n,e⟩
    ·exact⟨_,rfl⟩
   ·rw[aO a];exact⟨n,e⟩
structure ka where
 aH:ae
 s:ao
 H:az
 cN:List ae
 cs:List (aF×ae)
variable{VC:ka->cf}{S:ka->eF}{J:ka->gP}
def aK.fX(a:aK)(c:List aF)(US:ha)(b:ka): aK :=(
  {prog:=a.prog,w:=a.w,K:=a.K,ay:=a.ay,base:=a.base,A:=a.A,N:=c,eK:=b.s,qe:=b.H,env:=ud US (b.cs ++ kX a.env US.names) b.aH a.env,outer:=a.stack,stack:=a.stack,
    ex:=b.cN,fn:=λf => US.names.lookup f==Z .cell,calm:=a.calm,gN:=[],cL:=λ_ W => False})
structure t9(VM:Nat)(Vf:List (aF×da))(cs:List (aF×ae))(e:aZ):Prop where
 fB:∀f n,cs.lookup f=Z n->VM<=n/\e.IsCell n Y/\(f,da.cell)∈Vf
 inj:∀f l n,cs.lookup f=Z n->cs.lookup l=Z n->f=l
def JW{aE:gn}{Uv:af->ao->Prop}{s:ae}{bM:List (aF×ae)}{VA:aF}{A:d0->ao->Prop}(e:∀Uu cs,(∀c m,j.heap.get? c=Z m->Uu.get? c=Z m)->Uu.Ns j.heap.objs.size (λ_=>Y)->t9 (j.heap.objs.size+1) US.names cs Uu->(∀f,(f,da.cell)∈US.names->∃n,cs.lookup f=Z n)->
   A (newEnv US j.heap.objs.size s (cs++bM) VA Y .none (Z U) u4) {j with heap:=Uu}):
  wpAny aE O (B0 US s bM [] VA Y .none<|Z U) A Uv j:=by
 unfold B0;refine aB (wpAny_alloc ?_);have VM:(j.heap.push {cls:=.type (if (Z U).isSome=aa then "dict" else "frame"),data:=.dict #[]}).Ns j.heap.objs.size λ_=>Y:=⟨_,#[],_,dr _ rfl,rfl,by intro b Uw;simp at Uw,λ_=>rfl⟩;refine aB (rL _ (λc2 cells Ux=>∃done cs Uu,done++c2=US.names/\cells=cs++bM/\Ux={j with heap:=Uu}/\j.heap.objs.size+1<=Uu.objs.size/\(∀c m,j.heap.get? c=Z m->Uu.get? c=Z m)/\Uu.Ns j.heap.objs.size (λ_=>Y)/\t9 (j.heap.objs.size+1) US.names cs Uu/\∀f,(f,da.cell)∈done->∃n,cs.lookup f=Z n) _ ?_ ?_ _ _ ⟨[],[],_,rfl,rfl,rfl,by rw[iE];exact bT _,λc m d=>b5 _ d,VM,⟨(λf n d=>by simp at d),(λf l n d=>by simp at d)⟩,(λf a=>nomatch a)⟩)
 ·rintro⟨B,cz⟩ c2 cells Ux ⟨done,cs,Uu,o,rfl,rfl,iW,ext,UP,h,UH⟩;by_cases q:cz=.cell
  ·subst q;show wpAny aE O (alloc {cls:=.type "cell",data:=.cell Y} >>= λg=>pure<|ForInStep.yield ((B,g)::(cs++bM))) _ _ _;refine aB (wpAny_alloc<|a_ ?_);have t:∀c m,Uu.get? c=Z m->(Uu.push {cls:=.type "cell",data:=.cell Y}).get? c=Z m:=λc m d=>b5 _ d;have v:∀n,(∃u,Uu.IsCell n u)->n≠Uu.objs.size:=λn ⟨u,m,d,_⟩=>d8 (cb d);refine⟨done++[(B,.cell)],(B,Uu.objs.size)::cs,_,by rw[bu];exact o,rfl,rfl,by rw[iE];exact E1 iW,λc m d=>t c m<|ext c m d,UP.push _,⟨λf n d=>?_,λf l n Vl k=>?_⟩,λf a=>?_⟩
   ·rw[hh]at d;by_cases a:f=B
    ·subst a;rw[kS]at d;cases d;exact⟨iW,⟨_,dr _ rfl,rfl⟩,by rw[<-o];exact ei _ (.head _)⟩
    ·rw[show (f==B)=aq by simpa using a]at d;let⟨w,⟨m,x,y⟩,z⟩:=h.fB f n d;exact⟨w,⟨m,t n m x,y⟩,z⟩
   ·rw[hh]at Vl k;by_cases a:f=B
    ·by_cases p:l=B
     ·rw[a,p]
     ·rw[a,kS]at Vl;rw[show (l==B)=aq by simpa using p]at k;cases Vl;exact absurd rfl (v _ ⟨_,(h.fB l _ k).2.1⟩)
    ·rw[show (f==B)=aq by simpa using a]at Vl;by_cases p:l=B
     ·rw[p,kS]at k;cases k;exact absurd rfl (v _ ⟨_,(h.fB f _ Vl).2.1⟩)
     ·rw[show (l==B)=aq by simpa using p]at k;exact h.inj f l n Vl k
   ·rw[hh];by_cases r:f=B
    ·rw[r,kS];exact⟨_,rfl⟩
    ·rw[show (f==B)=aq by simpa using r];refine UH f ((dv.mp a).resolve_right λi=>?_);exact r (Prod.mk.inj<|cD.mp i).1
  ·have d:(cz==da.cell)=aq:=by simpa using q
   show wpAny aE O (if (cz==da.cell)=aa then _ else pure (ForInStep.yield<|cs++bM)) _ _ _;rw[aO (by rw[d];exact ek)];refine a_ ⟨done++[(B,cz)],cs,Uu,by rw[bu];exact o,rfl,rfl,iW,ext,UP,h,λf a=>UH f<|(dv.mp a).resolve_right λi=>?_⟩;exact q (Prod.mk.inj<|cD.mp i).2.symm
 ·rintro cells Ux ⟨done,cs,Uu,o,rfl,rfl,iW,ext,UP,h,UH⟩;rw[b_]at o;subst o;exact aB (a_<|a_<|e Uu cs ext UP h UH)
theorem mem_of_lookup:∀{M:List (aF×da)}{f:aF}{q:da},M.lookup f=Z q->(f,q)∈M
 |[],_,_,e=>by simp at e
 | (s,b)::r,f,q,e=>by
  rw[hh]at e;by_cases a:f=s
  ·subst a;rw[kS]at e;cases e;exact mK
  ·rw[show (f==s)=aq by simpa using a]at e;exact l8 _ (mem_of_lookup e)
theorem yS{U:d0}:∀{Vf:List (aF×da)}{f:aF}{q:da},
  (Vf.map λ(s,q)=>if (q==da.free&&U.scope.kind==.function&&U.kindOf s==Z .cell) then (s,da.cell) else (s,q)).lookup f=Z q->
  (q=.cell\/q=.free)->(f,da.free)∈Vf\/Vf.lookup f=Z .cell
 |[],f,q,e,_=>by simp at e
 | (s,c)::r,f,q,e,a=>by
  rw[cK]at e;dsimp only at e;by_cases h:f=s
  ·subst h;by_cases b:(c==da.free&&U.scope.kind==.function&&U.kindOf f==Z .cell)=aa
   ·have:c=da.free:=by
     simp only[cV]at b;exact by simpa using b.1.1
    subst this;exact .inl mK
   ·simp only[b]at e;have d:c=q:=by simpa [hh] using e
    subst d;rcases a with a|a
    ·exact .inr (by rw[hh,kS,a])
    ·rw[a];exact .inl mK
  ·have g:(f==s)=aq:=by simpa using h
   have Uu:(r.map λ(s,q)=>if (q==da.free&&U.scope.kind==.function&&U.kindOf s==Z .cell) then (s,da.cell) else (s,q)).lookup f=Z q:=by
    by_cases b:(c==da.free&&U.scope.kind==.function&&U.kindOf s==Z .cell)=aa
    ·rw[aJ b,hh,g]at e;exact e
    ·rw[aO b,hh,g]at e;exact e
   rcases yS Uu a with i|i
   ·exact .inl (l8 _ i)
   ·exact .inr (by rw[hh,g];exact i)
section
variable{a:aK}
structure iC(a:aK)(US:ha)(own:List aF)(Ve:List Nat):Prop where
 kind:US.kind=.function
 TR:∀l∈US.names,l.2=.cell->US.names.lookup l.1=Z .cell
 free:∀l∈US.names,l.2=.free->a.env.scope.names.lookup l.1=Z .cell
 loc:∀l∈US.names,l.2=.local->US.names.lookup l.1=Z .local
 Jr:∀b∈Ve,∃f,a.N[b]?=Z f/\(f,da.free)∈US.names/\US.names.lookup f=Z .free
def fV(a:aK)(own:List aF)(Ve:List Nat):List aF:=(own++Ve.map λb=>a.N.getD b "")
def jS(own:List aF)(Ve:List Nat)(x:a5):a5:=(own.map (λ_=>Y)++Ve.map λb=>x.getD b Y)
def iC.cells(UW:iC a US own Ve)(ok:a.Ok):∀l∈US.names,l.2=.free->∃n,a.env.cells.lookup l.1=Z n:=
 λl b c=>ok.has l.1 (.inl<|UW.free l b c)
def iC.sub(UW:iC a US own Ve)(ok:a.Ok){f:aF}{n:ae}(e:(kX a.env US.names).lookup f=Z n):a.env.cells.lookup f=Z n/\(f,da.free)∈US.names:=by
 rcases CA US.names [] f n e with ⟨d,E⟩|e
 ·let⟨@c,b⟩:=UW.cells ok (f,.free) E rfl;rw[show (List.lookup f a.env.cells)=Z c from b]at d;refine⟨?_,E⟩;rw[d];exact b
 ·simp at e
def iC.two(UW:iC a US own Ve)(ok:a.Ok){cs:List (aF×ae)}{f:aF}{n:ae}(e:(cs++kX a.env US.names).lookup f=Z n):cs.lookup f=Z n\/(cs.lookup f=Y/\a.env.cells.lookup f=Z n):=by
 rw[zJ]at e;cases p:cs.lookup f with
 |some v=>rw[p]at e;exact .inl e
 |none=>rw[p]at e;exact .inr ⟨rfl,(UW.sub ok e).1⟩
def aG.xY(b:aG a G x h j){f:aF}{n:ae}(e:a.env.cells.lookup f=Z n):n<j.heap.objs.size:=by
 let⟨u,m,c,W⟩:=b.cell f n e;exact cb c
theorem CB{cs:List (aF×ae)}(UW:iC a US own Ve)(b:aG a G x h j)(y:j.heap.objs.size<=aH)(u:∀c∈cN,j0 a G h c)(A:∀c∈cN,c<j.heap.objs.size)(o:t9 VM US.names cs t)(w:j.heap.objs.size<=VM)(UH:∀f,(f,da.cell)∈US.names->∃n,cs.lookup f=Z n):(a.fX (fV a own Ve) US ⟨aH,j,h,cN,cs⟩).Ok where
 mod:=b.ok.mod
 kind:=UW.kind
 glob:=b.ok.glob
 blt:=b.ok.blt
 above:=y
 inj:=λf l n t z=>by
  rcases UW.two b.ok t with q|⟨_,q⟩<;>rcases UW.two b.ok z with r|⟨_,r⟩
  ·exact o.inj f l n q r
  ·exact absurd (fe (b.xY r)<|fl w (o.fB f n q).1) (i1 _)
  ·exact absurd (fe (b.xY q)<|fl w (o.fB l n r).1) (i1 _)
  ·exact b.ok.inj f l n q r
 has:=λf k=>by
  have E:(f,da.free)∈US.names\/US.names.lookup f=Z .cell:=by
   rcases k with k|k
   ·exact yS k (.inl rfl)
   ·exact yS k (.inr rfl)
  show ∃n,(cs++kX a.env US.names).lookup f=Z n;rw[zJ];cases p:cs.lookup f with
  |some v=>exact⟨v,rfl⟩
  |none=>
   rcases E with E|E
   ·exact y5 US.names [] f (.inl E)
   ·let⟨n,s⟩:=UH f (mem_of_lookup E);rw[p]at s;cases s
 la:=λf n e B=>by
  have k:US.names.lookup f=Z .cell:=eq_of_beq e;let⟨C,s⟩:=UH f (mem_of_lookup k);rcases UW.two b.ok B with i|⟨i,_⟩
  ·exact fl w (o.fB f n i).1
  ·rw[i]at s;cases s
 hd:=b.ok.hd
 frames:=b.ok.frames
 mA:=.inl rfl
 oP:=λc g=>⟨d8<|fe (A c g) y,λf n e=>by
  rcases UW.two b.ok e with i|⟨_,i⟩
  ·exact jL (fe (A c g)<|fl w (o.fB f n i).1)
  ·exact (u c g).2.2.2.2.1 f n i⟩
 bs:=b.bs
 je:=fl b.ok.je b.iW
 kA:=λc m d g=>by
  rcases (u c g).2.2.2.1 with i|i
  ·exact b.ok.kA c m d i
  ·exact absurd (fe (cb d)<|fl b.ok.je i) (i1 _)
 kv:=λc g i=>by
  rcases bI.mp (b.yJ c i) with d|d
  ·exact (u c g).2.1 d
  ·exact (u c g).2.2.1 d
 gI:=b.stack
 kl:=b.qd
theorem N8{cs:List (aF×ae)}{Vn:Nat}{E:aF->Option af}(UW:iC a US own Ve)(k:aG a G x h j)(J:j.heap.objs.size<=aH)(al:∀c∈cN,j0 a G h c)(am:∀c∈cN,c<j.heap.objs.size)(B:∀c m,j.heap.get? c=Z m->t.get? c=Z m)(an:t.Ns aH E)(C:t9 VM US.names cs t)(D:j.heap.objs.size<=VM)(UH:∀f,(f,da.cell)∈US.names->∃n,cs.lookup f=Z n):
  aG (a.fX (fV a own Ve) US ⟨aH,j,h,cN,cs⟩) [] (jS own Ve x) h {j with heap:=t,toks:=Vn} where
 ok:=CB UW k J al am C D UH
 os:=rfl
 bare:=k.bare
 base:=dq.kept B
 loc:=by
  let⟨@bm,D,ap⟩:=k.loc;refine⟨E,an,λw f u y d z=>?_⟩;have y:(own++Ve.map λb=>a.N.getD b "")[w]?=Z f:=y;have d:(own.map (λ_=>(Y:Option av))++Ve.map λb=>x.getD b Y)[w]?=Z (Z u):=d;by_cases as:w<own.length
  ·rw[pU (by rw[bS];exact as),gy]at d;cases p:own[w]? with
   |none=>rw[p]at d;cases d
   |some i=>rw[p]at d;cases d
  ·rw[o4 ⋯,gy]at y;rw[o4 (by rw[bS];lia),gy,bS]at d;cases p:Ve[w-own.length]? with
   |none=>rw[p]at y;cases y
   |some b=>
    rw[p]at y d;have y:a.N.getD b "" = f:=Option.some.inj y;have d:x.getD b Y=Z u:=Option.some.inj d;let⟨@g,L,M,O⟩:=UW.Jr b (nF p);have Vl:g=f:=by
     rw[<-y,cT,L];rfl
    subst Vl;have UH:x[b]?=Z (Z u):=by
     rw[cT]at d;cases P:x[b]? with
     |none=>rw[P]at d;cases d
     |some i=>rw[P]at d;rw[show i=Z u from d]
    have Q:=UW.free (g,.free) M rfl;let⟨@H,r,lk⟩:=ap b g u L UH (.inr<|.inl Q);refine⟨H,r,.inr ⟨?_,?_⟩⟩
    ·rcases z with z|z|z
     ·
      exfalso;have:∀{Vf:List (aF×da)},Vf.lookup g=Z .free->(Vf.map λ(s,q)=>if (q==da.free&&a.env.scope.kind==.function&&a.env.kindOf s==Z .cell) then (s,da.cell) else (s,q)).lookup g≠Z .local:=by
       intro Vf;induction Vf with
       |nil=>intro e;simp at e
       |cons l r R=>
        let⟨s,q⟩:=l;intro e;rw[cK];dsimp only;by_cases S:g=s
        ·subst S;have VX:q=.free:=by simpa [hh] using e
         subst VX;by_cases A:(da.free==da.free&&a.env.scope.kind==ScopeKind.function&&a.env.kindOf g==Z da.cell)=aa
         ·rw[aJ A];simp[hh]
         ·rw[aO A];simp[hh]
        ·have F:(g==s)=aq:=by simpa using S
         rw[hh,F]at e;by_cases A:(q==da.free&&a.env.scope.kind==ScopeKind.function&&a.env.kindOf s==Z da.cell)=aa
         ·rw[aJ A,hh,F];exact R e
         ·rw[aO A,hh,F];exact R e
      exact this O z
     ·exact .inl z
     ·exact .inr z
    ·rcases lk with ⟨a1,_⟩|⟨_,n,a2,bd⟩
     ·exact absurd (a1.symm.trans Q) ↥0
     ·let⟨@bn,T⟩:=y5 (U:=a.env) US.names [] g (.inl M);have:=(UW.sub k.ok T).1;rw[a2]at this;cases this;let⟨@m,I,hd⟩:=bd;have be:cs.lookup g=Y:=by
       cases p:cs.lookup g with
       |none=>rfl
       |some v=>
        have:=UW.TR _ (C.fB g v p).2.2 rfl;rw[O]at this;cases this
      exact⟨n,by show (cs++kX a.env US.names).lookup g=Z n;rw[zJ,be];exact T,m,B _ _ I,hd⟩
 cell:=λf n e=>by
  rcases UW.two k.ok e with i|⟨_,i⟩
  ·exact⟨_,(C.fB f n i).2.1⟩
  ·let⟨u,@m,I,hd⟩:=k.cell f n i;exact⟨u,m,B _ _ I,hd⟩
 free:=k.aT.fresh J
 gM:=λf n e=>by
  rcases UW.two k.ok e with i|⟨_,i⟩
  ·exact k.aT.fresh (fl D (C.fB f n i).1)
  ·exact k.gM f n i
 pin:=λo bi=>nomatch bi
 aT:=k.aT.kept B
 len:=by simp[jS,fV,aK.fX]
def FR(a:aK)(VO:List bj)(I:eF)(G:List (ae×a7)):Prop:=(
 ∀(j:ao) (x:a5) (h:az) (A:Bool->az->Prop),aG a G x h j->I x h A->
  wpAny (aS a.prog a.w) a.A (forIn VO aa λn r=>if r=aa then do let ok <-o8 n a.env (b6 n a.env);pure (ForInStep.yield ok) else pure (ForInStep.yield r)) (tp a G x A) a.cL j)
def rX(a:aK)(VO:List bj)(I:eF):Prop:=(∀G,FR a VO I G)
def Q8:eF:=(λ_ h A=>A aa h)
def Qz:rX a [] Q8:=λG j x h A b e=>wpAny_tests_nil ⟨h,b,e⟩
def QP{n:bj}{I:eF}(e:hL a n I):rX a [n] I:=λG j x h A b c=>wpAny_tests_one (e G j x h A b c)
def J6(own:List aF)(Ve:List Nat)(J:gP)(S:eF)(VC:cf)(x:a5)(UZ:List av->az->Prop)(UL:List av)(f:av)(P:az):Prop:=(
 J f (jS own Ve x) P λa UT=>(∀(w:Nat) (u:av),(jS own Ve x)[w]?=Z (Z u)->a[w]?=Z (Z u))/\S a UT λc b=>if c=aa then VC a b λu d=>UL.length<sizeLine/\UZ (UL++[u]) d else UZ UL b)
def OH(Vh:fj)(own:List aF)(Ve:List Nat)(J:gP)(S:eF)(VC:cf)(x:a5)(UD:az)(A:cJ):Prop:=(
 ∃W:Nat->Nat->List av->az->Prop,(∃E,W 0 E [] UD)/\∀b E UL h,W b E UL h->(Vh.stop b h/\∀k,h k=Y->A (.ref k) (upd h k<|.lst UL))\/
  (Vh.go b h/\∃UZ:List av->az->Prop,(∀a P,UZ a P->∃c,c<E/\W (b+1) c a P)/\∀f P,Vh.qz b h f P->J6 own Ve J S VC x UZ UL f P))
def vW(own:List aF)(Ve:List Nat)(VT:bX)(J:ka->gP)(S:ka->eF)(VC:ka->cf):cf:=(λx h A=>VT x h λVh UD=>∀a:ka,OH Vh own Ve (J a) (S a) (VC a) x UD A)
def yK(D:ha)(UZ:List aF)(US:ha)(Ve:List Nat):Bool:=(
 US.kind==.function&&US.names.all (λl=>l.2 != .cell || US.names.lookup l.1==Z .cell)&&US.names.all (λl=>l.2 != .free || D.names.lookup l.1==Z .cell)&&US.names.all (λl=>l.2 != .local || US.names.lookup l.1==Z .local) &&
  Ve.all (λb=>match UZ[b]? with|some f=>US.names.lookup f==Z .free|none=>aq))
def sb{a:aK}(D:ha)(UZ:List aF)(e:yK D UZ US Ve=aa)(d:a.env.scope=D:=by rfl)(j:a.N=UZ:=by rfl):iC a US own Ve:=by
 unfold yK at e;simp only[cV,iU,bne_iff_ne,ne_eq,wH,vq]at e;let@⟨@⟨@⟨@⟨t,z⟩,k⟩,m⟩,n⟩:=e;refine⟨t,λl c g=>(z l c).resolve_left λi=>i g,λl c g=>?_,λl c g=>?_,λb Uw=>?_⟩
 ·rw[d];exact (k l c).resolve_left λi=>i g
 ·exact (m l c).resolve_left λi=>i g
 ·have:=n b Uw;rw[j];cases p:UZ[b]? with
  |none=>rw[p]at this;cases this
  |some f=>
   rw[p]at this;have h:US.names.lookup f=Z .free:=by simpa using this
   exact⟨f,rfl,mem_of_lookup h,h⟩
def BM{Vj:Pos}{use:Option (af->ef Unit)}{f8:af->ao->Prop}{lf:cJ}(pi:a.calm=aa)(UW:iC a US own Ve)(Uw:kB a Vc Vy VT)(pm:∀as,km (a.fX (fV a own Ve) US as) Vc<|J as)(po:∀as,rX (a.fX (fV a own Ve) US as) VO<|S as)(pp:∀as,bU (a.fX (fV a own Ve) US as) VS<|VC as)(UH:∀f,lS Vy a.env f=pure f)(li:aG a G x h j)(e:vW own Ve VT J S VC x h lf)(pr:∀(k aH:ae) (ga:az) (M:ao) (E:aF->Option af),aG a G x ga M->M.heap.Ns aH E->ga aH=Y->a.env.locals≠aH->(∀f n,a.env.cells.lookup f=Z n->n≠aH)->a.eK.heap.objs.size<=aH->(∀o∈a.gN++G,o.1≠aH)->lf (.ref k) ga->compPost (aS a.prog a.w) a.A a.cL use f8 (.ref k) aH (.ok .next) M):
  wpAny (aS a.prog a.w) a.A (wI (.ListComp VS [⟨Vc,Vy,VO,0⟩] US UM) US a.env Vj (tV []) aq (b6 Vy a.env) use) f8 a.cL j:=by
 refine wpAny_comprehension_free (use:=use) rfl UH (Ku<|UW.cells li.ok) UW.kind UW.loc (bW (Uw G j x h _ li e) λu v4 t=>bW t λv6 I z=>?_);let⟨Uz,cN,B,Vh,@UT,d,am,F,ge,a1,pt⟩:=z;subst d;have ch:∀c∈cN,c<I.heap.objs.size:=λc v=>by
  let⟨@m,d,U⟩:=F.obj _ _ ge c v;exact cb d
 refine i4 (JW λgl cs ext db bi lm=>?_);dsimp only at db ext bi ⊢;generalize gt:I.heap.push {cls:=.type "list",dict:=Y,data:=.seq ([]:List af).toArray}=ds at db ext bi ⊢;have dL:ds.objs.size=I.heap.objs.size+1:=by rw[<-gt,iE]
 have bm:I.heap.objs.size≠ds.objs.size:=by rw[dL];exact d8 (qQ _)
 have eq:I.heap.objs.size<=ds.objs.size:=by rw[dL];exact G3 _
 have g1:∀c m,I.heap.get? c=Z m->gl.get? c=Z m:=λc m d=>ext c m (gt ▸ b5 _ d);have ln:gl.get? I.heap.objs.size=Z {cls:=.type "list",data:=.seq ([]:List af).toArray 0}:=ext _ _ (gt ▸ dr _ rfl);generalize wf:ds.objs.size=aH at db bi dL bm eq ⊢;have ev:I.heap.objs.size<=aH+1:=E1 eq;generalize an:I.heap.objs.size=k at ln dL bm eq ⊢;have bn:I.heap.objs.size<=aH:=by rw[an];exact eq
 let⟨@W,⟨@pu,iN⟩,turn⟩:=pt ⟨aH,I,UT,cN,cs⟩;have ls:=λ(Vn:Nat)=>N8 (Vn:=Vn) UW am bn a1 ch g1 db bi ev lm;have lv:=pm ⟨aH,I,UT,cN,cs⟩;have lw:=po ⟨aH,I,UT,cN,cs⟩;have mb:=pp ⟨aH,I,UT,cN,cs⟩;have g2:=CB UW am bn a1 ch bi ev lm;generalize N:a.fX (fV a own Ve) US ⟨aH,I,UT,cN,cs⟩=D at ls lv lw mb g2;have bs:D.prog=a.prog:=by rw[<-N];rfl
 have bv:D.w=a.w:=by rw[<-N];rfl
 have mo:D.K=a.K:=by rw[<-N];rfl
 have ci:D.A=a.A:=by rw[<-N];rfl
 have mp:D.calm=aa:=by rw[<-N];exact pi
 have bf:D.env.locals=aH:=by rw[<-N];rfl
 have g3:D.ex=cN:=by rw[<-N];rfl
 have fd:D.eK=I:=by rw[<-N];rfl
 have py:D.qe=UT:=by rw[<-N];rfl
 have rc:D.ar=di a.stack:=by rw[<-N];rfl
 have fn:D.gN=[]:=by rw[<-N];rfl
 have hd:D.cL=λ_ U=>False:=by rw[<-N];rfl
 have ms:D.env=ud US (cs++kX a.env US.names) aH a.env:=by rw[<-N];rfl
 have m0:∀f n,D.env.cells.lookup f=Z n->aH+1<=n\/a.env.cells.lookup f=Z n:=λf n e=>by
  rw[ms]at e;rcases UW.two am.ok e with i|⟨_,i⟩
  ·exact .inl (bi.fB f n i).1
  ·exact .inr i
 have re:∀f n,D.env.cells.lookup f=Z n->n≠k:=λf n e i=>by
  rcases m0 f n e with l|l
  ·rw[i,<-an]at l;exact absurd (fl (H5 bn) l) (Nat.not_succ_le_self _)
  ·have:=am.xY l;rw[i,<-an]at this;exact i1 _ this
 have he:∀c∈cN,c≠k:=λc v i=>by
  have:=ch c v;rw[i,<-an]at this;exact i1 _ this
 have rs:k∉D.ar:=λi=>by
  let@⟨_,⟨@m,ca,_⟩⟩:=g2.gI.mem i;rw[fd]at ca;have:=cb ca;rw[an]at this;exact i1 _ this
 have hf:∀(P:az) (m:a7),(∀c∈cN,P c=Y)->∀c∈cN,j0 D [(k,m)] P c:=λP m hm c v=>by
  refine⟨hm c v,?_,?_,.inl (by rw[g3];exact v),λf n e=>(m0 f n e).elim (λl=>jL (fe (ch c v) (fl ev (by rw[an]at ev;exact l)))) λl=>(a1 c v).2.2.2.2.1 f n l,λo L=>?_⟩
  ·rw[bf];exact d8 (fe (ch c v) bn)
  ·exact g2.kv c (by rw[g3];exact v)
  ·rw[fn]at L;have:o=(k,m):=by simpa using L
   rw[this];exact f6 (he c v)
 have na:∀hw:ao,hw={I with heap:=gl,toks:=I.toks+([]:List (aF×af)).length}->
   codeAny (aS a.prog a.w) a.A (.compLoop (.ListComp VS [⟨Vc,Vy,VO,0⟩] US UM) 0 (.ref Uz) (.ref k) D.env)
    (compPost (aS a.prog a.w) a.A a.cL use f8 (.ref k) aH) hw:=by
  rintro hw rfl;refine Kp (λs Ux=>∃(b:Nat) (UL:List av) (P:az) (UI:List af) (q:Nat),aG D [(k,{cls:=.type "list",data:=.seq UI.toArray q})] (jS own Ve x) P Ux/\bZ UL UI/\UL.length<=sizeLine/\B b Ux.heap/\
   (∀c∈cN,P c=Y)/\W b s UL P) ?_ pu ?_
  ·rintro s nb ⟨b,UL,R,UI,q,h0,fr,ne,nl,nm,fo⟩;rcases turn b s UL R fo with ⟨stop,sc⟩|⟨go,UZ,nn,step⟩
   ·have:=F.done D bs bv mo mp b _ nb _ R (λ_ U=>False) h0 (hf R _ nm) nl stop;rw[ci]at this;refine bW this λr M T=>?_;let@⟨ii,a2⟩:=T;subst ii;let⟨@E,hm,U⟩:=a2.loc;have sn:M.heap.Ns aH E:=by rw[<-bf];exact hm
    have L:=a2.pin (k,{cls:=.type "list",data:=.seq UI.toArray q}) (by rw[fn];simp);have cd:R k=Y:=L.2.1;have c8:∀c,c≠aH->M.heap.get? c=M.heap.get? c:=λc v=>rfl;have ce:∀c m,I.heap.get? c=Z m->c≠aH:=λc m d=>d8 (fe (cb d) bn);have sp:∀c m,I.heap.get? c=Z m->c≠k:=λc m d=>by rw[<-an];exact d8 (cb d)
    have ap:dq (di a.stack) cN UT R I.heap M.heap:=by
     have:=a2.base;rw[rc,g3,py,fd]at this;exact this
    have H:dq (di a.stack) cN UT (upd R k<|.lst UL) I.heap M.heap:=
     ⟨λc m d s v be=>(c8 c<|ce c m d).trans<|ap.keep c m d s v be,
      λc m d s v be=>by
      let⟨@aY,p⟩:=ap.slot c m d s v be;exact⟨aY,(c8 c<|ce c m d).trans p⟩,
      λc m d s be=>by rw[cW (sp c m d)];exact ap.free c m d s be,
      λc m d be=>by
      let⟨@Vb,p⟩:=ap.there c m d be;exact⟨Vb,(c8 c<|ce c m d).trans p⟩,
      λc y d=>by rw[cW (hE (ap.hY c y d) cd)];exact ap.hY c y d,
      λc m y d=>by rw[cW (hE (ap.hv c m y d) cd)];exact ap.hv c m y d,
      λc UJ d=>by
      let⟨@ss,p⟩:=ap.ic c UJ d;exact⟨ss,by rw[cW (hE p cd)];exact p⟩⟩
    have no:∀c m,R c=Z m->c≠aH:=λc m d i=>by
     have:=a2.free;rw[bf,<-i,d]at this;cases this
    have sw:dt a.prog a.w (upd R k<|.lst UL) M.heap:=λg m d=>by
     by_cases np:g=k
     ·subst np;rw[eS]at d;cases d;exact⟨ne,UI,q,fr,(c8 _ bm).trans L.1⟩
     ·rw[cW np]at d;have:=a2.aT g m d;rw[bs,bv]at this;refine this.fs (λc H v p=>(c8 c ?_).trans p) (λc p=>by rw[cW (hE p cd)];exact p) λc y p=>by rw[cW (hE p cd)];exact p
      rcases v with i|i
      ·rw[i];exact no g m d
      ·exact no c _ i
    have sB:aG a G x (upd R k<|.lst UL) M:=am.FN (Ux:=M) (VI:=cN) (by have:=a2.os;rw[fd]at this;exact this) H sw a2.bare λc v=>⟨(a1 c v).2.2.2.1,(a1 c v).2.1,(a1 c v).2.2.2.2.1,(a1 c v).2.2.2.2.2⟩;have sK:a.env.locals≠aH:=by
     let⟨@wl,s0,U⟩:=am.loc;let⟨m,U,@U,ca,U⟩:=s0;exact ce _ _ ca
    have s1:∀f n,a.env.cells.lookup f=Z n->n≠aH:=λf n e=>by
     let⟨u,@m,ca,U⟩:=am.cell f n e;exact ce _ _ ca
    refine pr k aH _ M E sB sn ?_ sK s1 ?_ (λo L=>ce _ _ (am.pin o L).1) (sc k cd)
    ·rw[cW (f6 bm)];have:=a2.free
     rwa [bf]at this
    ·exact fl am.iW bn
   ·have:=F.item D bs bv mo mp b _ nb _ R (λ_ U=>False) h0 (hf R _ nm) nl go;rw[ci]at this;refine bW this λr M T=>?_;let⟨@H,ii,s2⟩:=T;subst ii;refine bW s2 λ_ cl T=>?_;let⟨f,@im,s3,fZ,s4,io,s5⟩:=T;have to:=s3.pinned (hf im _ s5) (F.obj _ _ io);have ns:=lv _ cl _ im f H _ to fZ (step f im s4);rw[bs,bv,ci,hd]at ns;refine bW ns λ_ tt T=>?_;let⟨co,@ty,tz,t0,t1⟩:=T;have nw:=lw _ tt co ty _ tz t1;rw[bs,bv,ci,hd]at nw;refine bW nw λc t3 T=>?_;let⟨@of,f0,f1⟩:=T;have ol:∀{on:a5}{P:az}{Ux:ao},aG D ([(k,{cls:=.type "list",data:=.seq UI.toArray q})]++nH cN cl.heap) on P Ux->(∀c∈cN,P c=Y)/\B (b+1) Ux.heap:=λ{on P Ux} cr=>by
     refine⟨λc v=>?_,F.keep _ _ _ io λc v m d=>(cr.pin (c,m)<|ei _<|ei _<|td v d).1⟩;let⟨@m,d,U⟩:=F.obj _ _ io c v;exact (cr.pin (c,m)<|ei _<|ei _<|td v d).2.1
    have cI:∀{it:List (ae×a7)}{P:az}{Ux:ao},aG D it co P Ux->aG D it (jS own Ve x) P Ux:=λ{it P Ux} cr=>
     cr.weak (by rw[cr.len,h0.len]) t0;cases c with
    |false=>
     rw[aO ek]at f1;let⟨@jp,kt,ul⟩:=nn _ _ f1;rw[aO ek];let@⟨U3,U9⟩:=ol f0;exact⟨jp,kt,b+1,UL,of,UI,q,cI (f0.ph λo L=>f0.pin o (by
      rw[fn];simp at L ⊢;exact .inl L)),fr,ne,U9,U3,ul⟩
    |true=>
     rw[aJ rfl]at f1 ⊢;have op:=mb _ t3 co of _ f0 f1;rw[bs,bv,ci,hd]at op;refine bW op λal bd T=>?_;let⟨un,@kw,f2,up,wn,us⟩:=T;let⟨@jp,kt,ut⟩:=nn _ _ us;have L:=f2.pin (k,{cls:=.type "list",data:=.seq UI.toArray q}) (ei _ (eG _ ↥0));have lc:=L.1;refine qp Ed ⟨_,lc,rfl⟩ E6 (F6 _ _) (Cj k UI.toArray q al (by rw[cX,<-fr.length];lia)) ⟨lc,?_⟩;have p:=ED lc (λg=>g.push al);let@⟨U3,U9⟩:=ol f2;have u8:aG D (nH cN cl.heap) co kw bd:=f2.ph λo L=>f2.pin o (ei _<|ei _ L);have o0:∀c m,c≠k->bd.heap.get? c=Z m->(bd.heap.update k<|a7.mapSeq λg=>g.push al).get? c=Z m:=λc m v d=>(kH bd.heap _<|f6 v).trans d;have v0:aG D (nH cN cl.heap) co kw {bd with heap:=bd.heap.update k (a7.mapSeq λg=>g.push al),toks:=bd.toks}:=
      u8.turned (Uz:=k) o0 L.2.1 (by rw[bf];exact bm) (.inr (by rw[fd,an];exact bT _)) re λo f4=>by
       rw[fn]at f4;let@⟨v,_⟩:=AP (show o∈nH cN cl.heap by simpa using f4);exact he _ v
     refine⟨jp,kt,b+1,UL++[un],kw,UI++[al],q+1,cI<|v0.ph λo f4=>?_,fr.append<|.cons up .nil,?_,?_,U3,ut⟩
     ·have d:o=(k,{cls:=.type "list",data:=.seq (UI++[al]).toArray (q+1)}):=by simpa using f4
      subst d;refine⟨?_,L.2.1,L.2.2.1,L.2.2.2.1,λu i=>by cases i⟩;have v1:UI.toArray.push al=(UI++[al]).toArray:=by simp
      rw[<-v1];have pc:IsL (bd.heap.update k<|a7.mapSeq λg=>g.push al) k (UI.toArray.push al) (if (UI.toArray.push al).size==UI.toArray.size then q else q+1):=p;rw[aO ↥0]at pc;exact pc
     ·rw[d7,kK];lia
     ·refine F.keep _ _ _ U9 λc v m d=>o0 c m (he c v) d
  ·refine⟨0,[],UT,[],0,?_,.nil,lB _,F.keep _ _ _ ge λc U m d=>g1 c m d,λc v=>(a1 c v).1,iN⟩;refine (ls _).ph λo L=>?_;have d:o=(k,{cls:=.type "list",data:=.seq ([]:List af).toArray 0}):=by simpa using L
   subst d;exact⟨ln,am.aT.fresh (by rw[an];exact bT _),by rw[bf];exact bm,rs,λu i=>by cases i⟩
 have v2:ud US (cs++kX a.env US.names) aH a.env=D.env:=ms.symm;show codeAny (aS a.prog a.w) a.A (.compStart _ 0 (.ref Uz) (.ref k)<|ud US (cs++kX a.env US.names) aH a.env) _ _;rw[v2];exact codeAny_compStart_list (na _ rfl) (F.self a.A 0 _ _ _ (F.keep _ _ _ ge λc U m d=>g1 c m d)<|na _ rfl)
def Ky(l:a.calm=aa)(UW:iC a US own Ve)(Uw:kB a Vc Vy VT)(q:∀b,km (a.fX (fV a own Ve) US b) Vc<|J b)(r:∀b,rX (a.fX (fV a own Ve) US b) VO<|S b)(s:∀b,bU (a.fX (fV a own Ve) US b) VS<|VC b)(UH:∀f,lS Vy a.env f=pure f:=by intro W;rfl):bU a (.ListComp VS [⟨Vc,Vy,VO,0⟩] US UM) (vW own Ve VT J S VC):=by
 intro G j x h A t e;show wpAny _ a.A (wI (.ListComp VS [⟨Vc,Vy,VO,0⟩] US UM) US a.env _ (tV []) aq (b6 Vy a.env) Y) _ _ j;refine BM (use:=Y) (f8:=eN a G x A) l UW Uw q r s UH t e λk aH u g E v w L M n i o p=>?_;show ∃E,g.heap.Ns aH E/\∀Uu,aZ.SameBut aH g.heap Uu->eN a G x A (.ref k) {g with heap:=Uu};refine⟨E,w,λUu b8=>⟨.ref k,u,?_,rfl,p⟩⟩;exact v.turned (Uz:=aH) (Va:=g.toks) (λc m y d=>(b8.2 c y).trans d) L (f6 M) (.inr i) n o
end
def iZ(e:aZ)(v:ae)(Uy:List af)(Vu:Nat):Prop:=(∃m T,e.get? v=Z m/\m.ExactDict/\m.data=.dict T Vu/\T.toList.map (·.key)=Uy)
def iZ.ty(f:iZ j.heap v Uy Vu):j.TypeIs (.ref v) "dict" := let ⟨m,_,d,n,_⟩:=f;⟨m,d,n.1⟩
def iZ.lt(f:iZ e v Uy Vu):v<e.objs.size:=let ⟨_,_,d,_⟩:=f;cb d
def iZ.go{Uu:aZ}(f:iZ e v Uy Vu)(q:∀m,e.get? v=Z m->Uu.get? v=Z m):iZ Uu v Uy Vu:=let ⟨m,T,d,r⟩:=f;⟨m,T,q m d,r⟩
section
variable{UG:bC}{C:bg}{O:bB}{Uv:af->ao->Prop}{j:ao}
def OM{A:af->ao->Prop}(D:(v==i3)=aq)(f:iZ j.heap v Uy Vu)(p:A (.ref j.heap.objs.size) {j with heap:=j.heap.push {cls:=.type "dict_keyiterator",data:=.fields #[.ref v,.int 0 0,.int Uy.length 0,.int Vu 0]} }):wpAny (aS UG C) O (s7<|.ref v) A Uv j:=by
 have ty:=f.ty;let⟨m,@T,a,d,b,c⟩:=f;have s:T.size=Uy.length:=by rw[<-c,bS,fW]
 refine wpAny_pyIter_slot ty E3 (iS E3 ty F.entry_dict_iter ?i<|F.args_dict_iter_1 _)
 case i=>
  unfold bw.«dict.__iter__» bw.Dict.dictSlotNone;refine aB (aB<|Eb ty ?_);show wpAny _ _ (pure<|af.ref v) _ _ j;apply a_;show wpAny _ _ (bw.Dict.showsAll v >>= _) _ _ j;unfold bw.Dict.showsAll;rw[aO (by rw[D];simp)];refine aB (a_<|aB<|wd a b<|aB<|x5 a b<|aB<|i4<|a_ ⟨_,rfl,"dict_keyiterator",_,⟨_,dr _ rfl,rfl⟩,q5.lookup,?_⟩);simpa [i9,s] using p
def Jq{u:af}(a:j.heap.IsKeyIter Uz v b Uy.length Vu)(f:iZ j.heap v Uy Vu)(d:Uy[b]?=Z u)(p:∀Uu,Uu.IsKeyIter Uz v (b+1) Uy.length Vu->aZ.SameBut Uz j.heap Uu->A (Z u) {j with heap:=Uu}):wpAny (aS UG C) O (hO<|.ref Uz) A Uv j:=by
 let⟨@o,e,n,c⟩:=id a;let⟨m,@T,g,q,h,k⟩:=f;have s:T.size=Uy.length:=by rw[<-k,bS,fW]
 have Uw:b<T.size:=by
  have:b<Uy.length:=(gp.mp d).1;lia
 have VX:T[b].key=u:=by
  rw[<-k,gy,hq,EN Uw]at d;exact Option.some.inj d
 unfold hO;refine aB (oB<|kr (name:=aF.ofString "__next__") a.typeIs q5<|iS q5 a.typeIs CO ?i<|DJ _)
 case i=>
  refine aB (a_<|aB<|aB ?_);refine aB (uF a.typeIs<|a_<|aB<|Du e c ?_);simp only[show bw.Dict_items.ownsTuple "dict_keyiterator" = aq by decide,k7,ih];show wpAny _ _ (if (af.ref v==af.none)=aa then _ else _) _ _ j;rw[aO (show ¬ (af.ref v==af.none)=aa by intro i;cases i)];refine aB (a_<|aB<|wd g h ?_);rw[aO (by simp[s])];refine aB (a_<|aB<|x5 g h ?_);rw[aO ↥0];apply a_;simp only[show ¬ ((b:Int)<0) by lia,ih,rO,EN Uw];refine aB (aB<|uF a.typeIs<|a_<|aB<|Dx a.typeIs ?_);show wpAny _ _ (setField (.ref Uz) 1 (i9<|(b:Int)+1) >>= _) _ _ j;have l:(j.heap.update Uz (a7.mapFields (·.setIfInBounds 1 (i9<|(b:Int)+1)))).IsKeyIter Uz v (b+1) Uy.length Vu:=
   ⟨_,rR _ e<|Gr<|ux c _,(Bc ..).trans n,by rw[ux c];simp[i9]⟩;refine aB (wc e c ↥0 (aB (iR (aB (Dx (s:={j with heap:=j.heap.update Uz (a7.mapFields (·.setIfInBounds 1 (i9<|(b:Int)+1)))}) l.typeIs ?_)))));show wpAny _ _ (pure T[b].key) _ _ _;rw[VX];exact a_ (a_ ⟨_,rfl,a_<|p _ l<|uN ..⟩)
def Mz(l:O.handled=Y)(a:j.heap.IsKeyIter Uz v b Uy.length Vu)(f:iZ j.heap v Uy Vu)(o:Uy.length<=b)(p:∀Uu,aZ.ExtBut Uz j.heap Uu->A Y {j with heap:=Uu}):wpAny (aS UG C) O (hO<|.ref Uz) A Uv j:=by
 let⟨@q,d,r,e⟩:=id a;let⟨m,@T,h,t,k,n⟩:=f;have s:T.size=Uy.length:=by rw[<-n,bS,fW]
 unfold hO;refine aB (oB<|kr (name:=aF.ofString "__next__") a.typeIs q5<|iS q5 a.typeIs CO ?i<|DJ _)
 case i=>
  refine aB (a_<|aB<|aB ?_);refine aB (uF a.typeIs<|a_<|aB<|Du d e ?_);simp only[show bw.Dict_items.ownsTuple "dict_keyiterator" = aq by decide,k7,ih];show wpAny _ _ (if (af.ref v==af.none)=aa then _ else _) _ _ j;rw[aO (show ¬ (af.ref v==af.none)=aa by intro i;cases i)];refine aB (a_<|aB<|wd h k ?_);rw[aO (by simp[s])];refine aB (a_<|aB<|x5 h k ?_);rw[aO ↥0];apply a_;simp only[show ¬ ((b:Int)<0) by lia,ih,rO,Array.getElem?_eq_none (show T.size<=b by lia)];refine aB (aB<|uF a.typeIs<|a_ ?_);show wpAny _ _ (setField (.ref Uz) 0 .none >>= _) _ _ j;refine aB (wc d e ↥0 ?_);show wpAny _ _ (tW (.type "StopIteration") [] >>= _) _ _ _;apply aB;simp only[tW,zG];refine aB (i4 (aB (m:=uv _ _) (zi (a:=af.none) (by first|rfl|(simp only[uv];rfl)) (i4 ?_ (by size_fits)))) (by size_fits));simp only[raiseNew];apply aB;apply Gs;rw[show O.in1.handled=Y from l];refine aB (m:=pure _) (a_<|wpAny_throw ?_);apply aB;refine uX (T := "StopIteration") (b:=aa) ⟨_,dr _ rfl,rfl⟩ zA ?_;exact a_ (p _<|((uN ..).extBut.push _).push _)
theorem Mj(i:O.handled=Y)(Uz v:ae)(ne:v≠Uz)(Uy:List af)(Vu:Nat):od UG C O Uz [Uz,v] [Uz] Uy.length (λb u=>Uy[b]?=Z u) (λb e=>e.IsKeyIter Uz v b Uy.length Vu/\iZ e v Uy Vu) where
 sub:=λc k=>by
  have:c=Uz:=by simpa using k
  simp[this]
 frame:=λb e Uu X q=>⟨let ⟨m,d,r⟩:=X.1;⟨m,q Uz ↥0 m d,r⟩,X.2.go (q v ↥0)⟩
 item:=λb j A Uv Uw X a=>by
  have h:Uy[b]?=Z Uy[b]:=by simp[Uw]
  refine Jq X.1 X.2 h λUu g c=>a _ Uu j.toks h ⟨g,X.2.go λm d=>c.extBut v m ne d⟩ λn m f d=>c.extBut n m ⇑f d
 done:=λj A Uv X a=>Mz i X.1 X.2 (bT _) λUu c=>a Uu j.toks λn m f d=>c n m ⇑f d
 self:=λb j A Uv X a=>wpAny_pyIter_keyiter X.1 a
theorem LM(D:(v==i3)=aq):PySem.W.KdlSrc UG C "dict" v v Uy.length (λb u=>Uy[b]?=Z u) (λe=>iZ e v Uy Vu) where
 type:=λj f=>f.ty
 there:=λe f=>⟨f.lt,f.lt⟩
 keep:=λe Uu f q=>f.go (q v<|.inl rfl)
 notList:=by decide
 notTuple:=by decide
 hint:=λO Uv j A f p=>PySem.W.kdl_hint_dict f.ty p
 iter:=λO j a f=>⟨_,_,(λUv A p=>OM D f p),Mj a _ v (d8 f.lt) Uy Vu,⟨⟨_,dr _ rfl,rfl,rfl⟩,f.go λm d=>b5 _ d⟩⟩
end
end L2
namespace L2
open Spec PyProof.Rows PySem.W
section
variable{s:Nat}{R:Nat->Int}{a:Nat->Nat->(Bool->ao->Prop)->ao->Prop}
def bl(R:Nat->Int)(o:Array Nat)(b:Nat):Int:=(R (o.getD b 0))
def iB(R:Nat->Int)(o:Array Nat)(E:Nat):Prop:=(∀b w,b<=w->w<E->bl R o b<=bl R o w)
def fT(s:Nat)(R:Nat->Int)(a:Nat->Nat->(Bool->ao->Prop)->ao->Prop)(j:ao):Prop:=(∀b w aH,b<s->w<s->aH (decide (R b<R w)) j->a b w aH j)
def c6(s:Nat)(o:Array Nat):Prop:=(o.toList.Perm (range s))
variable{o:Array Nat}
def c6.size(e:c6 s o):o.size=s:=by
 have:=e.length_eq;simpa using this
def c6.lt(e:c6 s o){b:Nat}(Uw:b<s):o.getD b 0<s:=by
 have UH:=e.size;have d:o.getD b 0=o[b]:=by simp[Array.getD,UH,Uw]
 rw[d];have:o[b]∈o.toList:=by simp
 exact ip.mp (e.mem_iff.mp this)
def c6.ne(e:c6 s o)(inj:∀b w,b<s->w<s->R b=R w->b=w){b w:Nat}(i:b<w)(a:w<s):bl R o b≠bl R o w:=by
 intro d;have UH:=e.size;have c:=inj _ _ (e.lt (by omega)) (e.lt a) d;have f:o.getD b 0=o[b]:=by simp[Array.getD,UH,show b<s by omega]
 have g:o.getD w 0=o[w]:=by simp[Array.getD,UH,a]
 rw[f,g]at c;have ai:o.toList.Nodup:=e.nodup_iff.mpr DY;have h:o.toList[b]'(by simpa [UH] using (show b<s by omega))=o.toList[w]'(by simpa [UH] using a):=by simpa using c
 have:=(Ho ai).mp h;omega
def m9{p:Array Nat}{b w:Nat}(d:o[b]?=p[w]?):bl R o b=bl R p w:=by
 unfold bl;rw[Iy,Iy,d]
theorem c6.rev(e:c6 s o)(b w:Nat):c6 s (mR o b w):=(Fn.mp<|mirror_perm o b w _).trans e
theorem c6.S2(e:c6 s o)(b w:Nat):c6 s (rr o b w):=(Fn.mp<|bubble_perm o b w).trans e
end
section
variable{UG:bC}{C:bg}{O:bB}{Uv:af->ao->Prop}{UX:gY}{Uz:Array bq}{R:Nat->Int}{s:Nat}{j:ao}
def pR:Bool->bq->Array bq->Nat->Nat->Nat->StateT bH ef (Option Nat):=(sortPriv% PySem.Builtin.gallop)
def qM(a:fT s R (fq UG C O UX Uz) j){b w:Nat}(Uw:b<s)(c:w<s){X:bH}(d:kindOf X=UX){A:Option Bool->bH->ao->Prop}(e:A (Z<|decide (R b<R w)) X j):
  kasC (aS UG C) O Uv (lt' (bp Uz b)<|bp Uz w) A X j:=by
 rw[lt'_eq];apply br;apply j2;have:=a b w (λn Ux=>Ux=j/\n=decide (R b<R w)) Uw c ⟨rfl,rfl⟩;unfold fq at this;rw[d];refine br (ou<|oB<|gS this (λn Ux f=>?_) λ_ W g=>g.elim);let@⟨rfl,rfl⟩:=f;exact bo e
theorem g6{x VH:Type}{aE:gn}{L:Nat->VH->StateT x ef (ForInStep VH)}{A:VH->x->ao->Prop}(b:Nat->VH->x->ao->Prop)(step:∀f n X Ux,b f n X Ux->kasC aE O Uv (L f n) (λr c h=>match r with | .yield a=>b (f+1) a c h | .done a=>A a c h) X Ux):∀(E g:Nat) (n:VH) (X:x) (Ux:ao),(∀n X Ux,b (g+E) n X Ux->A n X Ux)->b g n X Ux->
   kasC aE O Uv (forIn (range' g E) n L) A X Ux
 |0,g,n,X,Ux,fin,e=>by
  show kasC aE O Uv (forIn ([]:List Nat) n L) A X Ux;exact kasC_nil (fin n X Ux e)
 |E+1,g,n,X,Ux,fin,e=>by
  show kasC aE O Uv (forIn (g::range' (g+1) E) n L) A X Ux;refine kasC_cons (gS (step g n X Ux e) (λr h Uu=>?_) λ_ W d=>d);let⟨r,c⟩:=r;cases r with
  |done a=>exact Uu
  |yield a=>exact g6 b step E (g+1) a c h (λn X Ux Uw=>fin n X Ux (by rw[show g+(E+1)=g+1+E by lia];exact Uw)) Uu
def cU(R:Nat->Int)(left:Bool)(q:Nat)(bQ:Array Nat)(UC b:Nat):Bool:=(if left=aa then decide (R (bQ.getD (UC+b) 0)<R q) else !decide (R q<R (bQ.getD (UC+b) 0)))
def D9(P:fT s R (fq UG C O UX Uz) j){left:Bool}{q:Nat}(Q:q<s){bQ:Array Nat}(am:∀b,b<bQ.size->bQ.getD b 0<s){UC E a:Nat}(a1:UC+E<=bQ.size)(an:a<E)(mono:∀b w,b<=w->w<E->cU R left q bQ UC w=aa->cU R left q bQ UC b=aa){X:bH}(S:kindOf X=UX){A:Option Nat->bH->ao->Prop}(e:∀r,r<=E->(∀b,b<r->cU R left q bQ UC b=aa)->(∀b,r<=b->b<E->cU R left q bQ UC b=aq)->A (Z r) X j):
  kasC (aS UG C) O Uv (pR left (bp Uz q) (bQ.map<|bp Uz) UC E a) A X j:=by
 have ap:∀b,b<E->(bQ.map<|bp Uz)[UC+b]?=Z (bp Uz<|bQ.getD (UC+b) 0):=λb Uw=>by
  have:UC+b<bQ.size:=⋯
  simp[Array.getD,this]
 have ask:∀b,b<E->∀N:Option Bool->bH->ao->Prop,N (Z<|cU R left q bQ UC b) X j->
   kasC (aS UG C) O Uv (do let f <-elem' (bQ.map<|bp Uz) (UC+b);if left=aa then lt' f (bp Uz q) else do let r <-lt' (bp Uz q) f;pure (r.map λf=>!f)) N X j:=λb Uw N J=>by
  rw[tL,ap b Uw];apply br;apply bo;have T:=am (UC+b) ⋯;unfold cU at J;cases left with
  |true=>
   rw[aJ rfl]at J ⊢;exact qM P T Q S J
  |false=>
   rw[aO ek]at J ⊢;exact br (qM P Q T S<|bo J)
 unfold pR;with_unfolding_all refine br ?_;refine ask a an _ ?_;dsimp only;cases U:cU R left q bQ UC a with
 |true=>
  rw[aJ rfl];apply br;apply fQ;have H:∀last h,last<h->a+last<E->cU R left q bQ UC (a+last)=aa->(h >= E-a\/cU R left q bQ UC (a+h)=aq)->
    a+last+1<=a+min h (E-a)/\a+min h (E-a)<=E/\(∀b,b<a+last+1->cU R left q bQ UC b=aa)/\(∀b,a+min h (E-a)<=b->b<E->cU R left q bQ UC b=aq)/\a+min h (E-a)-(a+last+1)<=E-0:=λlast h as al M G=>by
   refine⟨⋯,⋯,λb Uw=>mono b (a+last) ⋯ al M,λb t z=>?_,⋯⟩;rcases G with G|G
   ·lia
   ·cases v:cU R left q bQ UC b with
    |false=>rfl
    |true=>rw[mono (a+h) b ⋯ z v]at G;cases G
  refine g6 (λf n l Ux=>l=X/\Ux=j/\∃last h,n=(Y,last,h)/\last<h/\f<h/\a+last<E/\cU R left q bQ UC (a+last)=aa) ?_ _ 0 _ _ _ ?_ ⟨rfl,rfl,0,1,rfl,⋯,⋯,⋯,U⟩
  ·rintro f n l Ux ⟨m,o,last,h,rfl,t,z,i,k⟩;rw[m,o];dsimp only;by_cases I:h >= E-a
   ·rw[aJ I];apply bo;dsimp only;have x:=H last h t i k (.inl I);apply br;apply fQ;refine g6 (λf n l Ux=>l=X/\Ux=j/\∃D Uw,n=(Y,D,Uw)/\D<=Uw/\Uw<=E/\(∀b,b<D->cU R left q bQ UC b=aa)/\(∀b,Uw<=b->b<E->cU R left q bQ UC b=aq)/\Uw-D<=E-f) ?_ _ 0 _ _ _ ?_ ⟨rfl,rfl,_,_,rfl,x⟩
    ·rintro f n l Ux ⟨m,o,D,Uw,rfl,t,z,i,k,y⟩;rw[m,o];dsimp only;by_cases u:D >= Uw
     ·rw[aJ u];apply bo;dsimp only;have d:D=Uw:=⋯
      subst d;exact bo (e D z i k)
     ·rw[aO u];have B:D<=D+(Uw-D)/2:=⋯
      have F:D+(Uw-D)/2<Uw:=⋯
      generalize D+(Uw-D)/2=mid at B F ⊢;refine br (ask mid ⋯ _ ?_);dsimp only;cases p:cU R left q bQ UC mid with
      |true=>
       rw[aJ rfl];exact bo ⟨rfl,rfl,mid+1,Uw,rfl,⋯,z,λb L=>mono b mid ⋯ ⋯ p,k,⋯⟩
      |false=>
       rw[aO ek];refine bo ⟨rfl,rfl,D,mid,rfl,⋯,⋯,i,λb g c=>?_,⋯⟩;cases v:cU R left q bQ UC b with
       |false=>rfl
       |true=>rw[mono mid b g c v]at p;cases p
    ·rintro n l Ux ⟨m,o,D,Uw,rfl,t,z,i,k,y⟩;rw[m,o];dsimp only;have d:D=Uw:=⋯
     subst d;exact bo (e D z i k)
   ·rw[aO I];refine br (ask (a+h) ⋯ _ ?_);dsimp only;cases p:cU R left q bQ UC (a+h) with
    |true=>
     simp only[yX,k7,ih];exact bo ⟨rfl,rfl,h,2*h+1,rfl,⋯,⋯,⋯,p⟩
    |false=>
     simp only[Bool.not_false,hK];apply bo;dsimp only;have x:=H last h t i k (.inr p);apply br;apply fQ;refine g6 (λf n l Ux=>l=X/\Ux=j/\∃D Uw,n=(Y,D,Uw)/\D<=Uw/\Uw<=E/\(∀b,b<D->cU R left q bQ UC b=aa)/\(∀b,Uw<=b->b<E->cU R left q bQ UC b=aq)/\Uw-D<=E-f) ?_ _ 0 _ _ _ ?_ ⟨rfl,rfl,_,_,rfl,x⟩
     ·rintro f n l Ux ⟨m,o,D,Uw,rfl,t,z,i,k,y⟩;rw[m,o];dsimp only;by_cases u:D >= Uw
      ·rw[aJ u];apply bo;dsimp only;have d:D=Uw:=⋯
       subst d;exact bo (e D z i k)
      ·rw[aO u];have B:D<=D+(Uw-D)/2:=⋯
       have F:D+(Uw-D)/2<Uw:=⋯
       generalize D+(Uw-D)/2=mid at B F ⊢;refine br (ask mid ⋯ _ ?_);dsimp only;cases p:cU R left q bQ UC mid with
       |true=>
        rw[aJ rfl];exact bo ⟨rfl,rfl,mid+1,Uw,rfl,⋯,z,λb L=>mono b mid ⋯ ⋯ p,k,⋯⟩
       |false=>
        rw[aO ek];refine bo ⟨rfl,rfl,D,mid,rfl,⋯,⋯,i,λb g c=>?_,⋯⟩;cases v:cU R left q bQ UC b with
        |false=>rfl
        |true=>rw[mono mid b g c v]at p;cases p
     ·rintro n l Ux ⟨m,o,D,Uw,rfl,t,z,i,k,y⟩;rw[m,o];dsimp only;have d:D=Uw:=⋯
      subst d;exact bo (e D z i k)
  ·rintro n l Ux ⟨m,o,last,h,rfl,t,z,i,k⟩;rw[m,o];dsimp only;have x:=H last h t i k (.inl ⋯);apply br;apply fQ;refine g6 (λf n l Ux=>l=X/\Ux=j/\∃D Uw,n=(Y,D,Uw)/\D<=Uw/\Uw<=E/\(∀b,b<D->cU R left q bQ UC b=aa)/\(∀b,Uw<=b->b<E->cU R left q bQ UC b=aq)/\Uw-D<=E-f) ?_ _ 0 _ _ _ ?_ ⟨rfl,rfl,_,_,rfl,x⟩
   ·rintro f n l Ux ⟨m,o,D,Uw,rfl,t,z,i,k,y⟩;rw[m,o];dsimp only;by_cases u:D >= Uw
    ·rw[aJ u];apply bo;dsimp only;have d:D=Uw:=⋯
     subst d;exact bo (e D z i k)
    ·rw[aO u];have B:D<=D+(Uw-D)/2:=⋯
     have F:D+(Uw-D)/2<Uw:=⋯
     generalize D+(Uw-D)/2=mid at B F ⊢;refine br (ask mid ⋯ _ ?_);dsimp only;cases p:cU R left q bQ UC mid with
     |true=>
      rw[aJ rfl];exact bo ⟨rfl,rfl,mid+1,Uw,rfl,⋯,z,λb L=>mono b mid ⋯ ⋯ p,k,⋯⟩
     |false=>
      rw[aO ek];refine bo ⟨rfl,rfl,D,mid,rfl,⋯,⋯,i,λb g c=>?_,⋯⟩;cases v:cU R left q bQ UC b with
      |false=>rfl
      |true=>rw[mono mid b g c v]at p;cases p
   ·rintro n l Ux ⟨m,o,D,Uw,rfl,t,z,i,k,y⟩;rw[m,o];dsimp only;have d:D=Uw:=⋯
    subst d;exact bo (e D z i k)
 |false=>
  rw[aO ek];apply br;apply fQ;have H:∀last h,last<h->last<=a->cU R left q bQ UC (a-last)=aq->(h >= a+1\/cU R left q bQ UC (a-h)=aa)->
    a+1-min h (a+1)<=a-last/\a-last<=E/\(∀b,b<a+1-min h (a+1)->cU R left q bQ UC b=aa)/\(∀b,a-last<=b->b<E->cU R left q bQ UC b=aq)/\a-last-(a+1-min h (a+1))<=E-0:=λlast h as al M G=>by
   refine⟨⋯,⋯,λb Uw=>?_,λb t z=>?_,⋯⟩
   ·rcases G with G|G
    ·lia
    ·exact mono b (a-h) ⋯ ⋯ G
   ·cases v:cU R left q bQ UC b with
    |false=>rfl
    |true=>rw[mono (a-last) b ⋯ z v]at M;cases M
  refine g6 (λf n l Ux=>l=X/\Ux=j/\∃last h,n=(Y,last,h)/\last<h/\f<h/\last<=a/\cU R left q bQ UC (a-last)=aq) ?_ _ 0 _ _ _ ?_ ⟨rfl,rfl,0,1,rfl,⋯,⋯,⋯,U⟩
  ·rintro f n l Ux ⟨m,o,last,h,rfl,t,z,i,k⟩;rw[m,o];dsimp only;by_cases I:h >= a+1
   ·rw[aJ I];apply bo;dsimp only;have x:=H last h t i k (.inl I);apply br;apply fQ;refine g6 (λf n l Ux=>l=X/\Ux=j/\∃D Uw,n=(Y,D,Uw)/\D<=Uw/\Uw<=E/\(∀b,b<D->cU R left q bQ UC b=aa)/\(∀b,Uw<=b->b<E->cU R left q bQ UC b=aq)/\Uw-D<=E-f) ?_ _ 0 _ _ _ ?_ ⟨rfl,rfl,_,_,rfl,x⟩
    ·rintro f n l Ux ⟨m,o,D,Uw,rfl,t,z,i,k,y⟩;rw[m,o];dsimp only;by_cases u:D >= Uw
     ·rw[aJ u];apply bo;dsimp only;have d:D=Uw:=⋯
      subst d;exact bo (e D z i k)
     ·rw[aO u];have B:D<=D+(Uw-D)/2:=⋯
      have F:D+(Uw-D)/2<Uw:=⋯
      generalize D+(Uw-D)/2=mid at B F ⊢;refine br (ask mid ⋯ _ ?_);dsimp only;cases p:cU R left q bQ UC mid with
      |true=>
       rw[aJ rfl];exact bo ⟨rfl,rfl,mid+1,Uw,rfl,⋯,z,λb L=>mono b mid ⋯ ⋯ p,k,⋯⟩
      |false=>
       rw[aO ek];refine bo ⟨rfl,rfl,D,mid,rfl,⋯,⋯,i,λb g c=>?_,⋯⟩;cases v:cU R left q bQ UC b with
       |false=>rfl
       |true=>rw[mono mid b g c v]at p;cases p
    ·rintro n l Ux ⟨m,o,D,Uw,rfl,t,z,i,k,y⟩;rw[m,o];dsimp only;have d:D=Uw:=⋯
     subst d;exact bo (e D z i k)
   ·rw[aO I];refine br (ask (a-h) ⋯ _ ?_);dsimp only;cases p:cU R left q bQ UC (a-h) with
    |false=>
     rw[aO ek];exact bo ⟨rfl,rfl,h,2*h+1,rfl,⋯,⋯,⋯,p⟩
    |true=>
     rw[aJ rfl];apply bo;dsimp only;have x:=H last h t i k (.inr p);apply br;apply fQ;refine g6 (λf n l Ux=>l=X/\Ux=j/\∃D Uw,n=(Y,D,Uw)/\D<=Uw/\Uw<=E/\(∀b,b<D->cU R left q bQ UC b=aa)/\(∀b,Uw<=b->b<E->cU R left q bQ UC b=aq)/\Uw-D<=E-f) ?_ _ 0 _ _ _ ?_ ⟨rfl,rfl,_,_,rfl,x⟩
     ·rintro f n l Ux ⟨m,o,D,Uw,rfl,t,z,i,k,y⟩;rw[m,o];dsimp only;by_cases u:D >= Uw
      ·rw[aJ u];apply bo;dsimp only;have d:D=Uw:=⋯
       subst d;exact bo (e D z i k)
      ·rw[aO u];have B:D<=D+(Uw-D)/2:=⋯
       have F:D+(Uw-D)/2<Uw:=⋯
       generalize D+(Uw-D)/2=mid at B F ⊢;refine br (ask mid ⋯ _ ?_);dsimp only;cases p:cU R left q bQ UC mid with
       |true=>
        rw[aJ rfl];exact bo ⟨rfl,rfl,mid+1,Uw,rfl,⋯,z,λb L=>mono b mid ⋯ ⋯ p,k,⋯⟩
       |false=>
        rw[aO ek];refine bo ⟨rfl,rfl,D,mid,rfl,⋯,⋯,i,λb g c=>?_,⋯⟩;cases v:cU R left q bQ UC b with
        |false=>rfl
        |true=>rw[mono mid b g c v]at p;cases p
     ·rintro n l Ux ⟨m,o,D,Uw,rfl,t,z,i,k,y⟩;rw[m,o];dsimp only;have d:D=Uw:=⋯
      subst d;exact bo (e D z i k)
  ·rintro n l Ux ⟨m,o,last,h,rfl,t,z,i,k⟩;rw[m,o];dsimp only;have x:=H last h t i k (.inl ⋯);apply br;apply fQ;refine g6 (λf n l Ux=>l=X/\Ux=j/\∃D Uw,n=(Y,D,Uw)/\D<=Uw/\Uw<=E/\(∀b,b<D->cU R left q bQ UC b=aa)/\(∀b,Uw<=b->b<E->cU R left q bQ UC b=aq)/\Uw-D<=E-f) ?_ _ 0 _ _ _ ?_ ⟨rfl,rfl,_,_,rfl,x⟩
   ·rintro f n l Ux ⟨m,o,D,Uw,rfl,t,z,i,k,y⟩;rw[m,o];dsimp only;by_cases u:D >= Uw
    ·rw[aJ u];apply bo;dsimp only;have d:D=Uw:=⋯
     subst d;exact bo (e D z i k)
    ·rw[aO u];have B:D<=D+(Uw-D)/2:=⋯
     have F:D+(Uw-D)/2<Uw:=⋯
     generalize D+(Uw-D)/2=mid at B F ⊢;refine br (ask mid ⋯ _ ?_);dsimp only;cases p:cU R left q bQ UC mid with
     |true=>
      rw[aJ rfl];exact bo ⟨rfl,rfl,mid+1,Uw,rfl,⋯,z,λb L=>mono b mid ⋯ ⋯ p,k,⋯⟩
     |false=>
      rw[aO ek];refine bo ⟨rfl,rfl,D,mid,rfl,⋯,⋯,i,λb g c=>?_,⋯⟩;cases v:cU R left q bQ UC b with
      |false=>rfl
      |true=>rw[mono mid b g c v]at p;cases p
   ·rintro n l Ux ⟨m,o,D,Uw,rfl,t,z,i,k,y⟩;rw[m,o];dsimp only;have d:D=Uw:=⋯
    subst d;exact bo (e D z i k)
end
section
variable{R:Nat->Int}
def cC(R:Nat->Int)(M:List Nat):Prop:=(M.Pairwise λf l=>R f<=R l)
structure RU(R:Nat->Int)(i u:List Nat)(k:List Nat)(y B:Nat):Prop where
 perm:k.Perm (i.take y++u.take B)
 aN:cC R (k++i.drop y)
 b8:cC R (k++u.drop B)
 bQ:y+1<i.length
 hF:B<u.length
variable{M E:List Nat}
def fv:cC R (M++E)↔cC R M/\cC R E/\∀f∈M,∀l∈E,R f<=R l:=List.pairwise_append
def pQ(M:List Nat)(b q:Nat):M.take b++(M.drop b).take q=M.take (b+q):=by rw[List.take_add]
variable{i u k:List Nat}{y B:Nat}
def t4(q:Nat)(perm:k.Perm (i.take y++u.take B))(aN:cC R (k++i.drop y))(b8:cC R (k++u.drop B))(e:∀f∈(i.drop y).take q,∀l∈u.drop B,R f<=R l):
  (k++(i.drop y).take q).Perm (i.take (y+q)++u.take B)/\cC R (k++(i.drop y).take q++i.drop (y+q))/\cC R (k++(i.drop y).take q++u.drop B):=by
 refine⟨?_,?_,?_⟩
 ·rw[<-pQ i y q];refine (perm.append_right _).trans ?_;rw[bu,bu];exact ed _ dy
 ·rw[bu,<-oS,gf];exact aN
 ·rw[bu];have b:=fv.mp aN;have c:=fv.mp b8;refine fv.mpr ⟨b.1,fv.mpr ⟨b.2.1.sublist<|tx _ _,c.2.1,e⟩,λf d l a=>?_⟩;rcases dv.mp a with a|a
  ·exact b.2.2 f d l (qn a)
  ·exact c.2.2 f d l a
def wO(q:Nat)(perm:k.Perm (i.take y++u.take B))(aN:cC R (k++i.drop y))(b8:cC R (k++u.drop B))(e:∀f∈(u.drop B).take q,∀l∈i.drop y,R f<=R l):
  (k++(u.drop B).take q).Perm (i.take y++u.take (B+q))/\cC R (k++(u.drop B).take q++i.drop y)/\cC R (k++(u.drop B).take q++u.drop (B+q)):=by
 have:=t4 (i:=u) (u:=i) q (perm.trans dy) b8 aN e;exact⟨this.1.trans dy,this.2.2,this.2.1⟩
variable{b:Nat}
def ko(e:b<M.length):(M.drop b).take 1=[M.getD b 0]:=by
 rw[jK e,cT,f3 e];rfl
variable{l:Nat}
def ku(e:l∈M.drop b):∃w,b<=w/\w<M.length/\l=M.getD w 0:=by
 let⟨w,a,d⟩:=xc.mp e;have c:=a;rw[gQ]at c;exact⟨b+w,⋯,⋯,by rw[<-d,tK];simp[List.getD,show b+w<M.length by lia]⟩
variable{q:Nat}
def qj(e:l∈(M.drop b).take q):∃w,w<q/\b+w<M.length/\l=M.getD (b+w) 0:=by
 let⟨w,a,d⟩:=xc.mp e;have c:=a;rw[h2,gQ]at c;exact⟨w,by omega,by omega,by rw[<-d,zj,tK];simp[List.getD,show b+w<M.length by omega]⟩
def oF(e:cC R M){b w:Nat}(c:b<=w)(a:w<M.length):R (M.getD b 0)<=R (M.getD w 0):=by
 rcases Nat.lt_or_eq_of_le c with d|rfl
 ·have:=qo.mp e b w ⋯ a d;simpa [List.getD,a,show b<M.length by lia] using this
 ·exact lH _
theorem Fx(e:cC R (M++E)):cC R E:=(fv.mp e).2.1
def pj{w:Nat}(e:cC R (k++M.drop b))(a:b<=w)(c:w<=q)(d:q<M.length):R (M.getD w 0)<=R (M.getD q 0):=by
 have:=oF (Fx e) (b:=w-b) (w:=q-b) ⋯ (by rw[gQ];lia);simpa [List.getD,nq,show b+(w-b)=w by lia,show b+(q-b)=q by lia] using this
def hc(R:Nat->Int)(Uz:Array bq)(i u:List Nat)(out:Array bq):Prop:=(∃k:List Nat,out=(k.map<|bp Uz).toArray/\k.Perm (i++u)/\cC R k)
variable{Uz:Array bq}
def qZ(perm:k.Perm (i.take y++u.take B))(aN:cC R (k++i.drop y))(b8:cC R (k++u.drop B))(a:B=u.length\/y=i.length):
  hc R Uz i u ((k.map<|bp Uz).toArray++(i.map<|bp Uz).toArray.extract y (i.map<|bp Uz).toArray.size++(u.map<|bp Uz).toArray.extract B (u.map<|bp Uz).toArray.size):=by
 refine⟨k++i.drop y++u.drop B,?_,?_,?_⟩
 ·apply kO;simp[mj,uR]
 ·rw[bu];refine (perm.append_right _).trans ?_;have:(i.take y++u.take B++(i.drop y++u.drop B)).Perm ((i.take y++i.drop y)++(u.take B++u.drop B)):=by
   rw[bu,bu];refine ed _ ?_;rw[<-bu,<-bu];exact fg _ dy
  rw[gf,gf]at this;exact this
 ·rcases a with d|d
  ·rw[d,xr,b_];exact aN
  ·rw[d,xr,b_];exact b8
def sT(perm:k.Perm (i.take y++u.take B))(aN:cC R (k++i.drop y))(b8:cC R (k++u.drop B))(c:y+1=i.length)(dh:∀f∈u,R f<=R (i.getD (i.length-1) 0)):
  hc R Uz i u ((k.map<|bp Uz).toArray++(u.map<|bp Uz).toArray.extract B (u.map<|bp Uz).toArray.size++(i.map<|bp Uz).toArray.extract y (i.map<|bp Uz).toArray.size):=by
 refine⟨k++u.drop B++i.drop y,?_,?_,?_⟩
 ·apply kO;simp[mj,uR]
 ·rw[bu];refine (perm.append_right _).trans ?_;have:(i.take y++u.take B++(u.drop B++i.drop y)).Perm ((i.take y++i.drop y)++(u.take B++u.drop B)):=by
   rw[bu,bu];refine ed _ ?_;rw[<-bu];exact dy
  rw[gf,gf]at this;exact this
 ·refine fv.mpr ⟨b8,Fx aN,λf a l b=>?_⟩;rcases dv.mp a with a|a
  ·exact (fv.mp aN).2.2 f a l b
  ·let⟨@w,t,z,rfl⟩:=ku b;have:w=i.length-1:=⋯
   rw[this];exact dh f (mh a)
end
section
variable{UG:bC}{C:bg}{O:bB}{Uv:af->ao->Prop}{UX:gY}{Uz:Array bq}{R:Nat->Int}{s:Nat}{j:ao}
def Hv:Array bq->Array bq->StateT bH ef (Array bq):=(sortPriv% PySem.Builtin.mergeLo)
structure dE(r X:bH):Prop where
 k:kindOf X=kindOf r
 a:arrOf X=arrOf r
 p:ik X=ik r
 f:iu X=iu r
def dE.refl(X:bH):dE X X:=⟨rfl,rfl,rfl,rfl⟩
def iw{x U1:Type}{aE:gn}{E:StateT x ef U1}{A a:U1->x->ao->Prop}{X:x}{Ux:ao}(e:kasC aE O Uv E a X Ux)(J:∀g X Ux,a g X Ux->A g X Ux):kasC aE O Uv E A X Ux:=
 gS e (λr Ux f=>J r.1 r.2 Ux f) λ_ W d=>d
variable{M:List Nat}
def f7{b:Nat}(Uw:b<M.length){X:bH}{A:bq->bH->ao->Prop}(e:A (bp Uz<|M.getD b 0) X j):kasC (aS UG C) O Uv (elem' (M.map<|bp Uz).toArray b) A X j:=by
 rw[tL,show ((M.map<|bp Uz).toArray)[b]?=Z (bp Uz<|M.getD b 0) by simp[List.getD,Uw]];exact bo e
def jD(a:∀f∈M,f<s){b:Nat}(Uw:b<M.length):M.getD b 0<s:=by
 rw[cT,f3 Uw];exact a _ (FJ Uw)
def md(M:List Nat)(b:Nat):M.toArray.getD b 0=M.getD b 0:=by simp[Array.getD,List.getD];split<;>simp_all
def w7(d:fT s R (fq UG C O UX Uz) j){q:Nat}(h:q<s){M:List Nat}(i:∀f∈M,f<s){UC E a:Nat}(k:UC+E<=M.length)(l:a<E)(mono:∀b w,UC<=b->b<=w->w<UC+E->R (M.getD b 0)<=R (M.getD w 0)){X:bH}(m:kindOf X=UX){A:Option Nat->bH->ao->Prop}(e:∀r,r<=E->(∀b,UC<=b->b<UC+r->R (M.getD b 0)<=R q)->(∀b,UC+r<=b->b<UC+E->R q<R (M.getD b 0))->A (Z r) X j):
  kasC (aS UG C) O Uv (pR aq (bp Uz q) (M.map<|bp Uz).toArray UC E a) A X j:=by
 rw[<-FT];refine D9 d h (λb Uw=>by rw[md];exact jD i ⇑Uw) ⇑k l (λb w p u n=>?_) m λr o g c=>e r o (λb t z=>?_) (λb t z=>?_)
 ·simp only[cU,md,k7,ih,vK,zm,wB]at n ⊢;have:=mono (UC+b) (UC+w) ⋯ ⋯ ⋯;lia
 ·have:=g (b-UC) ⋯;simp only[cU,md,k7,ih,vK,zm,wB]at this
  rwa [show UC+(b-UC)=b by lia]at this
 ·have:=c (b-UC) ⋯ ⋯;simp only[cU,md,k7,ih,Bool.not_eq_false',uQ]at this
  rwa [show UC+(b-UC)=b by lia]at this
def w0(d:fT s R (fq UG C O UX Uz) j){q:Nat}(h:q<s){M:List Nat}(i:∀f∈M,f<s){UC E a:Nat}(k:UC+E<=M.length)(l:a<E)(mono:∀b w,UC<=b->b<=w->w<UC+E->R (M.getD b 0)<=R (M.getD w 0)){X:bH}(m:kindOf X=UX){A:Option Nat->bH->ao->Prop}(e:∀r,r<=E->(∀b,UC<=b->b<UC+r->R (M.getD b 0)<R q)->(∀b,UC+r<=b->b<UC+E->R q<=R (M.getD b 0))->A (Z r) X j):
  kasC (aS UG C) O Uv (pR aa (bp Uz q) (M.map<|bp Uz).toArray UC E a) A X j:=by
 rw[<-FT];refine D9 d h (λb Uw=>by rw[md];exact jD i ⇑Uw) ⇑k l (λb w p u n=>?_) m λr o g c=>e r o (λb t z=>?_) (λb t z=>?_)
 ·simp only[cU,md,hK,uQ]at n ⊢;have:=mono (UC+b) (UC+w) ⋯ ⋯ ⋯;lia
 ·have:=g (b-UC) ⋯;simp only[cU,md,hK,uQ]at this
  rwa [show UC+(b-UC)=b by lia]at this
 ·have:=c (b-UC) ⋯ ⋯;simp only[cU,md,hK,zm,wB]at this
  rwa [show UC+(b-UC)=b by lia]at this
def qw(k:List Nat)(l:Nat):(k.map<|bp Uz).toArray.push (bp Uz l)=((k++[l]).map<|bp Uz).toArray:=by simp
def Er(k M:List Nat)(b q:Nat):(k.map<|bp Uz).toArray++(M.map<|bp Uz).toArray.extract b (b+q)=((k++(M.drop b).take q).map<|bp Uz).toArray:=by
 apply kO;simp[mj,lg,r2]
end
section
variable{UG:bC}{C:bg}{O:bB}{Uv:af->ao->Prop}{UX:gY}{Uz:Array bq}{R:Nat->Int}{s:Nat}{j:ao}
def h1(R:Nat->Int)(Uz:Array bq)(i u:List Nat)(out:Array bq)(y B:Nat):Prop:=(∃k:List Nat,out=(k.map<|bp Uz).toArray/\RU R i u k y B)
variable{x U1:Type}
def GB{aE:gn}{O:bB}{Uv:af->ao->Prop}{n:Nat->Prop}{b:∀J,Decidable (n J)}{g UB:Nat->StateT x ef U1}{A:U1->x->ao->Prop}{X:x}{j:ao}(f:Nat->Nat)(a:∀J,g J=UB (f J))(h:∀J,kasC aE O Uv (UB J) A X j):∀J,kasC aE O Uv (if n J then g J else UB J) A X j:=by
 intro J;rw[a];split
 ·exact h _
 ·exact h _
variable{n:Prop}
def u1{aE:gn}{O:bB}{Uv:af->ao->Prop}{i:Decidable n}{a Vh:Array bq->Nat->StateT x ef U1}{A:U1->x->ao->Prop}{X:x}{j:ao}(c d:Array bq->Nat->Prop)(h:∀m b,d m b->kasC aE O Uv (Vh m b) A X j)(f:¬ n->∀m b,c m b->d m b)(g:(∀m b,d m b->kasC aE O Uv (Vh m b) A X j)->n->∀m b,c m b->kasC aE O Uv (a m b) A X j):∀m b,c m b->kasC aE O Uv (if n then a m b else Vh m b) A X j:=λm b o=>
 if e:n then by rw[aJ e];exact g h e m b o else by rw[aO e];exact h m b (f e m b o)
def FZ{aE:gn}{O:bB}{Uv:af->ao->Prop}{L:bH->bH}{A:PUnit->bH->ao->Prop}{r X:bH}{j:ao}(UH:dE r (L X))(e:∀a,dE r a->A ⟨⟩ a j):kasC aE O Uv (modify L:StateT bH ef PUnit) A X j:=lb (e _ UH)
def rG(R:Nat->Int)(Uz:Array bq)(i u:List Nat)(X:bH)(j:ao): Option (Array bq)×Array bq×Nat×Nat×Nat->bH->ao->Prop:=(λn b Ux=>j=Ux/\dE X b/\∃a o p r J,n=(Z a,o,p,r,J)/\hc R Uz i u a)
def rm(R:Nat->Int)(Uz:Array bq)(i u:List Nat)(X:bH)(j:ao)(f:Nat):Option (Array bq)×Array bq×Nat×Nat×Nat->bH->ao->Prop:=(λn a Ux=>j=Ux/\dE X a/\∃m y B J,n=(Y,m,y,B,J)/\h1 R Uz i u m y B/\f+1<=y+B)
def kU(R:Nat->Int)(Uz:Array bq)(i u:List Nat)(X:bH)(j:ao)(f:Nat):Option (Array bq)×Array bq×Nat×Nat×Nat×Nat->bH->ao->Prop:=(λn c Ux=>j=Ux/\dE X c/\((∃b o p r ac a,n=(Z b,o,p,r,ac,a)/\hc R Uz i u b)\/∃m y B ac a,n=(Y,m,y,B,ac,a)/\h1 R Uz i u m y B/\f+2<=y+B))
def qk(R:Nat->Int)(Uz:Array bq)(i u:List Nat)(X:bH)(j:ao)(f l:Nat):Option (Array bq)×Array bq×Nat×Nat×Nat×Nat->bH->ao->Prop:=(λn a Ux=>j=Ux/\dE X a/\∃m y B ac b,n=(Y,m,y,B,ac,b)/\h1 R Uz i u m y B/\f+1+l<=y+B)
def jx(R:Nat->Int)(Uz:Array bq)(i u:List Nat)(X:bH)(j:ao)(f:Nat):Option (Array bq)×Array bq×Nat×Nat×Nat×Nat×Nat->bH->ao->Prop:=(λn c Ux=>j=Ux/\dE X c/\((∃b o p r J ac a,n=(Z b,o,p,r,J,ac,a)/\hc R Uz i u b)\/∃m y B J ac a,n=(Y,m,y,B,J,ac,a)/\h1 R Uz i u m y B/\f+2<=y+B))
def sm(R:Nat->Int)(Uz:Array bq)(i u:List Nat)(X:bH)(j:ao)(f l:Nat):Option (Array bq)×Array bq×Nat×Nat×Nat×Nat×Nat->bH->ao->Prop:=(λn a Ux=>j=Ux/\dE X a/\∃m y B J ac b,n=(Y,m,y,B,J,ac,b)/\h1 R Uz i u m y B/\f+2<=y+B)
def rG.a{R:Nat->Int}{Uz:Array bq}{i u:List Nat}{X b:bH}{j:ao}{out:Array bq}{o:Array bq}{p r:Nat}{J:Nat}(e:dE X b)(E:hc R Uz i u out):rG R Uz i u X j (Z out,o,p,r,J) b j:=⟨rfl,e,_,_,_,_,_,rfl,E⟩
def rm.k{R:Nat->Int}{Uz:Array bq}{i u:List Nat}{X a:bH}{j:ao}{f:Nat}{m:Array bq}{y B:Nat}{J:Nat}(e:dE X a)(w:h1 R Uz i u m y B)(d:f+1<=y+B):rm R Uz i u X j f (Y,m,y,B,J) a j:=⟨rfl,e,_,_,_,_,rfl,w,d⟩
def kU.a{R:Nat->Int}{Uz:Array bq}{i u:List Nat}{X b:bH}{j:ao}{f:Nat}{out:Array bq}{o:Array bq}{p r:Nat}{J c:Nat}(e:dE X b)(E:hc R Uz i u out):kU R Uz i u X j f (Z out,o,p,r,J,c) b j:=⟨rfl,e,.inl ⟨_,_,_,_,_,_,rfl,E⟩⟩
def kU.b{R:Nat->Int}{Uz:Array bq}{i u:List Nat}{X a:bH}{j:ao}{f:Nat}{m:Array bq}{y B:Nat}{J g:Nat}(e:dE X a)(w:h1 R Uz i u m y B)(d:f+2<=y+B):kU R Uz i u X j f (Y,m,y,B,J,g) a j:=⟨rfl,e,.inr ⟨_,_,_,_,_,rfl,w,d⟩⟩
def qk.k{R:Nat->Int}{Uz:Array bq}{i u:List Nat}{X a:bH}{j:ao}{f l:Nat}{m:Array bq}{y B:Nat}{J b:Nat}(e:dE X a)(w:h1 R Uz i u m y B)(d:f+1+l<=y+B):qk R Uz i u X j f l (Y,m,y,B,J,b) a j:=⟨rfl,e,_,_,_,_,_,rfl,w,d⟩
def jx.a{R:Nat->Int}{Uz:Array bq}{i u:List Nat}{X b:bH}{j:ao}{f:Nat}{out:Array bq}{o:Array bq}{p r:Nat}{J c d:Nat}(e:dE X b)(E:hc R Uz i u out):jx R Uz i u X j f (Z out,o,p,r,J,c,d) b j:=⟨rfl,e,.inl ⟨_,_,_,_,_,_,_,rfl,E⟩⟩
def jx.b{R:Nat->Int}{Uz:Array bq}{i u:List Nat}{X a:bH}{j:ao}{f:Nat}{m:Array bq}{y B:Nat}{J g h:Nat}(e:dE X a)(w:h1 R Uz i u m y B)(d:f+2<=y+B):jx R Uz i u X j f (Y,m,y,B,J,g,h) a j:=⟨rfl,e,.inr ⟨_,_,_,_,_,_,rfl,w,d⟩⟩
def sm.k{R:Nat->Int}{Uz:Array bq}{i u:List Nat}{X a:bH}{j:ao}{f l:Nat}{m:Array bq}{y B:Nat}{J b c:Nat}(e:dE X a)(w:h1 R Uz i u m y B)(d:f+2<=y+B):sm R Uz i u X j f l (Y,m,y,B,J,b,c) a j:=⟨rfl,e,_,_,_,_,_,_,rfl,w,d⟩
def NA{g c:Nat}(e:g=c):(g==c)=aa:=by simp[e]
def Oj{g c:Nat}(e:¬ g=c):¬ (g==c)=aa:=by simp[e]
def lQ{aE:gn}{O:bB}{Uv:af->ao->Prop}{g:Nat}{M:List Nat}{f l:StateT x ef U1}{A:U1->x->ao->Prop}{X:x}{j:ao}(a:g=M.length->kasC aE O Uv f A X j)(b:¬ g=M.length->kasC aE O Uv l A X j):kasC aE O Uv (if (g==(List.map (bp Uz) M).toArray.size)=aa then f else l) A X j:=by
 rw[show (List.map (bp Uz) M).toArray.size=M.length by simp];by_cases e:g=M.length
 ·rw[aJ (NA e)];exact a e
 ·rw[aO (Oj e)];exact b e
def l2{aE:gn}{O:bB}{Uv:af->ao->Prop}{c:Decidable n}{f l:StateT x ef U1}{A:U1->x->ao->Prop}{X:x}{j:ao}(a:n->kasC aE O Uv f A X j)(b:¬ n->kasC aE O Uv l A X j):kasC aE O Uv (if n then f else l) A X j:=if e:n then by rw[aJ e];exact a e else by rw[aO e];exact b e
def K5(a:fT s R (fq UG C O UX Uz) j){q:Nat}(d:q<s){M:List Nat}(h:∀f∈M,f<s){UC:Nat}(l:UC<M.length)(mono:∀b w,UC<=b->b<=w->w<M.length->R (M.getD b 0)<=R (M.getD w 0)){X:bH}(i:kindOf X=UX){A:Option Nat->bH->ao->Prop}(e:∀r,UC+r<=M.length->(∀b,UC<=b->b<UC+r->R (M.getD b 0)<=R q)->(∀b,UC+r<=b->b<M.length->R q<R (M.getD b 0))->A (Z r) X j):
  kasC (aS UG C) O Uv (pR aq (bp Uz q) (M.map<|bp Uz).toArray UC ((M.map<|bp Uz).toArray.size-UC) 0) A X j:=by
 rw[show (M.map<|bp Uz).toArray.size=M.length by simp];exact w7 a d h ⋯ ⋯ (λb w g c n=>mono b w g c ⋯) i λr t z k=>e r ⋯ z λb g c=>k b g ⋯
def RY(a:fT s R (fq UG C O UX Uz) j){q:Nat}(d:q<s){M:List Nat}(h:∀f∈M,f<s){UC:Nat}(l:UC<M.length)(mono:∀b w,UC<=b->b<=w->w<M.length->R (M.getD b 0)<=R (M.getD w 0)){X:bH}(i:kindOf X=UX){A:Option Nat->bH->ao->Prop}(e:∀r,UC+r<=M.length->(∀b,UC<=b->b<UC+r->R (M.getD b 0)<R q)->(∀b,UC+r<=b->b<M.length->R q<=R (M.getD b 0))->A (Z r) X j):
  kasC (aS UG C) O Uv (pR aa (bp Uz q) (M.map<|bp Uz).toArray UC ((M.map<|bp Uz).toArray.size-UC) 0) A X j:=by
 rw[show (M.map<|bp Uz).toArray.size=M.length by simp];exact w0 a d h ⋯ ⋯ (λb w g c n=>mono b w g c ⋯) i λr t z k=>e r ⋯ z λb g c=>k b g ⋯
def QV(bd:fT s R (fq UG C O UX Uz) j){i u:List Nat}(be:∀f∈i,f<s)(bi:∀f∈u,f<s)(ex:cC R i)(fd:cC R u)(Vx:0<i.length)(t:0<u.length)(first:∀f∈i,R (u.getD 0 0)<=R f)(dh:∀f∈u,R f<=R (i.getD (i.length-1) 0)){X:bH}(ce:kindOf X=UX){A:Array bq->bH->ao->Prop}(e:∀out D,hc R Uz i u out->dE X D->A out D j):
  kasC (aS UG C) O Uv (Hv (i.map<|bp Uz).toArray (u.map<|bp Uz).toArray) A X j:=by
 have bm:[u.getD 0 0].Perm (i.take 0++u.take 1):=by
  have:=ko (M:=u) (b:=0) t;simp only[lY]at this;rw[this];exact List.Perm.refl _
 have bn:cC R ([u.getD 0 0]++u.drop 1):=by
  have:=ko (M:=u) (b:=0) t;simp only[lY]at this;rw[<-this,gf];exact fd
 have bs:cC R ([u.getD 0 0]++i.drop 0):=fv.mpr ⟨fJ _ _,by rw[lY];exact ex,λf d l v=>by
  rw[cD.mp d];exact first l (by rwa [lY]at v)⟩
 have hf:(List.map (bp Uz) i).toArray.size=i.length:=by simp
 have hm:(List.map (bp Uz) u).toArray.size=u.length:=by simp
 unfold Hv;with_unfolding_all refine br (ou<|iA ?_);refine br (f7 t ?_);refine lQ (λch=>bo<|e _ _ (qZ bm bs bn<|.inl ch)<|dE.refl X) λch=>?_;refine lQ (λci=>bo<|e _ _ (sT bm bs bn ci dh)<|dE.refl X) λci=>?_;refine br (j2 ?_);refine br (iw (a:=rG R Uz i u X j) (fQ (g6 (rm R Uz i u X j) ?step _ 0 _ _ _ ?fin (rm.k (dE.refl X) ⟨_,rfl,bm,bs,bn,⋯,⋯⟩ ⋯))) ?after)
 case after=>
  rintro n D Ux ⟨rfl,UH,co,m,y,B,J,rfl,al⟩;exact bo (e _ _ al UH)
 case fin=>
  rintro n D Ux ⟨rfl,UH,m,y,B,J,rfl,⟨k,rfl,E⟩,d⟩;have:=E.bQ;have:=E.hF;lia
 case step=>
  rintro f n D Ux ⟨rfl,UH,m,y,B,J,rfl,F,d⟩;refine br (iw (a:=kU R Uz i u X j f)
   (fQ (g6 (qk R Uz i u X j f) ?fn _ 0 _ _ _ ?fr (qk.k UH F ⋯))) ?f0)
  case fr=>
   rintro n D Ux ⟨rfl,UH,m,y,B,ac,Q,rfl,F,d⟩;exact kU.b UH F ⋯
  case fn=>
   rintro l n D Ux ⟨rfl,UH,m,y,B,ac,Q,rfl,⟨k,rfl,E⟩,d⟩;have am:=E.bQ;have x:=E.hF;have a1:kindOf D=UX:=UH.k.trans ce;have z:y<i.length:=⋯
   have aR:R (u.getD B 0)<R (i.getD y 0)->(k++[u.getD B 0]).Perm (i.take y++u.take (B+1))/\cC R (k++[u.getD B 0]++i.drop y)/\cC R (k++[u.getD B 0]++u.drop (B+1)):=λan=>by
    have:=wO 1 E.perm E.aN E.b8 (λf d l v=>by
     rw[ko x,cD]at d;let⟨@w,bG,S,rfl⟩:=ku v;have:=pj E.aN (bT _) bG S;rw[d];lia)
    rwa [ko x]at this
   have aX:¬ R (u.getD B 0)<R (i.getD y 0)->(k++[i.getD y 0]).Perm (i.take (y+1)++u.take B)/\cC R (k++[i.getD y 0]++i.drop (y+1))/\cC R (k++[i.getD y 0]++u.drop B):=λan=>by
    have:=t4 1 E.perm E.aN E.b8 (λf d l v=>by
     rw[ko z,cD]at d;let⟨@w,bG,S,rfl⟩:=ku v;have:=pj E.b8 (bT _) bG S;rw[d];lia)
    rwa [ko z]at this
   refine br (f7 x<|br<|f7 z<|br<|qM bd (jD bi x) (jD be z) a1 ?_);refine l2 (λan=>?_) λan=>?_
   ·have c:=aR ⇑an;refine br (f7 x (lQ (λH=>bo (kU.a UH (by rw[qw];exact qZ c.1 c.2.1 c.2.2 (.inl H)))) λH=>?_));have N:h1 R Uz i u ((k.map<|bp Uz).toArray.push<|bp Uz<|u.getD B 0) y (B+1):=⟨_,qw _ _,c.1,c.2.1,c.2.2,am,⋯⟩;exact l2 (λ_=>bo (kU.b UH N ⋯)) λ_=>bo (qk.k UH N ⋯)
   ·have c:=aX ⇑an;refine br (f7 z (lQ (λH=>bo (kU.a UH (by rw[qw];exact sT c.1 c.2.1 c.2.2 H dh))) λH=>?_));have N:h1 R Uz i u ((k.map<|bp Uz).toArray.push<|bp Uz<|i.getD y 0) (y+1) B:=⟨_,qw _ _,c.1,c.2.1,c.2.2,⋯,x⟩;exact l2 (λ_=>bo (kU.b UH N ⋯)) λ_=>bo (qk.k UH N ⋯)
  case f0=>
   rintro n D Ux ⟨rfl,UH,⟨co,m,y,B,ac,Q,rfl,al⟩|⟨m,y,B,ac,Q,rfl,F,d⟩⟩
   ·exact bo (rG.a UH al)
   ·refine br (ou<|iA ?_);refine br (iw (a:=jx R Uz i u X j f)
     (fQ (g6 (sm R Uz i u X j f) ?f4 _ 0 _ _ _ ?fin2 (sm.k UH F ⋯))) ?f8)
    case fin2=>
     rintro n D Ux ⟨rfl,UH,m,y,B,J,ac,Q,rfl,F,d⟩;exact jx.b UH F ⋯
    case f8=>
     rintro n D Ux ⟨rfl,UH,⟨co,m,y,B,J,ac,Q,rfl,al⟩|⟨m,y,B,J,ac,Q,rfl,F,d⟩⟩
     ·exact bo (rG.a UH al)
     ·refine br (lb ?_);exact bo (rm.k ⟨UH.k,UH.a,UH.p,UH.f⟩ F ⋯)
    case f4=>
     rintro l n D Ux ⟨rfl,UH,m,y,B,J,ac,Q,rfl,⟨k,cr,E⟩,d⟩;have am:=E.bQ;have x:=E.hF;dsimp only;revert J;refine GB (λJ=>J-1) ?z ?_
     case z=>exact λJ=>rfl
     intro J;refine br (FZ (r:=X) ⟨UH.k,UH.a,UH.p,UH.f⟩ λhw P=>?_);have a1:=P.k.trans ce;refine br (f7 x ?_);refine br (K5 bd (jD bi x) be (show y<i.length by lia) (λb w g c n=>pj E.aN g c n) a1 ?_);intro q h0 ga cs;dsimp only;generalize ap:m=Vb;generalize as:y=b;have UB:Vb=m/\b=y:=⟨ap.symm,as.symm⟩;clear ap as;revert Vb b;refine u1 (λVb b=>Vb=m/\b=y) (λVb b=>h1 R Uz i u Vb b B/\y<=b/\∀w,b<=w->w<i.length->R (u.getD B 0)<R (i.getD w 0)) ?UD ?f1 ?ge
     case f1=>
      rintro gl Vb b ⟨rfl,rfl⟩;exact⟨⟨k,cr,E⟩,bT _,λw g c=>cs w ⋯ c⟩
     case ge=>
      rintro h _ Vb b ⟨rfl,rfl⟩;try dsimp only
      have G:=t4 q E.perm E.aN E.b8 (λf d l v=>by
       let⟨@w,go,bG,rfl⟩:=qj d;let⟨@gt,bv,ca,rfl⟩:=ku v;have:=ga (b+w) ⋯ ⋯;have:=pj E.b8 (bT _) bv ca;lia)
      rw[cr,Er];refine lQ (λH=>bo<|jx.a P<|sT G.1 G.2.1 G.2.2 H dh) λH=>?_;refine lQ (λdb=>bo<|jx.a P<|qZ G.1 G.2.1 G.2.2<|.inr db) λdb=>?_;exact h _ _ ⟨⟨_,rfl,G.1,G.2.1,G.2.2,⋯,x⟩,⋯,λw g c=>cs w g c⟩
     case UD=>
      rintro Vb b ⟨⟨k,rfl,E⟩,le,g1⟩;have am:=E.bQ;try dsimp only
      refine br (f7 x ?_);have Vj:=wO 1 E.perm E.aN E.b8 (λf d l v=>by
       rw[ko x,cD]at d;let⟨@w,bG,S,rfl⟩:=ku v;have:=g1 w bG S;rw[d];lia)
      rw[ko x]at Vj;rw[qw];refine lQ (λds=>bo<|jx.a P<|qZ Vj.1 Vj.2.1 Vj.2.2<|.inl ds) λds=>?_;have z:b<i.length:=⋯
      refine br (f7 z ?_);refine br (RY bd (jD be z) bi (show B+1<u.length by lia) (λb w g c n=>pj Vj.2.2 g c n) a1 ?_);intro U9 ii g2 dL;dsimp only;generalize k++[u.getD B 0]=cd at *;generalize im:B+1=a2 at *;generalize ap:(List.map (bp Uz) cd).toArray=Vb;generalize as:a2=w;have UB:Vb=(List.map (bp Uz) cd).toArray/\w=a2:=⟨ap.symm,as.symm⟩;clear ap as;revert Vb w;refine u1 (λVb w=>Vb=(List.map (bp Uz) cd).toArray/\w=a2) (λVb w=>h1 R Uz i u Vb b w/\a2<=w/\∀I,w<=I->I<u.length->R (i.getD b 0)<=R (u.getD I 0)) ?UT ?f2 ?g3
      case f2=>
       rintro gl Vb w ⟨rfl,rfl⟩;exact⟨⟨_,rfl,Vj.1,Vj.2.1,Vj.2.2,am,⋯⟩,bT _,λI g c=>dL I ⋯ c⟩
      case g3=>
       rintro h _ Vb w ⟨rfl,rfl⟩;try dsimp only
       have U:=wO U9 Vj.1 Vj.2.1 Vj.2.2 (λf d l v=>by
        let⟨@I,go,bG,rfl⟩:=qj d;let⟨@gt,bv,ca,rfl⟩:=ku v;have:=g2 (w+I) ⋯ ⋯;have:=pj Vj.2.1 (bT _) bv ca;lia)
       rw[Er];refine lQ (λeq=>bo<|jx.a P<|qZ U.1 U.2.1 U.2.2<|.inl eq) λeq=>?_;exact h _ _ ⟨⟨_,rfl,U.1,U.2.1,U.2.2,am,⋯⟩,⋯,λI g c=>dL I g c⟩
      case UT=>
       rintro Vb w ⟨⟨k,rfl,E⟩,rE,hd⟩;have he:=E.hF;try dsimp only
       refine br (f7 z ?_);have T:=t4 1 E.perm E.aN E.b8 (λf d l v=>by
        rw[ko z,cD]at d;let⟨@I,bG,S,rfl⟩:=ku v;rw[d];exact hd I bG S)
       rw[ko z]at T;rw[qw];refine lQ (λev=>bo<|jx.a P<|sT T.1 T.2.1 T.2.2 ev dh) λev=>?_;have N:h1 R Uz i u ((k++[i.getD b 0]).map<|bp Uz).toArray (b+1) w:=⟨_,rfl,T.1,T.2.1,T.2.2,⋯,he⟩;exact l2 (λ_=>bo (jx.b P N ⋯)) λ_=>bo (sm.k P N ⋯)
end
section
variable{UG:bC}{C:bg}{O:bB}{Uv:af->ao->Prop}{UX:gY}{Uz:Array bq}{R:Nat->Int}{s:Nat}{j:ao}
def Ft:Array bq->Array bq->StateT bH ef (Array bq):=(sortPriv% PySem.Builtin.mergeHi)
variable{M:List Nat}{b w:Nat}
def z5(a:b<=w)(c:w<=M.length):M.drop b=(M.take w).drop b++M.drop w:=by
 have d:M.drop b=(M.take w++M.drop w).drop b:=by rw[gf]
 rw[d,List.drop_append_of_le_length (by rw[h2];lia)]
def MM(a:b<=w):M.take b++(M.take w).drop b=M.take w:=by
 have:=gf b (M.take w)
 rwa [tT,pb a]at this
variable{i u k:List Nat}{a x:Nat}
def ur(q:Nat)(g:q<=a)(j:a<=i.length)(perm:k.Perm (i.drop a++u.drop x))(aN:cC R (i.take a++k))(b8:cC R (u.take x++k))(e:∀f∈(i.take a).drop q,∀l∈u.take x,R l<=R f):
  ((i.take a).drop q++k).Perm (i.drop q++u.drop x)/\cC R (i.take q++((i.take a).drop q++k))/\cC R (u.take x++((i.take a).drop q++k)):=by
 refine⟨?_,?_,?_⟩
 ·rw[z5 g j,bu];exact ed _ perm
 ·rw[<-bu,MM g];exact aN
 ·have h:=fv.mp aN;have d:=fv.mp b8;refine fv.mpr ⟨d.1,fv.mpr ⟨h.1.sublist<|xu _ _,d.2.1,λf c l b=>h.2.2 f (mh c) l b⟩,λf c l b=>?_⟩;rcases dv.mp b with b|b
  ·exact e l b f c
  ·exact d.2.2 f c l b
def zY(q:Nat)(b:q<=x)(c:x<=u.length)(perm:k.Perm (i.drop a++u.drop x))(aN:cC R (i.take a++k))(b8:cC R (u.take x++k))(e:∀f∈(u.take x).drop q,∀l∈i.take a,R l<=R f):
  ((u.take x).drop q++k).Perm (i.drop a++u.drop q)/\cC R (i.take a++((u.take x).drop q++k))/\cC R (u.take q++((u.take x).drop q++k)):=by
 have:=ur (i:=u) (u:=i) q b c (perm.trans dy) b8 aN e;exact⟨this.1.trans dy,this.2.2,this.2.1⟩
def lI(Vx:0<b)(e:b<=M.length):(M.take b).drop (b-1)=[M.getD (b-1) 0]:=by
 rw[r2,show b-(b-1)=1 by lia];exact ko ⋯
variable{l:Nat}
def lV(e:l∈M.take b):∃w,w<b/\w<M.length/\l=M.getD w 0:=by
 have:=qj (b:=0) (q:=b) (l:=l) (M:=M) (by rwa [lY]);let⟨@w,g,c,d⟩:=this;exact⟨w,g,⋯,by rw[d];congr 1;lia⟩
variable{q:Nat}
def Dh(e:l∈(M.take q).drop b):∃w,b<=w/\w<q/\w<M.length/\l=M.getD w 0:=by
 rw[r2]at e;let⟨@w,g,c,d⟩:=qj e;exact⟨b+w,⋯,⋯,c,d⟩
def ps(e:cC R (M.take b++k))(a:w<=q)(c:q<b)(d:q<M.length):R (M.getD w 0)<=R (M.getD q 0):=by
 have:=oF (fv.mp e).1 (b:=w) (w:=q) a (by rw[h2];lia);simpa [List.getD,oK,show w<b by lia,c] using this
def rf(perm:k.Perm (i.drop a++u.drop x))(aN:cC R (i.take a++k))(b8:cC R (u.take x++k))(b:a=0\/x=0):
  hc R Uz i u ((i.map<|bp Uz).toArray.extract 0 a++(u.map<|bp Uz).toArray.extract 0 x++(k.reverse.map<|bp Uz).toArray.reverse):=by
 refine⟨i.take a++u.take x++k,?_,?_,?_⟩
 ·apply kO;simp[lg]
 ·refine (ed _ perm).trans ?_;have:(i.take a++u.take x++(i.drop a++u.drop x)).Perm ((i.take a++i.drop a)++(u.take x++u.drop x)):=by
   rw[bu,bu];refine ed _ ?_;rw[<-bu,<-bu];exact fg _ dy
  rw[gf,gf]at this;exact this
 ·rcases b with d|d
  ·rw[d,yR,lF];exact b8
  ·rw[d,yR,b_];exact aN
def vL(perm:k.Perm (i.drop a++u.drop x))(aN:cC R (i.take a++k))(b8:cC R (u.take x++k))(d:x=1)(first:∀f∈i,R (u.getD 0 0)<=R f):
  hc R Uz i u ((u.map<|bp Uz).toArray.extract 0 x++(i.map<|bp Uz).toArray.extract 0 a++(k.reverse.map<|bp Uz).toArray.reverse):=by
 refine⟨u.take x++i.take a++k,?_,?_,?_⟩
 ·apply kO;simp[lg]
 ·refine (ed _ perm).trans ?_;have:(u.take x++i.take a++(i.drop a++u.drop x)).Perm ((i.take a++i.drop a)++(u.take x++u.drop x)):=by
   rw[bu,<-bu (i.take a),<-bu (i.take a++i.drop a)];rw[<-bu (u.take x)];exact fg _ dy
  rw[gf,gf]at this;exact this
 ·rw[bu];refine fv.mpr ⟨(fv.mp b8).1,aN,λf c l b=>?_⟩;rcases dv.mp b with b|b
  ·let⟨@w,t,z,rfl⟩:=lV c;have:w=0:=⋯
   rw[this];exact first l (qn b)
  ·exact (fv.mp b8).2.2 f c l b
def pC(k:List Nat)(l:Nat):(k.reverse.map<|bp Uz).toArray.push (bp Uz l)=(([l]++k).reverse.map<|bp Uz).toArray:=by simp
def EL(k M:List Nat)(b q:Nat):(k.reverse.map<|bp Uz).toArray++((M.map<|bp Uz).toArray.extract b q).reverse=(((M.take q).drop b++k).reverse.map<|bp Uz).toArray:=by
 apply kO;simp[mj,lg,r2]
structure MF(R:Nat->Int)(i u:List Nat)(k:List Nat)(a x:Nat):Prop where
 perm:k.Perm (i.drop a++u.drop x)
 aN:cC R (i.take a++k)
 b8:cC R (u.take x++k)
 bQ:0<a
 hF:1<x
 w3:a<=i.length
 wF:x<=u.length
def ia(R:Nat->Int)(Uz:Array bq)(i u:List Nat)(out:Array bq)(a x:Nat):Prop:=(∃k:List Nat,out=(k.reverse.map<|bp Uz).toArray/\MF R i u k a x)
end
section
variable{UG:bC}{C:bg}{O:bB}{Uv:af->ao->Prop}{UX:gY}{Uz:Array bq}{R:Nat->Int}{s:Nat}{j:ao}
def qH(R:Nat->Int)(Uz:Array bq)(i u:List Nat)(X:bH)(j:ao): Option (Array bq)×Nat×Nat×Array bq×Nat->bH->ao->Prop:=(λn b Ux=>j=Ux/\dE X b/\∃a o p r J,n=(Z a,o,p,r,J)/\hc R Uz i u a)
def qV(R:Nat->Int)(Uz:Array bq)(i u:List Nat)(X:bH)(j:ao)(f:Nat):Option (Array bq)×Nat×Nat×Array bq×Nat->bH->ao->Prop:=(λn b Ux=>j=Ux/\dE X b/\∃a x m J,n=(Y,a,x,m,J)/\ia R Uz i u m a x/\a+x+f+1<=i.length+u.length)
def kQ(R:Nat->Int)(Uz:Array bq)(i u:List Nat)(X:bH)(j:ao)(f:Nat):Option (Array bq)×Nat×Nat×Array bq×Nat×Nat->bH->ao->Prop:=(λn d Ux=>j=Ux/\dE X d/\((∃c o p r ac b,n=(Z c,o,p,r,ac,b)/\hc R Uz i u c)\/∃a x m ac b,n=(Y,a,x,m,ac,b)/\ia R Uz i u m a x/\a+x+f+2<=i.length+u.length))
def oY(R:Nat->Int)(Uz:Array bq)(i u:List Nat)(X:bH)(j:ao)(f l:Nat):Option (Array bq)×Nat×Nat×Array bq×Nat×Nat->bH->ao->Prop:=(λn b Ux=>j=Ux/\dE X b/\∃a x m ac c,n=(Y,a,x,m,ac,c)/\ia R Uz i u m a x/\a+x+f+1+l<=i.length+u.length)
def jQ(R:Nat->Int)(Uz:Array bq)(i u:List Nat)(X:bH)(j:ao)(f:Nat):Option (Array bq)×Nat×Nat×Array bq×Nat×Nat×Nat->bH->ao->Prop:=(λn d Ux=>j=Ux/\dE X d/\((∃c o p r J ac b,n=(Z c,o,p,r,J,ac,b)/\hc R Uz i u c)\/∃a x m J ac b,n=(Y,a,x,m,J,ac,b)/\ia R Uz i u m a x/\a+x+f+2<=i.length+u.length))
def sE(R:Nat->Int)(Uz:Array bq)(i u:List Nat)(X:bH)(j:ao)(f l:Nat):Option (Array bq)×Nat×Nat×Array bq×Nat×Nat×Nat->bH->ao->Prop:=(λn b Ux=>j=Ux/\dE X b/\∃a x m J ac c,n=(Y,a,x,m,J,ac,c)/\ia R Uz i u m a x/\a+x+f+2<=i.length+u.length)
def qH.a{R:Nat->Int}{Uz:Array bq}{i u:List Nat}{X b:bH}{j:ao}{out:Array bq}{o p:Nat}{r:Array bq}{J:Nat}(e:dE X b)(E:hc R Uz i u out):qH R Uz i u X j (Z out,o,p,r,J) b j:=⟨rfl,e,_,_,_,_,_,rfl,E⟩
def qV.k{R:Nat->Int}{Uz:Array bq}{i u:List Nat}{X b:bH}{j:ao}{f:Nat}{a x:Nat}{m:Array bq}{J:Nat}(e:dE X b)(w:ia R Uz i u m a x)(d:a+x+f+1<=i.length+u.length):qV R Uz i u X j f (Y,a,x,m,J) b j:=⟨rfl,e,_,_,_,_,rfl,w,d⟩
def kQ.a{R:Nat->Int}{Uz:Array bq}{i u:List Nat}{X b:bH}{j:ao}{f:Nat}{out:Array bq}{o p:Nat}{r:Array bq}{J c:Nat}(e:dE X b)(E:hc R Uz i u out):kQ R Uz i u X j f (Z out,o,p,r,J,c) b j:=⟨rfl,e,.inl ⟨_,_,_,_,_,_,rfl,E⟩⟩
def kQ.b{R:Nat->Int}{Uz:Array bq}{i u:List Nat}{X g:bH}{j:ao}{f:Nat}{a x:Nat}{m:Array bq}{J h:Nat}(e:dE X g)(w:ia R Uz i u m a x)(d:a+x+f+2<=i.length+u.length):kQ R Uz i u X j f (Y,a,x,m,J,h) g j:=⟨rfl,e,.inr ⟨_,_,_,_,_,rfl,w,d⟩⟩
def oY.k{R:Nat->Int}{Uz:Array bq}{i u:List Nat}{X b:bH}{j:ao}{f l:Nat}{a x:Nat}{m:Array bq}{J c:Nat}(e:dE X b)(w:ia R Uz i u m a x)(d:a+x+f+1+l<=i.length+u.length):oY R Uz i u X j f l (Y,a,x,m,J,c) b j:=⟨rfl,e,_,_,_,_,_,rfl,w,d⟩
def jQ.a{R:Nat->Int}{Uz:Array bq}{i u:List Nat}{X b:bH}{j:ao}{f:Nat}{out:Array bq}{o p:Nat}{r:Array bq}{J c d:Nat}(e:dE X b)(E:hc R Uz i u out):jQ R Uz i u X j f (Z out,o,p,r,J,c,d) b j:=⟨rfl,e,.inl ⟨_,_,_,_,_,_,_,rfl,E⟩⟩
def jQ.b{R:Nat->Int}{Uz:Array bq}{i u:List Nat}{X g:bH}{j:ao}{f:Nat}{a x:Nat}{m:Array bq}{J h k:Nat}(e:dE X g)(w:ia R Uz i u m a x)(d:a+x+f+2<=i.length+u.length):jQ R Uz i u X j f (Y,a,x,m,J,h,k) g j:=⟨rfl,e,.inr ⟨_,_,_,_,_,_,rfl,w,d⟩⟩
def sE.k{R:Nat->Int}{Uz:Array bq}{i u:List Nat}{X b:bH}{j:ao}{f l:Nat}{a x:Nat}{m:Array bq}{J c g:Nat}(e:dE X b)(w:ia R Uz i u m a x)(d:a+x+f+2<=i.length+u.length):sE R Uz i u X j f l (Y,a,x,m,J,c,g) b j:=⟨rfl,e,_,_,_,_,_,_,rfl,w,d⟩
def mg{aE:gn}{O:bB}{Uv:af->ao->Prop}{x U1:Type}{g c:Nat}{f l:StateT x ef U1}{A:U1->x->ao->Prop}{X:x}{j:ao}(a:g=c->kasC aE O Uv f A X j)(b:¬ g=c->kasC aE O Uv l A X j):kasC aE O Uv (if (g==c)=aa then f else l) A X j:=l2 (λe=>a ⇑e) λe=>b ⇑e
def Mo(bn:fT s R (fq UG C O UX Uz) j){i u:List Nat}(bs:∀f∈i,f<s)(bv:∀f∈u,f<s)(f4:cC R i)(f8:cC R u)(Vx:0<i.length)(t:0<u.length)(first:∀f∈i,R (u.getD 0 0)<=R f)(dh:∀f∈u,R f<=R (i.getD (i.length-1) 0)){X:bH}(db:kindOf X=UX){A:Array bq->bH->ao->Prop}(e:∀out z,hc R Uz i u out->dE X z->A out z j):
  kasC (aS UG C) O Uv (Ft (i.map<|bp Uz).toArray (u.map<|bp Uz).toArray) A X j:=by
 have be:(List.map (bp Uz) i).toArray.size=i.length:=by simp
 have bi:(List.map (bp Uz) u).toArray.size=u.length:=by simp
 have ca:=lI Vx (bT _);rw[p9]at ca;have cd:[i.getD (i.length-1) 0].Perm (i.drop (i.length-1)++u.drop u.length):=by
  rw[ca,xr];exact List.Perm.refl _
 have ce:cC R (i.take (i.length-1)++[i.getD (i.length-1) 0]):=by
  rw[<-ca,gf];exact f4
 have ch:cC R (u.take u.length++[i.getD (i.length-1) 0]):=fv.mpr ⟨by rw[p9];exact f8,fJ _ _,λf d l v=>by
  rw[cD.mp v];exact dh f (by rwa [p9]at d)⟩
 unfold Ft;with_unfolding_all refine br (ou<|iA ?_);refine br (f7 (show (List.map (bp Uz) i).toArray.size-1<i.length by lia) ?_);refine mg (λci=>bo (e _ _ (by rw[be]at ci;rw[be,bi];exact rf cd ce ch (.inl ci))<|dE.refl X)) λci=>?_;refine mg (λcl=>bo (e _ _ (by rw[bi]at cl;rw[be,bi];exact vL cd ce ch cl first)<|dE.refl X)) λcl=>?_;refine br (j2 ?_);refine br (iw (a:=qH R Uz i u X j) (fQ (g6 (qV R Uz i u X j) ?step _ 0 _ _ _ ?fin (qV.k (dE.refl X) (by rw[be,bi];exact⟨_,rfl,cd,ce,ch,⋯,⋯,⋯,⋯⟩) ⋯))) ?after)
 case after=>
  rintro n z Ux ⟨rfl,UH,dL,m,y,B,J,rfl,an⟩;exact bo (e _ _ an UH)
 case fin=>
  rintro n z Ux ⟨rfl,UH,a,x,m,J,rfl,⟨k,rfl,E⟩,d⟩;have:=E.bQ;have:=E.hF;lia
 case step=>
  rintro f n z Ux ⟨rfl,UH,a,x,m,J,rfl,F,d⟩;refine br (iw (a:=kQ R Uz i u X j f)
   (fQ (g6 (oY R Uz i u X j f) ?ga _ 0 _ _ _ ?ge (oY.k UH F ⋯))) ?gl)
  case ge=>
   rintro n z Ux ⟨rfl,UH,a,x,m,ac,T,rfl,F,d⟩;exact kQ.b UH F ⋯
  case ga=>
   rintro l n z Ux ⟨rfl,UH,a,x,m,ac,T,rfl,⟨k,rfl,E⟩,d⟩;have G:=E.bQ;have co:=E.hF;have D:=E.w3;have H:=E.wF;have bm:kindOf z=UX:=UH.k.trans db;have M:a-1<i.length:=⋯
   have U:x-1<u.length:=⋯
   have aR:R (u.getD (x-1) 0)<R (i.getD (a-1) 0)->_:=λap=>by
    have:=ur (a-1) ⋯ D E.perm E.aN E.b8 (λf d l v=>by
     rw[lI G D,cD]at d;let⟨@w,bG,as,rfl⟩:=lV v;have:=ps E.b8 (show w<=x-1 by lia) ⋯ ⋯;rw[d];lia)
    rw[lI G D]at this;exact this
   have aX:¬ R (u.getD (x-1) 0)<R (i.getD (a-1) 0)->_:=λap=>by
    have:=zY (x-1) ⋯ H E.perm E.aN E.b8 (λf d l v=>by
     rw[lI ⋯ H,cD]at d;let⟨@w,bG,as,rfl⟩:=lV v;have:=ps E.aN (show w<=a-1 by lia) ⋯ ⋯;rw[d];lia)
    rw[lI ⋯ H]at this;exact this
   refine br (f7 U<|br<|f7 M<|br<|qM bn (jD bv U) (jD bs M) bm ?_);refine l2 (λap=>?_) λap=>?_
   ·have c:=aR ⇑ap;refine br (f7 M (mg (λP=>bo (kQ.a UH (by rw[pC];exact rf c.1 c.2.1 c.2.2 (.inl P)))) λP=>?_));have Q:ia R Uz i u ((k.reverse.map<|bp Uz).toArray.push<|bp Uz<|i.getD (a-1) 0) (a-1) x:=⟨_,pC _ _,c.1,c.2.1,c.2.2,⋯,co,⋯,H⟩;exact l2 (λ_=>bo (kQ.b UH Q ⋯)) λ_=>bo (oY.k UH Q ⋯)
   ·have c:=aX ⇑ap;refine br (f7 U (mg (λP=>bo (kQ.a UH (by rw[pC];exact vL c.1 c.2.1 c.2.2 P first))) λP=>?_));have Q:ia R Uz i u ((k.reverse.map<|bp Uz).toArray.push<|bp Uz<|u.getD (x-1) 0) a (x-1):=⟨_,pC _ _,c.1,c.2.1,c.2.2,G,⋯,D,⋯⟩;exact l2 (λ_=>bo (kQ.b UH Q ⋯)) λ_=>bo (oY.k UH Q ⋯)
  case gl=>
   rintro n z Ux ⟨rfl,UH,⟨dL,m,y,B,ac,T,rfl,an⟩|⟨a,x,m,ac,T,rfl,F,d⟩⟩
   ·exact bo (qH.a UH an)
   ·refine br (ou<|iA ?_);refine br (iw (a:=jQ R Uz i u X j f)
     (fQ (g6 (sE R Uz i u X j f) ?go _ 0 _ _ _ ?fin2 (sE.k UH F ⋯))) ?gt)
    case fin2=>
     rintro n z Ux ⟨rfl,UH,a,x,m,J,ac,T,rfl,F,d⟩;exact jQ.b UH F ⋯
    case gt=>
     rintro n z Ux ⟨rfl,UH,⟨dL,m,y,B,J,ac,T,rfl,an⟩|⟨a,x,m,J,ac,T,rfl,F,d⟩⟩
     ·exact bo (qH.a UH an)
     ·refine br (lb ?_);exact bo (qV.k ⟨UH.k,UH.a,UH.p,UH.f⟩ F ⋯)
    case go=>
     rintro l n z Ux ⟨rfl,UH,a,x,m,J,ac,T,rfl,⟨k,eq,E⟩,d⟩;have G:=E.bQ;have co:=E.hF;have D:=E.w3;have H:=E.wF;have U:x-1<u.length:=⋯
     dsimp only;revert J;refine GB (λJ=>J-1) ?M ?_
     case M=>exact λJ=>rfl
     intro J;refine br (FZ (r:=X) ⟨UH.k,UH.a,UH.p,UH.f⟩ λio S=>?_);have bm:=S.k.trans db;refine br (f7 U ?_);refine br (w7 bn (jD bv U) bs (UC:=0) (E:=a) (a:=a-1) ⋯ ⋯ (λb w g c n=>ps E.aN c ⋯ ⋯) bm ?_);intro q it ev g2;dsimp only;generalize jp:a-q=kt;generalize a1:m=Vb;generalize a2:a=b;have UB:Vb=m/\b=a:=⟨a1.symm,a2.symm⟩;clear a1 a2;revert Vb b;refine u1 (λVb b=>Vb=m/\b=a) (λVb b=>ia R Uz i u Vb b x/\b<=a/\∀w,w<b->R (i.getD w 0)<=R (u.getD (x-1) 0)) ?UD ?f1 ?g3
     case f1=>
      rintro hd Vb b ⟨rfl,rfl⟩;exact⟨⟨k,eq,E⟩,bT _,λw g=>ev w ⋯ ⋯⟩
     case g3=>
      rintro h _ Vb b ⟨rfl,rfl⟩;try dsimp only
      have am:=ur q ⋯ D E.perm E.aN E.b8 (λf d l v=>by
       let⟨@w,he,bG,as,rfl⟩:=Dh d;let⟨@cr,hf,hm,rfl⟩:=lV v;have:=g2 w ⋯ ⋯;have:=ps E.b8 (show cr<=x-1 by lia) ⋯ ⋯;lia)
      rw[eq,EL];refine mg (λP=>bo<|jQ.a S<|rf am.1 am.2.1 am.2.2<|.inl P) λP=>?_;exact h _ _ ⟨⟨_,rfl,am.1,am.2.1,am.2.2,⋯,co,⋯,H⟩,⋯,λw g=>ev w ⋯ ⋯⟩
     case UD=>
      rintro Vb b ⟨⟨k,rfl,E⟩,le,hw⟩;have G:=E.bQ;have D:=E.w3;have M:b-1<i.length:=⋯
      try dsimp only
      refine br (f7 U ?_);have Vj:=zY (x-1) ⋯ H E.perm E.aN E.b8 (λf d l v=>by
       rw[lI ⋯ H,cD]at d;let⟨@w,bG,as,rfl⟩:=lV v;rw[d];exact hw w bG)
      rw[lI ⋯ H]at Vj;rw[pC];refine mg (λex=>bo<|jQ.a S<|vL Vj.1 Vj.2.1 Vj.2.2 ex first) λex=>?_;refine br (f7 M ?_);refine br (w0 bn (jD bs M) bv (UC:=0) (E:=x-1) (a:=x-1-1) ⋯ ⋯ (λb w g c n=>ps Vj.2.2 c ⋯ ⋯) bm ?_);intro U9 kw fd h0;dsimp only;generalize [u.getD (x-1) 0]++k=cs at *;generalize lc:x-1=bd at *;generalize lf:bd-U9=dI;generalize a1:(List.map (bp Uz) cs.reverse).toArray=Vb;generalize a2:bd=w;have UB:Vb=(List.map (bp Uz) cs.reverse).toArray/\w=bd:=⟨a1.symm,a2.symm⟩;clear a1 a2;revert Vb w;refine u1 (λVb w=>Vb=(List.map (bp Uz) cs.reverse).toArray/\w=bd) (λVb w=>ia R Uz i u Vb b w/\w<=bd/\∀I,I<w->R (u.getD I 0)<R (i.getD (b-1) 0)) ?UT ?f2 ?ii
      case f2=>
       rintro hd Vb w ⟨rfl,rfl⟩;exact⟨⟨_,rfl,Vj.1,Vj.2.1,Vj.2.2,G,⋯,D,⋯⟩,bT _,λI g=>fd I ⋯ ⋯⟩
      case ii=>
       rintro h _ Vb w ⟨rfl,rfl⟩;try dsimp only
       have N:=zY U9 ⋯ (show w<=u.length by lia) Vj.1 Vj.2.1 Vj.2.2 (λf d l v=>by
        let⟨@I,he,bG,as,rfl⟩:=Dh d;let⟨@cr,hf,hm,rfl⟩:=lV v;have:=h0 I ⋯ ⋯;have:=ps Vj.2.1 (show cr<=b-1 by lia) ⋯ ⋯;lia)
       rw[EL];refine mg (λfn=>bo<|jQ.a S<|vL N.1 N.2.1 N.2.2 fn first) λfn=>?_;refine mg (λfr=>bo<|jQ.a S<|rf N.1 N.2.1 N.2.2<|.inr fr) λfr=>?_;exact h _ _ ⟨⟨_,rfl,N.1,N.2.1,N.2.2,G,⋯,D,⋯⟩,⋯,λI g=>fd I ⋯ ⋯⟩
      case UT=>
       rintro Vb w ⟨⟨k,rfl,E⟩,rE,im⟩;try dsimp only
       refine br (f7 M ?_);have al:=ur (b-1) ⋯ D E.perm E.aN E.b8 (λf d l v=>by
        rw[lI G D,cD]at d;let⟨@I,bG,as,rfl⟩:=lV v;have:=im I bG;rw[d];lia)
       rw[lI G D]at al;rw[pC];refine mg (λf0=>bo<|jQ.a S<|rf al.1 al.2.1 al.2.2<|.inl f0) λf0=>?_;have Q:ia R Uz i u (([i.getD (b-1) 0]++k).reverse.map<|bp Uz).toArray (b-1) w:=⟨_,rfl,al.1,al.2.1,al.2.2,⋯,E.hF,⋯,E.wF⟩;exact l2 (λ_=>bo (jQ.b S Q ⋯)) λ_=>bo (sE.k S Q ⋯)
def Na{x:Type}{aE:gn}{A:PUnit->x->ao->Prop}{X a:x}{j:ao}(e:A ⟨⟩ a j):kasC aE O Uv (set a:StateT x ef PUnit) A X j:=by
 unfold kasC;rw[StateT.run_set];exact a_ e
theorem z6{U1:Type}:∀(M:List U1) (a:List U1) (p c VF:Nat),p+M.length<=a.length->p=VF+c->((M.zipIdx c).foldl (λ(g:Array U1) (f:U1×Nat)=>g.setIfInBounds (VF+f.2) f.1) a.toArray)=(a.take p++M++a.drop (p+M.length)).toArray
 |[],a,p,c,VF,e,d=>by simp
 |f::M,a,p,c,VF,e,d=>by
  rw[dT]at e;rw[rQ,mU];dsimp only;rw[<-d,Eg,z6 M (a.set p f) (p+1) (c+1) VF (by rw[wm];lia) ⋯];congr 1;have h:(a.set p f).take (p+1)=a.take p++[f]:=by
   apply qm;intro b;rw[oK,List.getElem?_append,h2,oK,Ht];by_cases t:b<p
   ·rw[aJ ⋯,aO ⋯,aJ ⋯,aJ t]
   ·by_cases z:b=p
    ·subst z;rw[aJ ⋯,aJ rfl,aJ ⋯,aO ⋯];simp[show b-min b a.length=0 by lia]
    ·rw[aO ⋯,aO ⋯];rw[yW];rw[kK];lia
  have i:(a.set p f).drop (p+1+M.length)=a.drop (p+(M.length+1)):=by
   apply qm;intro b;rw[nq,nq,Ht,aO ⋯];congr 1;lia
  rw[h,i,dT,bu,bu,bu];rfl
def G8{a c k:List Nat}{q E:Nat}(m:cC R a)(n:cC R c)(r:0<c.length)(s:0<a.length)(t:∀f∈a.take q,R f<=R (c.getD 0 0))(o:∀f∈c.drop E,R (a.getD (a.length-1) 0)<=R f)(i:k.Perm (a.drop q++c.take E))(sp:cC R k):cC R (a.take q++k++c.drop E)/\(a.take q++k++c.drop E).Perm (a++c):=by
 have S:∀l∈c,R (c.getD 0 0)<=R l:=λl e=>by
  let⟨@w,W,j,rfl⟩:=ku (b:=0) (M:=c) (by rwa [lY]);exact oF n (lB _) j
 have p:∀f∈a,R f<=R (a.getD (a.length-1) 0):=λf d=>by
  let⟨@w,W,j,rfl⟩:=ku (b:=0) (M:=a) (by rwa [lY]);exact oF m (by omega) (by omega)
 have g:cC R (a.take q++a.drop q):=by rwa [gf]
 have h:cC R (c.take E++c.drop E):=by rwa [gf]
 have g:=fv.mp g;have h:=fv.mp h;refine⟨fv.mpr ⟨fv.mpr ⟨g.1,sp,λf d l e=>?_⟩,h.2.1,λf d l e=>?_⟩,?_⟩
 ·rcases dv.mp (i.mem_iff.mp e) with e|e
  ·exact g.2.2 f d l e
  ·exact zd (t f d) (S l<|qn e)
 ·rcases dv.mp d with d|d
  ·exact zd (t f d) (S l<|mh e)
  ·rcases dv.mp (i.mem_iff.mp d) with d|d
   ·exact zd (p f<|mh d) (o l e)
   ·exact h.2.2 f d l e
 ·refine (fg _<|ed _ i).trans ?_;rw[<-bu,gf,bu,gf]
def IV(P:fT s R (fq UG C O UX Uz) j){h:List Nat}(D:∀f∈h,f<s){b aN a x bi fd:Nat}{X:bH}(v:PyProof.Rows.kindOf X=UX)(fn:arrOf X=(h.map<|bp Uz).toArray)(Q:iu X=Y)(Uw:(ik X)[b]?=Z (aN,a,bi))(H:(ik X)[b+1]?=Z (aN+a,x,fd))(fr:0<a)(bm:0<x)(gl:aN+a+x<=h.length)(y:cC R ((h.drop aN).take a))(z:cC R ((h.drop<|aN+a).take x)){A:Bool->bH->ao->Prop}(e:∀mid r,PyProof.Rows.kindOf r=UX->iu r=Y->ik r=((ik X).setIfInBounds b (aN,a+x,bi)).eraseIdxIfInBounds (b+1)->mid.Perm ((h.drop aN).take<|a+x)->cC R mid->
   arrOf r=((h.take aN++mid++h.drop (aN+(a+x))).map<|bp Uz).toArray->A aa r j):
  kasC (aS UG C) O Uv (tO b) A X j:=by
 have bn:((h.drop aN).take a).length=a:=by rw[h2,gQ];lia
 have f0:((h.drop<|aN+a).take x).length=x:=by rw[h2,gQ];lia
 have F:∀w,w<a->((h.drop aN).take a).getD w 0=h.getD (aN+w) 0:=λw H=>by simp[List.getD,oK,nq,H]
 have G:∀w,w<x->((h.drop<|aN+a).take x).getD w 0=h.getD (aN+a+w) 0:=λw H=>by simp[List.getD,oK,nq,H]
 have S:(h.drop aN).take a++(h.drop<|aN+a).take x=(h.drop aN).take (a+x):=by rw[<-oS,pQ]
 have bs:h.take aN++(h.drop aN).take (a+x)++h.drop (aN+(a+x))=h:=by rw[pQ,gf]
 have bv:∀b w,aN<=b->b<=w->w<aN+a->R (h.getD b 0)<=R (h.getD w 0):=λb w g c n=>by
  have:=oF y (b:=b-aN) (w:=w-aN) ⋯ ⋯
  rwa [F _ ⋯,F _ ⋯,show aN+(b-aN)=b by lia,show aN+(w-aN)=w by lia]at this
 have ca:∀b w,aN+a<=b->b<=w->w<aN+a+x->R (h.getD b 0)<=R (h.getD w 0):=λb w g c n=>by
  have:=oF z (b:=b-(aN+a)) (w:=w-(aN+a)) ⋯ ⋯
  rwa [G _ ⋯,G _ ⋯,show aN+a+(b-(aN+a))=b by lia,show aN+a+(w-(aN+a))=w by lia]at this
 have B:∀f∈(h.drop aN).take a,∃w,aN<=w/\w<aN+a/\f=h.getD w 0:=λf m=>by
  let⟨@w,I,bG,rfl⟩:=qj m;exact⟨aN+w,⋯,⋯,rfl⟩
 have cd:∀f∈(h.drop<|aN+a).take x,∃w,aN+a<=w/\w<aN+a+x/\f=h.getD w 0:=λf m=>by
  let⟨@w,I,bG,rfl⟩:=qj m;exact⟨aN+a+w,⋯,⋯,rfl⟩
 unfold tO;with_unfolding_all refine br (j2 ?_);simp only[Uw,H,fn];refine br (Na ?_);refine br (f7 (show aN+a<h.length by lia) ?_);refine br (w7 P (jD D (show aN+a<h.length by lia)) D (UC:=aN) (E:=a) (a:=0) ⋯ fr bv (by exact v) ?_);intro q ce ch f2;dsimp only;by_cases ci:a-q=0
 ·rw[aJ ⇑ci];refine bo (e _ _ (by exact v) (by exact Q) rfl (List.Perm.refl _) ?_ ?_)
  ·rw[<-S];refine fv.mpr ⟨y,z,λf m l T=>?_⟩;let⟨@w,bG,f4,rfl⟩:=B f m;let⟨@U,cl,al,rfl⟩:=cd l T;have:=ch w bG ⋯;have:=ca (aN+a) U ⋯ cl al;lia
  ·rw[bs]
 rw[aO ⇑ci];rw[show aN+q+(a-q)-1=aN+a-1 by lia];refine br (f7 (show aN+a-1<h.length by lia) ?_);refine br (w0 P (jD D (show aN+a-1<h.length by lia)) D (UC:=aN+a) (E:=x) (a:=x-1) ⋯ ⋯ ca (by exact v) ?_);intro i am f8 co;dsimp only;by_cases cr:i=0
 ·rw[aJ ⇑cr];refine bo (e _ _ (by exact v) (by exact Q) rfl (List.Perm.refl _) ?_ ?_)
  ·rw[<-S];refine fv.mpr ⟨y,z,λf m l T=>?_⟩;let⟨@w,bG,f4,rfl⟩:=B f m;let⟨@U,cl,al,rfl⟩:=cd l T;have:=co U ⋯ al;have:=bv w (aN+a-1) bG ⋯ ⋯;lia
  ·rw[bs]
 rw[aO ⇑cr];have ga:(h.map<|bp Uz).toArray.extract (aN+q) (aN+a)=((((h.drop aN).take a).drop q).map<|bp Uz).toArray:=by
  apply kO;simp only[BW,List.extract_eq_drop_take,mj,lg];rw[r2,oS,show aN+a-(aN+q)=a-q by lia]
 have ge:(h.map<|bp Uz).toArray.extract (aN+a) (aN+a+i)=((((h.drop<|aN+a).take x).take i).map<|bp Uz).toArray:=by
  apply kO;simp only[BW,List.extract_eq_drop_take,mj,lg];rw[tT,pb am,show aN+a+i-(aN+a)=i by lia]
 rw[ga,ge];have t:∀f∈((h.drop aN).take a).take q,R f<=R (((h.drop<|aN+a).take x).getD 0 0):=λf m=>by
  rw[G 0 bm];let⟨@w,I,bG,rfl⟩:=lV m;rw[F w ⋯];exact ch _ ⋯ ⋯
 have cs:∀f∈((h.drop<|aN+a).take x).drop i,R (((h.drop aN).take a).getD (((h.drop aN).take a).length-1) 0)<=R f:=λf m=>by
  rw[bn,F _ ⋯];let⟨@w,I,bG,rfl⟩:=ku m;rw[G w ⋯,show aN+(a-1)=aN+a-1 by lia];exact co _ ⋯ ⋯
 have db:∀f∈((h.drop aN).take a).drop q,R ((((h.drop<|aN+a).take x).take i).getD 0 0)<=R f:=λf m=>by
  rw[show (((h.drop<|aN+a).take x).take i).getD 0 0=((h.drop<|aN+a).take x).getD 0 0 by simp only[List.getD,oK,aJ (show 0<i by lia)],G 0 bm];let⟨@w,I,bG,rfl⟩:=ku m;rw[F w ⋯];have:=f2 (aN+w) ⋯ ⋯;rw[CF];lia
 have an:(((h.drop aN).take a).drop q).length=a-q:=by rw[gQ,bn]
 have ds:(((h.drop<|aN+a).take x).take i).length=i:=by rw[h2,f0];lia
 have dL:∀f∈((h.drop<|aN+a).take x).take i,R f<=R ((((h.drop aN).take a).drop q).getD ((((h.drop aN).take a).drop q).length-1) 0):=λf m=>by
  rw[an,show (((h.drop aN).take a).drop q).getD (a-q-1) 0=((h.drop aN).take a).getD (a-1) 0 by simp only[List.getD,nq,show q+(a-q-1)=a-1 by lia],F _ ⋯,show aN+(a-1)=aN+a-1 by lia];let⟨@w,I,bG,rfl⟩:=lV m;rw[G w ⋯];have:=f8 (aN+a+w) ⋯ ⋯;lia
 have eq:∀f∈((h.drop aN).take a).drop q,f<s:=λf m=>D f (mh<|qn<|mh m);have ev:∀f∈((h.drop<|aN+a).take x).take i,f<s:=λf m=>D f (mh<|qn<|qn m);by_cases ex:a-q<=i
 ·rw[aJ ex];refine br (QV P eq ev (y.sublist<|xu _ _) (z.sublist<|tx _ _) ⋯ ⋯ db dL (by exact v) ?_);intro out r ap u;let⟨@k,rfl,J,as⟩:=ap;have N:=G8 (R:=R) y z ⋯ ⋯ t cs J as;refine br (lb ?_);refine br (j2 ?_);refine bo ?_;have d:iu r=Y:=u.f.trans Q;show A (iu r).isNone _ j;rw[d];refine e (((h.drop aN).take a).take q++k++((h.drop<|aN+a).take x).drop i) _ (u.k.trans v) (by first|rfl|exact d) (by exact u.p) (by rw[<-S];exact N.2) N.1 ?_;have a1:arrOf r=(h.map<|bp Uz).toArray:=u.a;have bF:k.length=a-q+i:=by rw[J.length_eq,d7,an,ds]
  have a2:=z6 (k.map<|bp Uz) (h.map<|bp Uz) (aN+q) 0 (aN+q) (by rw[bS,bS,bF];lia) rfl;show List.foldl (λg f=>g.setIfInBounds (aN+q+f.2) f.1) (arrOf r) (k.map<|bp Uz).toArray.toList.zipIdx=_;rw[a1];refine a2.trans ?_;rw[bS,bF,<-lg,<-mj,<-fz,<-fz];congr 2;have bd:h.take (aN+q)=h.take aN++((h.drop aN).take a).take q:=by
   rw[tT,pb ce,pQ]
  have be:h.drop (aN+q+(a-q+i))=((h.drop<|aN+a).take x).drop i++h.drop (aN+(a+x)):=by
   have:=z5 (M:=h.drop (aN+a)) (b:=i) (w:=x) am (by rw[gQ];lia);rw[oS,oS]at this;rw[show aN+q+(a-q+i)=aN+a+i by lia,this,show aN+a+x=aN+(a+x) by lia]
  rw[bd,be];simp only[bu]
 ·rw[aO ex];refine br (Mo P eq ev (y.sublist<|xu _ _) (z.sublist<|tx _ _) ⋯ ⋯ db dL (by exact v) ?_);intro out r ap u;let⟨@k,rfl,J,as⟩:=ap;have N:=G8 (R:=R) y z ⋯ ⋯ t cs J as;refine br (lb ?_);refine br (j2 ?_);refine bo ?_;have d:iu r=Y:=u.f.trans Q;show A (iu r).isNone _ j;rw[d];refine e (((h.drop aN).take a).take q++k++((h.drop<|aN+a).take x).drop i) _ (u.k.trans v) (by first|rfl|exact d) (by exact u.p) (by rw[<-S];exact N.2) N.1 ?_;have a1:arrOf r=(h.map<|bp Uz).toArray:=u.a;have bF:k.length=a-q+i:=by rw[J.length_eq,d7,an,ds]
  have a2:=z6 (k.map<|bp Uz) (h.map<|bp Uz) (aN+q) 0 (aN+q) (by rw[bS,bS,bF];lia) rfl;show List.foldl (λg f=>g.setIfInBounds (aN+q+f.2) f.1) (arrOf r) (k.map<|bp Uz).toArray.toList.zipIdx=_;rw[a1];refine a2.trans ?_;rw[bS,bF,<-lg,<-mj,<-fz,<-fz];congr 2;have bd:h.take (aN+q)=h.take aN++((h.drop aN).take a).take q:=by
   rw[tT,pb ce,pQ]
  have be:h.drop (aN+q+(a-q+i))=((h.drop<|aN+a).take x).drop i++h.drop (aN+(a+x)):=by
   have:=z5 (M:=h.drop (aN+a)) (b:=i) (w:=x) am (by rw[gQ];lia);rw[oS,oS]at this;rw[show aN+q+(a-q+i)=aN+a+i by lia,this,show aN+a+x=aN+(a+x) by lia]
  rw[bd,be];simp only[bu]
end
section
variable{UG:bC}{C:bg}{O:bB}{Uv:af->ao->Prop}{UX:gY}{Uz:Array bq}{R:Nat->Int}{s:Nat}{j:ao}{m:Array (Nat×Nat×Nat)}
structure e0(UX:gY)(Uz:Array bq)(m:Array (Nat×Nat×Nat))(X:bH)(p:Array Nat):Prop where
 k:PyProof.Rows.kindOf X=UX
 a:arrOf X=p.map (bp Uz)
 p:ik X=m
 f:iu X=Y
def sP(i:fT s R (fq UG C O UX Uz) j){o:Array Nat}(c:c6 s o){b w:Nat}(Uw:b<s)(d:w<s){X:bH}(h:e0 UX Uz m X o){A:Option Bool->bH->ao->Prop}(e:A (Z<|decide (bl R o b<bl R o w)) X j):
  kasC (aS UG C) O Uv (nR b w) A X j:=by
 have f:∀b,b<s->(o.map<|bp Uz)[b]?=Z (bp Uz<|o.getD b 0):=λb Uw=>by
  have:b<o.size:=by rw[c.size];exact Uw
  simp[Array.getD,this]
 rw[ltAt'_eq];refine br (j2 ?_);rw[h.a];dsimp only;rw[tL,tL,f b Uw,f w d];refine br (bo ?_);refine br (bo ?_);exact qM i (c.lt Uw) (c.lt d) h.k e
variable{o:Array Nat}
def tE{X:bH}(h:e0 UX Uz m X o){b w:Nat}{A:Unit->bH->ao->Prop}(e:∀c,e0 UX Uz m c (mR o b w)->A () c j):kasC (aS UG C) O Uv (rd b w) A X j:=by
 rw[reverseSlice'_eq];refine lb (e _ ⟨h.k,?_,h.p,h.f⟩);show mirror (arrOf X) b w ((w-b)/2)=_;rw[h.a];exact B3 (bp Uz) (λq=>b+q) (λq=>w-1-q) _ o
def K6{X:bH}(h:e0 UX Uz m X o){b w:Nat}{A:Unit->bH->ao->Prop}(e:∀c,e0 UX Uz m c (rr o b<|b-w)->A () c j):kasC (aS UG C) O Uv (moveDown' b w) A X j:=by
 rw[moveDown'_eq];refine lb (e _ ⟨h.k,?_,h.p,h.f⟩);show rr (arrOf X) b (b-w)=_;rw[h.a];exact B3 (bp Uz) (λq=>b-q) (λq=>b-q-1) _ o
theorem rH{x VH:Type}{aE:gn}{L:Nat->VH->StateT x ef (ForInStep VH)}{A:VH->x->ao->Prop}(b:Nat->VH->x->ao->Prop)(UY:Nat)(step:∀f n X Ux,f<UY->b f n X Ux->kasC aE O Uv (L f n) (λr c h=>match r with | .yield a=>b (f+1) a c h | .done a=>A a c h) X Ux):∀(E g:Nat) (n:VH) (X:x) (Ux:ao),g+E<=UY->(∀n X Ux,b (g+E) n X Ux->A n X Ux)->b g n X Ux->
   kasC aE O Uv (forIn (range' g E) n L) A X Ux
 |0,g,n,X,Ux,i,fin,e=>by
  show kasC aE O Uv (forIn ([]:List Nat) n L) A X Ux;exact kasC_nil (fin n X Ux e)
 |E+1,g,n,X,Ux,i,fin,e=>by
  show kasC aE O Uv (forIn (g::range' (g+1) E) n L) A X Ux;refine kasC_cons (gS (step g n X Ux ⋯ e) (λr h Uu=>?_) λ_ W d=>d);let⟨r,c⟩:=r;cases r with
  |done a=>exact Uu
  |yield a=>exact rH b UY step E (g+1) a c h ⋯ (λn X Ux Uw=>fin n X Ux (by rw[show g+(E+1)=g+1+E by lia];exact Uw)) Uu
end
section
variable{UG:bC}{C:bg}{O:bB}{Uv:af->ao->Prop}{UX:gY}{Uz:Array bq}{R:Nat->Int}{s:Nat}{j:ao}{m:Array (Nat×Nat×Nat)}
def ir(R:Nat->Int)(o:Array Nat)(D E:Nat):Prop:=(∀b w,D<=b->b<=w->w<D+E->bl R o b<=bl R o w)
def Gh{o:Array Nat}{D E:Nat}(e:∀w,D+1<=w->w<D+E->bl R o (w-1)<=bl R o w):ir R o D E:=by
 intro b w Uw a d;obtain⟨v,rfl⟩:∃v,w=b+v:=⟨w-b,⋯⟩;clear a;induction v with
 |zero=>exact lH _
 |succ v f=>
  have g:=f ⋯;have c:=e (b+(v+1)) ⋯ d;rw[show b+(v+1)-1=b+v by lia]at c;lia
def Q4(am:fT s R (fq UG C O UX Uz) j){o:Array Nat}(an:c6 s o){D E i:Nat}(bm:D+E<=s)(t:1<=i)(bn:i<=E)(k:ir R o D i){X:bH}(h:e0 UX Uz m X o){A:Bool->bH->ao->Prop}(e:∀z a,c6 s z->e0 UX Uz m a z->(∀b,b<D->z[b]?=o[b]?)->ir R z D E->A aa a j):
  kasC (aS UG C) O Uv (binarySort' D E i) A X j:=by
 rw[binarySort'_eq];rw[show max i 1=i by lia];with_unfolding_all refine br (iw (a:=λn a Ux=>j=Ux/\n=(Y,())/\∃p,c6 s p/\e0 UX Uz m a p/\(∀b,b<D->p[b]?=o[b]?)/\ir R p D E)
  (fQ (rH (λf n a Ux=>j=Ux/\n=(Y,())/\1<=f/\∃p,c6 s p/\e0 UX Uz m a p/\(∀b,b<D->p[b]?=o[b]?)/\ir R p D f) E ?step _ _ _ _ _ ⋯ ?fin ⟨rfl,rfl,t,o,an,h,λ_ W=>rfl,k⟩)) ?after)
 case after=>
  rintro n a Ux ⟨rfl,rfl,p,F,G,H,B⟩;exact bo (e p _ F G H B)
 case fin=>
  rintro n a Ux ⟨rfl,rfl,bs,p,F,G,H,B⟩;rw[show i+(E-i)=E by lia]at B;exact⟨rfl,rfl,p,F,G,H,B⟩
 case step=>
  rintro q n a Ux bv ⟨rfl,rfl,U3,p,I,P,as,k⟩;dsimp only;have a1:∀b,D<=b->b<D+0->bl R p b<=bl R p (D+q):=λb g c=>⋯
  have bd:∀b,D+q<=b->b<D+q->bl R p (D+q)<=bl R p b:=λb g c=>⋯
  refine br (iw (a:=λn u Ux=>j=Ux/\a=u/\∃M r,n=(Y,M,r)/\M<=q/\(∀b,D<=b->b<D+M->bl R p b<=bl R p (D+q))/\(∀b,D+M<=b->b<D+q->bl R p (D+q)<=bl R p b))
   (fQ (rH (λf n u Ux=>j=Ux/\a=u/\∃M r,n=(Y,M,r)/\M<=r/\r<=q/\r-M<=q-f/\(∀b,D<=b->b<D+M->bl R p b<=bl R p (D+q))/\(∀b,D+r<=b->b<D+q->bl R p (D+q)<=bl R p b)) q ?s2 _ _ _ _ _ ⋯ ?f2 ⟨rfl,rfl,0,q,rfl,⋯,⋯,⋯,a1,bd⟩)) ?a2)
  case f2=>
   rintro n u Ux ⟨rfl,rfl,M,r,rfl,aR,aX,vg,v,x⟩;exact⟨rfl,rfl,M,r,rfl,⋯,v,λb f l=>x b ⋯ l⟩
  case s2=>
   rintro f n u Ux ca ⟨rfl,rfl,M,r,rfl,aR,aX,vg,v,x⟩;dsimp only;by_cases d:M >= r
   ·rw[aJ d];exact bo ⟨rfl,rfl,M,r,rfl,⋯,v,λb f l=>x b ⋯ l⟩
   rw[aO d];have L:M<=(M+r)/2:=⋯
   have be:(M+r)/2<r:=⋯
   have N:(M+r)/2-M<=q-(f+1):=⋯
   have Q:r-((M+r)/2+1)<=q-(f+1):=⋯
   generalize (M+r)/2=mid at L be N Q ⊢;refine br (sP am I ⋯ ⋯ P ?_);dsimp only;by_cases S:bl R p (D+q)<bl R p (D+mid)
   ·rw[aJ ⇑S];refine bo ⟨rfl,rfl,M,mid,rfl,L,⋯,N,v,λb f l=>?_⟩;have:=k (D+mid) b ⋯ f l;lia
   ·rw[aO ⇑S];refine bo ⟨rfl,rfl,mid+1,r,rfl,⋯,aX,Q,λb f l=>?_,x⟩;have:=k b (D+mid) f ⋯ ⋯;lia
  case a2=>
   rintro n u Ux ⟨rfl,rfl,M,r,rfl,aR,v,x⟩;dsimp only;refine br (K6 P ?_);intro cd bi;have J:∀b,(rr p (D+q)<|D+q-(D+M))[b]?=if b=D+M then p[D+q]? else if D+M<b/\b<=D+q then p[b-1]? else p[b]?:=λb=>by
    have:=getElem?_bubble (xs:=p) (src:=D+q) (by rw[I.size];lia) (D+q-(D+M)) ⋯ b
    rwa [show D+q-(D+q-(D+M))=D+M by lia]at this
   have a8:∀b,bl R (rr p (D+q)<|D+q-(D+M)) b=if b=D+M then bl R p (D+q) else if D+M<b/\b<=D+q then bl R p (b-1) else bl R p b:=λb=>by
    have J:=J b;by_cases d:b=D+M
    ·rw[aJ d]at J ⊢;exact m9 J
    ·rw[aO d]at J ⊢;by_cases T:D+M<b/\b<=D+q
     ·rw[aJ T]at J ⊢;exact m9 J
     ·rw[aO T]at J ⊢;exact m9 J
   refine bo ⟨rfl,rfl,⋯,_,I.S2 _ _,bi,λb Uw=>by rw[J,aO ⋯,aO ⋯];exact as b Uw,Gh λw f l=>?_⟩;rw[a8,a8];by_cases U:w-1=D+M
   ·rw[aJ U,aO ⋯,aJ ⋯];exact x (w-1) ⋯ ⋯
   ·rw[aO U];by_cases al:w=D+M
    ·rw[aJ al,aO ⋯];exact v (w-1) ⋯ ⋯
    ·rw[aO al];by_cases ch:D+M<w-1
     ·rw[aJ ⋯,aJ ⋯];exact k _ _ ⋯ ⋯ ⋯
     ·rw[aO ⋯,aO ⋯];exact k _ _ ⋯ ⋯ ⋯
def eB(R:Nat->Int)(o:Array Nat):Nat->List (Nat×Nat×Nat)->Nat->Prop
 |g,[],c=>g=c
 |g,(f,M,_)::I,c=>f=g/\0<M/\ir R o f M/\eB R o (g+M) I c
variable{o:Array Nat}
theorem eB.le:∀{I:List (Nat×Nat×Nat)}{g c:Nat},eB R o g I c->g+I.length<=c
 |[],g,c,e=>by rw[show c=g from e.symm];exact bT _
 | (f,M,_)::I,g,c,e=>by
  have:=e.2.2.2.le;have:=e.2.1;rw[dT];lia
theorem eB.congr{p:Array Nat}:∀{I:List (Nat×Nat×Nat)}{g c:Nat},eB R o g I c->(∀b,g<=b->b<c->bl R p b=bl R o b)->eB R p g I c
 |[],g,c,e,_=>e
 | (f,M,_)::I,g,c,e,J=>by
  have:=e.2.2.2.le;let@⟨rfl,z,a,d⟩:=e;refine⟨rfl,z,λb w Uw h i=>?_,d.congr λb g c=>J b ⋯ c⟩;rw[J b Uw ⋯,J w ⋯ ⋯];exact a b w Uw h i
theorem eB.app{o:Array Nat}:∀{I H:List (Nat×Nat×Nat)}{g c:Nat},eB R o g (I++H) c↔∃n,eB R o g I n/\eB R o n H c
 |[],H,g,c=>⟨λe=>⟨g,rfl,e⟩,λ⟨n,d,e⟩=>by rw[show g=n from d];exact e⟩
 | (f,M,i)::I,H,g,c=>by
  show (f=g/\0<M/\ir R o f M/\eB R o (g+M) (I++H) c)↔_;rw[eB.app];constructor
  ·rintro⟨t,z,a,n,b,h⟩;exact⟨n,⟨t,z,a,b⟩,h⟩
  ·rintro⟨n,⟨t,z,a,b⟩,h⟩;exact⟨t,z,a,n,b,h⟩
def LK{U1:Type}{M:List U1}{b:Nat}(e:b+1<M.length):∃a f l c,M=a++f::l::c/\a.length=b:=by
 refine⟨M.take b,M[b]'⋯,M[b+1],M.drop<|b+2,?_,by rw[h2];lia⟩;have d:=jK (l:=M) (i:=b) ⋯;have g:=jK (l:=M) (i:=b+1) e;rw[<-g,<-d,gf]
def tg(M:List Nat)(b:Nat):bl R M.toArray b=R (M.getD b 0):=by unfold bl;rw[md]
def Fo(Q:fT s R (fq UG C O UX Uz) j){o:Array Nat}(G:c6 s o){X:bH}(h:e0 UX Uz m X o){D b:Nat}(Uw:b+1<m.size)(UA:eB R o 0 m.toList D)(co:D<=s){A:Bool->bH->ao->Prop}(e:∀H u v,c6 s u->e0 UX Uz H v u->H.size+1=m.size->eB R u 0 H.toList D->(∀b,D<=b->bl R u b=bl R o b)->A aa v j):kasC (aS UG C) O Uv (tO b) A X j:=by
 let⟨i,⟨aN,a,l⟩,⟨b8,x,y⟩,@r,d,rfl⟩:=LK (M:=m.toList) (b:=b) ⇑Uw;rw[d]at UA;let⟨@n,S,rfl,T,al,rfl,am,an,b3⟩:=eB.app.mp UA;have aX:=b3.le;have B:m=(i++(aN,a,l)::(aN+a,x,y)::r).toArray:=by rw[<-d]
 have ap:o.size=s:=G.size;have as:∀f∈o.toList,f<s:=λf a1=>ip.mp (G.mem_iff.mp a1);have F:∀b,bl R o b=R (o.toList.getD b 0):=λb=>tg o.toList b;have bF:o.toList.length=s:=by rw[fW,ap]
 have I:∀g E,g+E<=s->ir R o g E->cC R ((o.toList.drop g).take E):=λg E cr e=>by
  refine qo.mpr λb w Uw a2 cs=>?_;have bd:=Uw;have be:=a2;rw[h2,gQ,bF]at bd be;have:=e (g+b) (g+w) ⋯ ⋯ ⋯;rw[F,F]at this;rw[zj,tK,zj,tK];rw[cT,cT,f3 ⋯,f3 ⋯]at this;exact this
 refine IV Q (h:=o.toList) as (b:=i.length) (aN:=aN) (a:=a) (x:=x) (bi:=l) (fd:=y) h.k (by rw[h.a];apply kO;simp) h.f (by rw[h.p,B];simp) (by rw[h.p,B];simp) T am ⋯ (I _ _ ⋯ al) (I _ _ ⋯ an) ?_;intro mid v U3 bi bm J bn bs;have bv:mid.length=a+x:=by rw[J.length_eq,h2,gQ,bF];lia
 have ca:o.toList.take aN++(o.toList.drop aN).take (a+x)++o.toList.drop (aN+(a+x))=o.toList:=by rw[pQ,gf]
 have cd:c6 s (o.toList.take aN++mid++o.toList.drop (aN+(a+x))).toArray:=by
  show (o.toList.take aN++mid++o.toList.drop (aN+(a+x))).Perm (range s);refine List.Perm.trans (fg _<|ed _ J) ?_;rw[ca];exact G
 have U:(o.toList.take aN).length=aN:=by rw[h2,bF];lia
 have ce:∀b,b<aN->bl R (o.toList.take aN++mid++o.toList.drop (aN+(a+x))).toArray b=bl R o b:=λb Uw=>by
  rw[tg,F];congr 1;rw[cT,cT,bu,pU ⋯,oK,aJ Uw]
 have N:∀b,aN+(a+x)<=b->bl R (o.toList.take aN++mid++o.toList.drop (aN+(a+x))).toArray b=bl R o b:=λb Uw=>by
  rw[tg,F];congr 1;rw[cT,cT,o4 (by rw[d7];lia),nq,d7,U,bv];congr 2;lia
 have P:∀b,aN<=b->b<aN+(a+x)->bl R (o.toList.take aN++mid++o.toList.drop (aN+(a+x))).toArray b=R (mid.getD (b-aN) 0):=λb t z=>by
  rw[tg];congr 1;rw[cT,cT,bu,o4 ⋯,U,pU ⋯]
 have ch:((i++(aN,a,l)::(aN+a,x,y)::r).toArray.setIfInBounds i.length (aN,a+x,l)).eraseIdxIfInBounds (i.length+1)=(i++(aN,a+x,l)::r).toArray:=by
  rw[Eg,List.set_append_right _ _<|bT _,Ec,List.set_cons_zero];rw[wC,List.eraseIdx_append_of_length_le ⋯,show i.length+1-i.length=1 by lia];rfl
 refine e ((i++(aN,a+x,l)::r).toArray) _ v cd ⟨U3,by rw[bs];apply kO;simp,by rw[bm,h.p,B,ch],bi⟩ (by rw[B];simp;lia) ?_ (λb Uw=>N b ⋯);have ci:eB R o (aN+(a+x)) r D:=by rw[<-rY];exact b3
 refine eB.app.mpr ⟨aN,S.congr λb W c=>ce b c,rfl,⋯,λb w t z cl=>?_,ci.congr λb g c=>N b g⟩
 ·rw[P b t ⋯,P w ⋯ cl];exact oF bn ⋯ ⋯
end
section
variable{UG:bC}{C:bg}{O:bB}{Uv:af->ao->Prop}{UX:gY}{Uz:Array bq}{R:Nat->Int}{s:Nat}{j:ao}{m:Array (Nat×Nat×Nat)}
variable{p:Array Nat}
def u7(a:c6 s p){b w:Nat}(c:w<=s)(q:Nat):(mR p b w)[q]?=if b<=q/\q<w then p[b+w-1-q]? else p[q]?:=by
 unfold mR;rw[getElem?_mirror_all (by rw[a.size];lia)]
def Sd(a:c6 s p){b w:Nat}(c:w<=s)(d:∀q,b<=q->q<w->bl R p q=bl R p b)(q:Nat):bl R (mR p b w) q=bl R p q:=by
 by_cases e:b<=q/\q<w
 ·rw[m9 (show (mR p b w)[q]?=p[b+w-1-q]? by rw[u7 a c,aJ e]),d _ ⋯ ⋯,d q e.1 e.2]
 ·exact m9 (by rw[u7 a c,aO e])
structure dZ(R:Nat->Int)(s D:Nat)(o p:Array Nat):Prop where
 i2:c6 s p
 be:∀b,b<D->p[b]?=o[b]?
 a8:∀q,bl R p q=bl R o q
def dZ.rev{D:Nat}{o:Array Nat}(Vz:dZ R s D o p){b w:Nat}(Uw:D<=b)(a:w<=s)(d:∀q,b<=q->q<w->bl R o q=bl R o b):dZ R s D o (mR p b w):=
 ⟨Vz.i2.rev b w,λq e=>by rw[u7 Vz.i2 a,aO ⋯];exact Vz.be q e,λq=>by
  rw[Sd Vz.i2 a (λq g c=>by rw[Vz.a8,Vz.a8];exact d q g c)];exact Vz.a8 q⟩
theorem F1{L:Nat->Int}{g c:Nat}(e:∀w,g+1<=w->w<c->L w=L (w-1)):∀v,g+v<c->L (g+v)=L g
 |0,_=>rfl
 |v+1,hd=>(e (g+(v+1)) ⋯ hd).trans (F1 e v ⋯)
def Ap(k:fT s R (fq UG C O UX Uz) j){D a:Nat}(t:D+a<=s){p:Array Nat}{e:bH}{g:Nat}(l:c6 s p)(UD:e0 UX Uz m e p)(u:1<=g)(v:g<=a)(o:∀w,D+1<=w->w<D+g->bl R p (w-1)<=bl R p w):
   kasC (aS UG C) O Uv (forIn [g:a] ((Y:Option (Option Nat)),g) λf n=>nR (D+n.2) (D+n.2-1) >>= λr=>match r with
    |some q=>if q=aa then pure (ForInStep.done (Y,n.2)) else pure (ForInStep.yield (Y,n.2+1))
    |f=>pure<|ForInStep.done (Z Y,n.2))
    (λn b Ux=>j=Ux/\e=b/\∃E,n=(Y,E)/\g<=E/\E<=a/\(∀w,D+1<=w->w<D+E->bl R p (w-1)<=bl R p w)/\(E=a\/bl R p (D+E)<bl R p (D+E-1))) e j:=by
 refine fQ (rH (λf n b Ux=>j=Ux/\e=b/\n=(Y,f)/\g<=f/\∀w,D+1<=w->w<D+f->bl R p (w-1)<=bl R p w) a ?_ _ _ _ _ _ ⋯ ?_ ⟨rfl,rfl,rfl,bT _,o⟩)
 ·rintro f n b Ux x ⟨rfl,rfl,rfl,i,c⟩;dsimp only;refine br (sP k l ⋯ ⋯ UD ?_);dsimp only;by_cases h:bl R p (D+f)<bl R p (D+f-1)
  ·rw[aJ ⇑h];exact bo ⟨rfl,rfl,f,rfl,i,⋯,c,.inr h⟩
  ·rw[aO ⇑h];refine bo ⟨rfl,rfl,rfl,⋯,λw bG y=>?_⟩;by_cases d:w=D+f
   ·subst d;lia
   ·exact c w bG ⋯
 ·rintro n b Ux ⟨rfl,rfl,rfl,i,c⟩;rw[show g+(a-g)=a by lia]at c ⊢;exact⟨rfl,rfl,a,rfl,⋯,bT _,c,.inl rfl⟩
def vH(D a E:Nat): StateT bH ef (Option Nat):=(rd D (D+E) >>= λ_ => (forIn [E:a] ((Y:Option (Option Nat)),E) λf n => nR (D+n.2) (D+n.2-1) >>= λr => match r with
    |some b => if b=aa then pure (ForInStep.done (Y,n.2)) else pure (ForInStep.yield (Y,n.2+1))
    |f => pure<|ForInStep.done (Z Y,n.2)) >>= λn => match n.1 with
    |some r => pure r
    |none => pure (Z n.2))
def A0(D f:Nat)(n:Option (Option Nat)×Nat×Nat):StateT bH ef (ForInStep<|Option (Option Nat)×Nat×Nat):=(nR (D+n.2.1) (D+n.2.1-1) >>= λr=>match r with
 |some a=>if a=aa then (if n.2.2>0 then rd (D+n.2.1-(n.2.2+1)) (D+n.2.1) >>= λ_=>pure (.yield (Y,n.2.1+1,0)) else pure (.yield (Y,n.2.1+1,0)))
  else nR (D+n.2.1-1) (D+n.2.1) >>= λr=>match r with
   |some b=>if b=aa then pure (.done (Y,n.2.1,n.2.2)) else pure (.yield (Y,n.2.1+1,n.2.2+1))
   |f=>pure (.done (Z Y,n.2.1,n.2.2))
 |f=>pure (.done (Z Y,n.2.1,n.2.2)))
def uV(D a E:Nat):StateT bH ef (Option Nat):=(liftM (PySem.rule "list.sort.descending-run") >>= λ_=>forIn [E+1:a] ((Y:Option (Option Nat)),E+1,0) (A0 D) >>= λn=>match n.1 with
 |some r=>pure r
 |none=>if n.2.2>0 then rd (D+n.2.1-(n.2.2+1)) (D+n.2.1) >>= λ_=>vH D a n.2.1 else vH D a n.2.1)
def F8(i:fT s R (fq UG C O UX Uz) j){D d E:Nat}(k:D+d<=s){o p:Array Nat}{X:bH}(Vz:dZ R s D o p)(h:e0 UX Uz m X p)(l:1<=E)(q:E<=d)(r:∀w,D+1<=w->w<D+E->bl R o w<=bl R o (w-1)){A:Option Nat->bH->ao->Prop}(e:∀E a f,1<=E->E<=d->c6 s a->e0 UX Uz m f a->(∀b,b<D->a[b]?=o[b]?)->(∀w,D+1<=w->w<D+E->bl R a (w-1)<=bl R a w)->A (Z E) f j):kasC (aS UG C) O Uv (vH D d E) A X j:=by
 unfold vH;refine br (tE h λx UT=>?_);have J:=u7 Vz.i2 (b:=D) (w:=D+E) ⋯;have a8:∀b,D<=b->b<D+E->bl R (mR p D<|D+E) b=bl R o (D+(D+E)-1-b):=λb g c=>(m9 (by rw[J,aJ ⟨g,c⟩])).trans (Vz.a8 _);refine br (iw (Ap i k (Vz.i2.rev D<|D+E) UT l q λw bG y=>?_) ?_)
 ·rw[a8 _ ⋯ ⋯,a8 _ ⋯ ⋯];have:=r (D+(D+E)-1-(w-1)) ⋯ ⋯;rw[show D+(D+E)-1-(w-1)-1=D+(D+E)-1-w by lia]at this;exact this
 ·rintro n f Ux ⟨rfl,rfl,t,rfl,z,u,v,B⟩;dsimp only;exact bo (e t _ _ ⋯ u (Vz.i2.rev D<|D+E) UT (λb Uw=>by rw[J,aO ⋯];exact Vz.be b Uw) v)
def Ca(z:fT s R (fq UG C O UX Uz) j){D k E:Nat}(F:D+k<=s){o p:Array Nat}{X:bH}(Vz:dZ R s D o p)(h:e0 UX Uz m X p)(T:1<=E)(U:E<k)(M:∀w,D+1<=w->w<D+(E+1)->bl R o w<=bl R o (w-1)){A:Option Nat->bH->ao->Prop}(e:∀E y r,1<=E->E<=k->c6 s y->e0 UX Uz m r y->(∀b,b<D->y[b]?=o[b]?)->(∀w,D+1<=w->w<D+E->bl R y (w-1)<=bl R y w)->A (Z E) r j):kasC (aS UG C) O Uv (uV D k E) A X j:=by
 have aU:∀{f v:Nat},v+1<=f->(∀w,D+f-v<=w->w<D+f->bl R o w=bl R o (w-1))->∀q,D+f-(v+1)<=q->q<D+f->bl R o q=bl R o (D+f-(v+1)):=λ{f v} hd d q g c=>by
  have:=F1 (L:=bl R o) (g:=D+f-(v+1)) (c:=D+f) (λw f l=>d w ⋯ l) (q-(D+f-(v+1))) ⋯
  rwa [show D+f-(v+1)+(q-(D+f-(v+1)))=q by lia]at this
 unfold uV;refine br (ou<|iA ?_);refine br (iw (a:=λn r Ux=>j=Ux/\∃i f v,n=(Y,f,v)/\e0 UX Uz m r i/\dZ R s D o i/\E+1<=f/\f<=k/\v+1<=f/\(∀w,D+1<=w->w<D+f->bl R o w<=bl R o (w-1))/\∀w,D+f-v<=w->w<D+f->bl R o w=bl R o (w-1))
  (fQ (rH (λf n r Ux=>j=Ux/\∃i v,n=(Y,f,v)/\e0 UX Uz m r i/\dZ R s D o i/\E+1<=f/\v+1<=f/\(∀w,D+1<=w->w<D+f->bl R o w<=bl R o (w-1))/\∀w,D+f-v<=w->w<D+f->bl R o w=bl R o (w-1)) k ?U_ _ _ _ _ _ ⋯ ?Vi ⟨rfl,p,0,rfl,h,Vz,bT _,⋯,M,λw g c=>⋯⟩)) ?N)
 case U_=>
  rintro f n r Ux am ⟨rfl,i,v,rfl,P,a,B,x,t,u⟩;unfold A0;dsimp only;refine br (sP z a.i2 ⋯ ⋯ P ?_);dsimp only;rw[a.a8,a.a8];by_cases G:bl R o (D+f)<bl R o (D+f-1)
  ·rw[aJ ⇑G];have H:∀w,D+1<=w->w<D+(f+1)->bl R o w<=bl R o (w-1):=λw bG Q=>by
    by_cases d:w=D+f
    ·subst d;lia
    ·exact t w bG ⋯
   by_cases hd:v>0
   ·rw[aJ hd];refine br (tE P λS UT=>?_);exact bo ⟨rfl,_,0,rfl,UT,a.rev ⋯ ⋯<|aU x u,⋯,⋯,H,λw g c=>⋯⟩
   ·rw[aO hd];exact bo ⟨rfl,i,0,rfl,P,a,⋯,⋯,H,λw g c=>⋯⟩
  ·rw[aO ⇑G];refine br (sP z a.i2 ⋯ ⋯ P ?_);dsimp only;rw[a.a8,a.a8];by_cases I:bl R o (D+f-1)<bl R o (D+f)
   ·rw[aJ ⇑I];exact bo ⟨rfl,i,f,v,rfl,P,a,B,⋯,x,t,u⟩
   ·rw[aO ⇑I];refine bo ⟨rfl,i,v+1,rfl,P,a,⋯,⋯,λw bG Q=>?_,λw g c=>?_⟩
    ·by_cases d:w=D+f
     ·subst d;lia
     ·exact t w bG ⋯
    ·by_cases d:w=D+f
     ·subst d;lia
     ·exact u w ⋯ ⋯
 case Vi=>
  rintro n r Ux ⟨rfl,i,v,rfl,P,a,B,x,t,u⟩;rw[show E+1+(k-(E+1))=k by lia] at *;exact⟨rfl,i,k,v,rfl,P,a,B,bT _,x,t,u⟩
 case N=>
  rintro n r Ux ⟨rfl,i,f,v,rfl,P,a,B,J,x,t,u⟩;dsimp only;by_cases hd:v>0
  ·rw[aJ hd];refine br (tE P λS UT=>?_);exact F8 z F (a.rev ⋯ ⋯<|aU x u) UT ⋯ J t e
  ·rw[aO hd];exact F8 z F a P ⋯ J t e
def Iq(D a:Nat): StateT bH ef (Option Nat):=((forIn [1:a] ((Y:Option (Option Nat)),1) λf n => nR (D+n.2) (D+n.2-1) >>= λr => match r with
    |some b => if b=aa then pure (ForInStep.done (Y,n.2)) else pure (ForInStep.yield (Y,n.2+1))
    |f => pure<|ForInStep.done (Z Y,n.2)) >>= λn => match n.1 with
    |some r => pure r
    |none => if (n.2==a)=aa then pure (Z n.2) else if n.2>1 then nR D (D+n.2-1) >>= λr => match r with
      |some c => if c=aa then pure (Z n.2) else rd D (D+n.2) >>= λ_ => uV D a n.2
      |f => pure Y
      else uV D a n.2)
def OX(D a:Nat):countRun' D a=Iq D a:=by
 kernel_rfl
def Qu(k:fT s R (fq UG C O UX Uz) j){o:Array Nat}(a:c6 s o){D f:Nat}(t:1<=f)(p:D+f<=s){X:bH}(h:e0 UX Uz m X o){A:Option Nat->bH->ao->Prop}(e:∀E i r,1<=E->E<=f->c6 s i->e0 UX Uz m r i->(∀b,b<D->i[b]?=o[b]?)->(∀w,D+1<=w->w<D+E->bl R i (w-1)<=bl R i w)->A (Z E) r j):
  kasC (aS UG C) O Uv (countRun' D f) A X j:=by
 rw[OX];unfold Iq;have z:dZ R s D o o:=⟨a,λ_ W=>rfl,λ_=>rfl⟩;refine br (iw (Ap k p a h (bT _) t λw g c=>⋯) ?_);rintro n r Ux ⟨rfl,rfl,E,rfl,u,B,l,H⟩;dsimp only;by_cases d:E=f
 ·rw[aJ ⇑d];exact bo (e E o _ u B a h (λ_ W=>rfl) l)
 rw[aO ⇑d];have I:bl R o (D+E)<bl R o (D+E-1):=H.resolve_left d;by_cases F:E>1
 ·rw[aJ F];refine br (sP k a ⋯ ⋯ h ?_);dsimp only;by_cases G:bl R o D<bl R o (D+E-1)
  ·rw[aJ ⇑G];exact bo (e E o _ u B a h (λ_ W=>rfl) l)
  ·rw[aO ⇑G];have J:∀v,v<E->bl R o D<=bl R o (D+v)/\bl R o (D+v)<=bl R o (D+E-1):=by
    have L:∀v,v<E->bl R o D<=bl R o (D+v):=λv=>by
     induction v with
     |zero=>intro W;exact lH _
     |succ v x=>
      intro hd;have g:=l (D+(v+1)) ⋯ ⋯;rw[show D+(v+1)-1=D+v by lia]at g;have:=x ⋯;lia
    have M:∀v,v<E->bl R o (D+E-1-v)<=bl R o (D+E-1):=λv=>by
     induction v with
     |zero=>intro W;exact lH _
     |succ v x=>
      intro hd;have g:=l (D+E-1-v) ⋯ ⋯;rw[show D+E-1-v-1=D+E-1-(v+1) by lia]at g;have:=x ⋯;lia
    intro v hd;refine⟨L v hd,?_⟩;have:=M (E-1-v) ⋯
    rwa [show D+E-1-(E-1-v)=D+v by lia]at this
   have y:∀q,D<=q->q<D+E->bl R o q=bl R o D:=λq g c=>by
    have:=J (q-D) ⋯;rw[show D+(q-D)=q by lia]at this;lia
   refine br (tE h λP UT=>?_);exact Ca (o:=o) k p (z.rev (bT _) ⋯ y) UT u ⋯ (λw bG N=>by
    by_cases d:w=D+E
    ·subst d;lia
    ·rw[y w ⋯ ⋯,y (w-1) ⋯ ⋯];exact lH _) e
 rw[aO F];obtain rfl:E=1:=⋯
 exact Ca (o:=o) k p z h (bT _) ⋯ (λw bG N=>by
  obtain rfl:w=D+1:=⋯
  exact Int.le_of_lt I) e
end
section
variable{UG:bC}{C:bg}{O:bB}{Uv:af->ao->Prop}{UX:gY}{Uz:Array bq}{R:Nat->Int}{s:Nat}{j:ao}{m:Array (Nat×Nat×Nat)}
variable{o:Array Nat}
theorem eB.same:∀{I H:List (Nat×Nat×Nat)}{g c:Nat},eB R o g I c->(I.map λf=>(f.1,f.2.1))=(H.map λf=>(f.1,f.2.1))->eB R o g H c
 |[],[],g,c,e,_=>e
 |[],_::_,g,c,e,d=>by cases d
 |_::_,[],g,c,e,d=>by cases d
 | (f,M,i)::I,(k,l,m)::H,g,c,e,d=>by
  rw[cK,cK]at d;injection d with h j;injection h with a b;dsimp only at a b;subst a;subst b;exact⟨e.1,e.2.1,e.2.2.1,e.2.2.2.same j⟩
def Ks(y:Array (Nat×Nat×Nat))(b i:Nat):(y.toList.map λf=>(f.1,f.2.1))=((y.modify b λf=>(f.1,f.2.1,i)).toList.map λf=>(f.1,f.2.1)):=by
 apply qm;intro w;rw[gy,gy,hq,hq,Array.getElem?_modify];split
 ·rw[Option.map_map];rfl
 ·rfl
def ir.congr{p:Array Nat}{D E:Nat}(e:ir R o D E)(J:∀b,D<=b->bl R p b=bl R o b):ir R p D E:=λb w g c n=>by
 rw[J b g,J w ⋯];exact e b w g c n
def MZ{aE:gn}{O:bB}{Uv:af->ao->Prop}{x U1:Type}{n:Nat->Prop}{c:∀E,Decidable (n E)}{a Vh:Nat->StateT x ef U1}{A:U1->x->ao->Prop}{j:ao}(UB:Nat->x->Prop)(h:∀E X,UB E X->kasC aE O Uv (Vh E) A X j)(b:(∀E X,UB E X->kasC aE O Uv (Vh E) A X j)->∀E X,n E->UB E X->kasC aE O Uv (a E) A X j):∀E X,UB E X->kasC aE O Uv (if n E then a E else Vh E) A X j:=λE X o=>
 if e:n E then by rw[aJ e];exact b h E X e o else by rw[aO e];exact h E X o
variable{A:Unit->bH->ao->Prop}
def P2(G:fT s R (fq UG C O UX Uz) j)(z:2<=s)(be:∀u r,c6 s u->iB R u s->arrOf r=u.map (bp Uz)->iu r=Y->A () r j):kasC (aS UG C) O Uv sortRuns' A (te UX Uz (range s).toArray) j:=by
 rw[sortRuns'_eq];refine br (j2 ?_);dsimp only;have bi:(arrOf<|te UX Uz (range s).toArray).size=s:=by
  show ((range s).toArray.map<|bp Uz).size=s;simp
 simp only[bi];refine br (iw (a:=λn r Ux=>j=Ux/\n=(Y,s)/\∃m o,c6 s o/\e0 UX Uz m r o/\eB R o 0 m.toList s)
  (fQ (g6 (λf n r Ux=>j=Ux/\∃D m o,n=(Y,D)/\f<=D/\D<=s/\c6 s o/\e0 UX Uz m r o/\eB R o 0 m.toList D) ?step _ 0 _ _ _ ?fin ⟨rfl,0,#[],(range s).toArray,rfl,bT _,⋯,List.Perm.refl _,⟨rfl,rfl,rfl,rfl⟩,rfl⟩)) ?after)
 case fin=>
  rintro n r Ux ⟨rfl,D,m,o,rfl,g,c,v,d,L⟩;have:D=s:=⋯
  subst this;exact⟨rfl,rfl,m,o,v,d,L⟩
 case after=>
  rintro n r Ux ⟨rfl,rfl,m,o,t,h,UA⟩;dsimp only;refine br (iw (a:=λn r Ux=>j=Ux/\n=(Y,())/\∃o,c6 s o/\iB R o s/\arrOf r=o.map (bp Uz)/\iu r=Y)
   (fQ (g6 (λf n r Ux=>j=Ux/\n=(Y,())/\∃m o,c6 s o/\e0 UX Uz m r o/\eB R o 0 m.toList s/\m.size+f<=s) ?H _ 0 _ _ _ ?f2 ⟨rfl,rfl,m,o,t,h,UA,by have:=UA.le;rw[fW]at this;lia⟩)) ?a2)
  case a2=>
   rintro n r Ux ⟨rfl,rfl,o,g,c,n,v⟩;exact bo (be o _ g c n v)
  case f2=>
   rintro n r Ux ⟨rfl,rfl,m,o,t,h,UA,bm⟩;have d:m.toList=[]:=uC (by rw[fW];lia);rw[d]at UA;have:0=s:=UA;lia
  case H=>
   rintro f n r Ux ⟨rfl,rfl,m,o,t,h,UA,bm⟩;refine br (j2 ?_);by_cases d:(ik r).size<=1
   ·rw[aJ d];refine bo ⟨rfl,rfl,o,t,?_,h.a,h.f⟩;rw[h.p]at d;have bn:m.toList.length<=1:=by rw[fW];exact d
    match am:m.toList,bn with
    |[],_=>
     rw[am]at UA;have:0=s:=UA;lia
    |[(f,M,i)],_=>
     rw[am]at UA;let@⟨rfl,_,bs,bv⟩:=UA;have:0+M=s:=bv;exact λb w ca cs=>bs b w (lB _) ca ⋯
    |_::_::_,e=>exact absurd e ↥0
   ·rw[aO d];rw[h.p]at d;have cd:∀S,S+1<m.size->kasC (aS UG C) O Uv (tO S) (λc x H=>c=aa/\j=H/\∃m o,c6 s o/\e0 UX Uz m x o/\eB R o 0 m.toList s/\m.size+(f+1)<=s) r j:=λS ce=>
     Fo G t h ce UA (bT _) λT u ch g c n v an=>⟨rfl,rfl,T,u,g,c,v,⋯⟩;refine br (iw (cd _ ?_) ?_)
    ·rw[h.p];have:∀(n:Prop) [Decidable n],(if n then m.size-2-1 else m.size-2)+1<m.size:=λn W=>by split<;>lia
     exact this _
    ·rintro c x H ⟨rfl,rfl,ci⟩;rw[aO ∅];exact bo ⟨rfl,rfl,ci⟩
 case step=>
  rintro f n r Ux ⟨rfl,D,m,o,rfl,db,ds,t,h,UA⟩;dsimp only;by_cases ap:D >= s
  ·rw[aJ ap];have:D=s:=⋯
   subst this;exact bo ⟨rfl,rfl,m,o,t,h,UA⟩
  rw[aO ap];refine br (Qu G t ⋯ ⋯ h ?_);intro E as B y I J UD a1 N;have p:E<=s-D/\1<=E/\∃o,c6 s o/\e0 UX Uz m B o/\eB R o 0 m.toList D/\ir R o D E:=⟨I,y,as,J,UD,UA.congr λb W c=>m9<|a1 b c,Gh N⟩;dsimp only;clear N a1 UD J y I;revert E B;refine MZ (λE B=>E<=s-D/\1<=E/\∃o,c6 s o/\e0 UX Uz m B o/\eB R o 0 m.toList D/\ir R o D E) ?_ ?_
  ·intro E x p;let@⟨I,y,⟨@Vj,P,UT,b3,Q⟩⟩:=p;refine br (j2 ?_);rcases dL:(ik x).back? with _|⟨eq,ev,ex⟩
   ·dsimp only;refine br (lb ?_);refine bo ⟨rfl,D+E,m.push (D,E,0),Vj,rfl,⋯,⋯,P,⟨UT.k,UT.a,by show (ik x).push _=_;rw[UT.p],UT.f⟩,?_⟩;rw[HA];exact eB.app.mpr ⟨D,b3,rfl,⋯,Q,rfl⟩
   ·dsimp only;refine br (iw (a:=λn r Ux=>j=Ux/\n=(Y,())/\∃m o,c6 s o/\e0 UX Uz m r o/\eB R o 0 m.toList D/\ir R o D (E))
     (fQ<|g6 (λf n r Ux=>j=Ux/\n=(Y,())/\∃m o,c6 s o/\e0 UX Uz m r o/\eB R o 0 m.toList D/\ir R o D (E)) ?_ _ 0 _ _ _ (λ_ W W i=>i) ⟨rfl,rfl,m,Vj,P,UT,b3,Q⟩) ?_)
    ·rintro l n r Ux ⟨rfl,rfl,m,o,t,h,UA,O⟩;refine br (j2 ?_);by_cases d:(ik r).size>1
     ·rw[aJ d];rcases fd:(ik r)[(ik r).size-2]? with _|⟨g,c,fn⟩
      ·dsimp only;exact bo ⟨rfl,rfl,m,o,t,h,UA,O⟩
      ·dsimp only;split
       ·exact bo ⟨rfl,rfl,m,o,t,h,UA,O⟩
       ·refine br (Fo G t h (by rw[h.p]at d ⊢;lia) UA ⋯ ?_);intro T u ch g c n v an;rw[aO ∅];exact bo ⟨rfl,rfl,T,u,g,c,v,O.congr an⟩
     ·rw[aO d];dsimp only;exact bo ⟨rfl,rfl,m,o,t,h,UA,O⟩
    ·rintro n r Ux ⟨rfl,rfl,m,o,t,h,UA,O⟩;dsimp only;refine br (lb ?_);refine br (lb ?_);refine bo ⟨rfl,D+E,(m.modify (m.size-1) _).push (D,E,0),o,rfl,⋯,⋯,t,⟨h.k,h.a,by show ((ik r).modify ((ik r).size-1) _).push _=_;rw[h.p],h.f⟩,?_⟩;rw[HA];exact eB.app.mpr ⟨D,UA.same<|Ks _ _ _,rfl,⋯,O,rfl⟩
  ·intro F E B fr p;let@⟨I,y,⟨@as,J,UD,cl,N⟩⟩:=p;refine br (ou<|iA ?_);have U:E<=min (s-D) (minRun' s s 0):=⋯
   have bd:min (s-D) (minRun' s s 0)<=s-D:=⋯
   generalize min (s-D) (minRun' s s 0)=co at U bd ⊢;refine br (Q4 G J ⋯ y U N UD ?_);intro Vj x P UT cr Q;rw[aO ∅];exact F co x ⟨bd,fl y U,Vj,P,UT,cl.congr λb W c=>m9<|cr b c,Q⟩
def KA(c:fT s R (fq UG C O UX Uz) j)(z:2<=s)(e:s<1001\/∀w,1<=w->w<s->R (w-1)<=R w)(d:∀a b,c6 s a->iB R a s->arrOf b=a.map (bp Uz)->iu b=Y->A () b j):kasC (aS UG C) O Uv sortRuns' A (te UX Uz (range s).toArray) j:=P2 c z d
end
end L2
namespace L2
open Spec PyProof.Rows
section
variable{a:aK}{G:List (ae×a7)}{x:a5}{h:az}{j:ao}{Uu:aZ}
variable{VI:List ae}{Va:Nat}
def aG.H8{F:ae}{y:List av}(l:aG a G x h j)(b:∀c∈VI,j0 a G h c)(q:∀c m,c∉VI->j.heap.get? c=Z m->Uu.get? c=Z m)(n:j.heap.objs.size<=F)(new:ff a.prog a.w (upd h F<|.tup y) Uu F (.tup y)):aG a G x (upd h F<|.tup y) {j with heap:=Uu,toks:=Va}:=by
 have f:h F=Y:=l.aT.fresh n;have u:∀c m,j.heap.get? c=Z m->c≠F:=λc m d=>d8 (fe (cb d) n);have o:∀c H,h c=Z H->c∉VI:=λc H d i=>by rw[(b c i).1]at d;cases d
 refine l.step (I:=j.gens) (S:=j.drawn) (VI:=VI) (λc e=>⟨(b c e).2.2.2.1,(b c e).2.1,(b c e).2.2.2.2.1,(b c e).2.2.2.2.2⟩) (λc m W W k d W=>q c m k d) (λc m W W k d W=>⟨m.slots,q c m k d⟩)
  (λc m W d s=>by rw[cW (u c m d)];exact s) (λc m k d=>⟨m,q c m k d⟩) (λc UL d=>by rw[cW (hE d f)];exact d) (λc m H d=>by rw[cW (hE d f)];exact d)
  (λc UJ d=>⟨#[],by rw[cW (hE d f),d];simp⟩) (λE v=>?_) (λg m d=>?_) l.bare
 ·let⟨m,T,@Vu,z,r⟩:=v;exact⟨m,T,Vu,q _ m (λi=>(b _ i).2.1 rfl) z,r⟩
 ·by_cases t:g=F
  ·subst t;rw[eS]at d;cases d;exact new
  ·rw[cW t]at d;refine (l.aT g m d).fs (λc H e p=>q c H ?_ p) (λc p=>by rw[cW (hE p f)];exact p) λc UL p=>by rw[cW (hE p f)];exact p
   rcases e with i|i
   ·rw[i];exact o g m d
   ·exact o c _ i
def aG.Fy(k:aG a G x h j)(b:∀c∈VI,j0 a G h c)(q:∀c m,c∉VI->j.heap.get? c=Z m->Uu.get? c=Z m):aG a G x h {j with heap:=Uu,toks:=Va}:=by
 have l:∀c H,h c=Z H->c∉VI:=λc H d i=>by rw[(b c i).1]at d;cases d
 refine k.step (I:=j.gens) (S:=j.drawn) (VI:=VI) (λc e=>⟨(b c e).2.2.2.1,(b c e).2.1,(b c e).2.2.2.2.1,(b c e).2.2.2.2.2⟩) (λc m W W f d W=>q c m f d) (λc m W W f d W=>⟨m.slots,q c m f d⟩)
  (λc m W W s=>s) (λc m f d=>⟨m,q c m f d⟩) (λc UL d=>d) (λc m H d=>d) (λc UJ d=>⟨#[],by rw[d];simp⟩) (λE n=>?_) (λg m d=>?_) k.bare
 ·let⟨m,T,@Vu,o,r⟩:=n;exact⟨m,T,Vu,q _ m (λi=>(b _ i).2.1 rfl) o,r⟩
 ·refine (k.aT g m d).fs (λc H e p=>q c H ?_ p) (λc p=>p) λc UL p=>p;rcases e with i|i
  ·rw[i];exact l g m d
  ·exact l c _ i
end
section
variable{UG:bC}{C:bg}{O:bB}{Uv:af->ao->Prop}{j:ao}
variable{Uz I:ae}{b:Nat}{U4:Array af}{A:af->ao->Prop}
def tS{f:af}(d:j.heap.IsTupleIter Uz I b)(e:j.heap.IsTuple I U4)(g:U4[b]?=Z f)(p:∀Uu,Uu.IsTupleIter Uz I (b+1)->aZ.SameBut Uz j.heap Uu->A f {j with heap:=Uu}):wpAny (aS UG C) O (bw.SmallTypes.nextOf<|.ref Uz) A Uv j:=by
 let⟨@m,c,h,a⟩:=id d;let⟨@ol,g1,W,⟨@l,k⟩⟩:=e;unfold bw.SmallTypes.nextOf;refine aB (kr (name:=aF.ofString "__next__") d.typeIs uU<|iS uU d.typeIs Hw ?i<|Gw _)
 case i=>
  show wpAny _ _ (field (.ref Uz) 0 >>= _) _ _ j;refine aB (fx c a (x:=.ref I) rfl ?_);show wpAny _ _ (if (af.ref I==af.none)=aa then _ else _) _ _ j;rw[aO (show ¬ (af.ref I==af.none)=aa by intro i;cases i)];show wpAny _ _ (field (.ref Uz) 1 >>= _) _ _ j;refine aB (fx c a (x:=.int b 0) rfl ?_);show wpAny _ _ (rK (.ref I) >>= _) _ _ j;refine aB (gH g1 k ?_);simp only[rO,g];refine aB (wc c a ↥0 (a_ ⟨f,rfl,a_ (p _ ⟨_,rR _ c<|Gr<|ux a _,(Bc ..).trans h,by rw[ux a];simp[i9]⟩<|uN ..)⟩))
def yA(h:O.handled=Y)(a:j.heap.IsTupleIter Uz I b)(k:j.heap.IsTuple I U4)(l:U4[b]?=Y)(p:∀Uu d,aZ.ExtBut Uz j.heap Uu->(∃m,Uu.get? d=Z m/\m.cls=.type "StopIteration")->Uv (.ref d) {j with heap:=Uu}):wpAny (aS UG C) O (bw.SmallTypes.nextOf<|.ref Uz) A Uv j:=by
 let⟨@m,c,o,e⟩:=id a;let⟨@ol,g1,W,⟨@q,n⟩⟩:=k;unfold bw.SmallTypes.nextOf;refine aB (kr (name:=aF.ofString "__next__") a.typeIs uU<|iS uU a.typeIs Hw ?i<|Gw _)
 case i=>
  show wpAny _ _ (field (.ref Uz) 0 >>= _) _ _ j;refine aB (fx c e (x:=.ref I) rfl ?_);show wpAny _ _ (if (af.ref I==af.none)=aa then _ else _) _ _ j;rw[aO (show ¬ (af.ref I==af.none)=aa by intro i;cases i)];show wpAny _ _ (field (.ref Uz) 1 >>= _) _ _ j;refine aB (fx c e (x:=.int b 0) rfl ?_);show wpAny _ _ (rK (.ref I) >>= _) _ _ j;refine aB (gH g1 n ?_);simp only[rO,l];refine aB (iA (aB (wc c e ↥0 ?_)));show wpAny _ _ (tW (.type "StopIteration") [] >>= _) _ _ _;apply aB;simp only[tW,zG];refine aB (i4 (aB (m:=uv _ _) (zi (a:=af.none) (by first|rfl|(simp only[uv];rfl)) (i4 ?_ (by size_fits)))) (by size_fits));simp only[raiseNew];apply aB;apply Gs;rw[show O.in1.handled=Y from h];refine aB (m:=pure _) (a_<|wpAny_throw ?_);exact p _ _ (((uN ..).extBut.push _).push _) ⟨_,dr _ rfl,rfl⟩
end
section
variable{UG:bC}{C:bg}{O:bB}{Uv:af->ao->Prop}{j:ao}
variable{e Uu:aZ}{g:ae}
def jj{I:ae}{b:Nat}(f:e.IsTupleIter g I b)(q:∀m,e.get? g=Z m->Uu.get? g=Z m):Uu.IsTupleIter g I b:=let ⟨m,d,r⟩:=f;⟨m,q m d,r⟩
variable{y:Array af}
def o5(f:e.IsTuple g y)(q:∀m,e.get? g=Z m->Uu.get? g=Z m):Uu.IsTuple g y:=let ⟨m,d,r⟩:=f;⟨m,q m d,r⟩
variable{g c:af}{U3 U9:Nat}{UL:Array af}
def Sa{i bX bO b e r s:ae}{f l:af}{A:af->ao->Prop}(k:nr i bX bO b e r s)(v:fu j.heap i bX bO .none)(ap:eZ j.heap bX (.ref b) (.ref e))(as:eZ j.heap bO g c)(t:j.heap.IsTupleIter b r U3)(z:j.heap.IsTupleIter e s U9)(a1:j.heap.IsTuple r y)(a2:j.heap.IsTuple s UL)(bd:y[U3]?=Z f)(be:UL[U9]?=Z l)(bi:∀Uu,fu Uu i bX bO (i9 j.heap.objs.size)->eZ Uu bO f l->Uu.IsTupleIter b r (U3+1)->Uu.IsTupleIter e s (U9+1)->eZ Uu j.heap.objs.size f l->
   (∀n m,n≠i->n≠bO->n≠b->n≠e->j.heap.get? n=Z m->Uu.get? n=Z m)->A (.ref j.heap.objs.size) {j with heap:=Uu}):
  wpAny (aS UG C) O (bw.«zip.__next__» ⟨[.ref i],[]⟩) (λfin Ux=>∃u,fin=.done (.ret u)/\A u Ux) Uv j:=by
 show wpAny _ _ (field (.ref i) 2 >>= _) _ _ _;refine aB (fx v rfl (x:=.bool aq) rfl ?_);show wpAny _ _ (field (.ref i) 3 >>= _) _ _ _;refine aB (fx v rfl (x:=.ref bX) rfl<|aB<|gH ap rfl ?_);show wpAny _ _ (bw.SmallTypes.ownedTupleIsFree (.ref i) >>= _) _ _ _;apply aB;unfold bw.SmallTypes.ownedTupleIsFree;refine aB (fx v rfl (x:=.none) rfl<|a_ ?_);simp only[hK];refine aB (iA (aB (fx v rfl (x:=.ref bO) rfl (aB (jP v ↥0 λbG G h=>?_)))));replace G:fu bG i bX bO .ellipsis:=G;apply aB;simp only[rQ,vu,pJ,ve];refine aB (aB<|nD ?_);show wpAny _ _ (bw.SmallTypes.nextOf (.ref b) >>= _) _ _ _;refine aB (tS (j:={j with heap:=bG}) (jj t λm d=>h.extBut _ m k.i1z d) (o5 a1 λm d=>h.extBut _ m k.l1z d) bd λH bm p=>a_ ?_);have P:eZ H bO g c:=p.extBut _ _ k.TOi1 (h.extBut _ _ k.TOz as);refine aB (gH (s:={j with heap:=H}) P rfl<|aB<|o6 (s:={j with heap:=H}) P λQ I q=>?_);replace I:eZ Q bO f c:=I;refine aB (kk<|a_<|aB<|aB<|nD ?_);show wpAny _ _ (bw.SmallTypes.nextOf (.ref e) >>= _) _ _ _;refine aB (tS (j:={j with heap:=Q}) (jj z λm d=>q.extBut _ m k.TOi2.symm<|p.extBut _ m k.i12.symm<|h.extBut _ m k.i2z d) (o5 a2 λm d=>q.extBut _ m k.l2TO<|p.extBut _ m k.l2i1<|h.extBut _ m k.l2z d) be λJ bn w=>a_ ?_);have U:eZ J bO f c:=w.extBut _ _ k.TOi2 I;refine aB (gH (s:={j with heap:=J}) U rfl<|aB<|o6 (s:={j with heap:=J}) U λa Vq x=>?_);replace Vq:eZ a bO f l:=Vq;refine aB (kk<|a_<|a_<|aB<|gH (s:={j with heap:=a}) Vq rfl<|aB<|zN ?_);have R:a.objs.size=j.heap.objs.size:=by rw[x.1,w.1,q.1,p.1,h.1]
 have S:fu a i bX bO .ellipsis:=x.extBut _ _ k.TOz.symm (w.extBut _ _ k.i2z.symm<|q.extBut _ _ k.TOz.symm<|p.extBut _ _ k.i1z.symm G);have bs:∀n m,n≠i->n≠bO->n≠b->n≠e->j.heap.get? n=Z m->a.get? n=Z m:=λn m o B L M d=>x.extBut _ _ B (w.extBut _ _ M<|q.extBut _ _ B<|p.extBut _ _ L<|h.extBut _ _ o d);have aR:a.IsTupleIter b r (U3+1):=jj bm λm d=>x.extBut _ m k.TOi1.symm (w.extBut _ m k.i12<|q.extBut _ m k.TOi1.symm d);have aX:a.IsTupleIter e s (U9+1):=jj bn λm d=>x.extBut _ m k.TOi2.symm d;have T:i<a.objs.size:=cb S;show wpAny _ _ (bw.SmallTypes.ownedTupleHandOut (.ref i) (.ref a.objs.size) >>= _) _ _ _;apply aB;unfold bw.SmallTypes.ownedTupleHandOut;have bv:fu (a.push {cls:=.type "tuple",data:=.seq #[f,l]}) i bX bO .ellipsis:=b5 _ S;refine aB (jP bv ↥0 λca N al=>?_);replace N:fu ca i bX bO (i9 a.objs.size):=N;refine jP N ↥0 λD E am=>?_;replace E:fu D i bX bO (i9 a.objs.size):=E;have F:∀n m,n≠i->a.get? n=Z m->D.get? n=Z m:=λn m o d=>am.extBut _ _ o (al.extBut _ _ o<|b5 _ d);have an:eZ D a.objs.size f l:=am.extBut _ _ (jL T) (al.extBut _ _ (jL T)<|dr _ rfl);rw[R]at E an;refine a_ ⟨_,rfl,?_⟩;show A (.ref a.objs.size) _;rw[R];exact bi D E (F _ _ k.TOz Vq) (jj aR λm d=>F _ m k.i1z d) (jj aX λm d=>F _ m k.i2z d) an λn m o B L M d=>F n m o (bs n m o B L M d)
def Nu{i bX bO o q x B:ae}{A:PySem.Fin->ao->Prop}(I:O.handled=Y)(k:nr i bX bO o q x B)(r:fu j.heap i bX bO .none)(S:eZ j.heap bX (.ref o) (.ref q))(T:eZ j.heap bO g c)(t:j.heap.IsTupleIter o x U3)(z:j.heap.IsTupleIter q B U9)(J:j.heap.IsTuple x y)(U:j.heap.IsTuple B UL)(al:y[U3]?=Y\/UL[U9]?=Y)(L:∀Uu d,(∀n m,n≠i->n≠bO->n≠o->n≠q->j.heap.get? n=Z m->Uu.get? n=Z m)->(∃m,Uu.get? d=Z m/\m.cls=.type "StopIteration")->Uv (.ref d) {j with heap:=Uu}):
  wpAny (aS UG C) O (bw.«zip.__next__» ⟨[.ref i],[]⟩) A Uv j:=by
 show wpAny _ _ (field (.ref i) 2 >>= _) _ _ _;refine aB (fx r rfl (x:=.bool aq) rfl ?_);show wpAny _ _ (field (.ref i) 3 >>= _) _ _ _;refine aB (fx r rfl (x:=.ref bX) rfl<|aB<|gH S rfl ?_);show wpAny _ _ (bw.SmallTypes.ownedTupleIsFree (.ref i) >>= _) _ _ _;apply aB;unfold bw.SmallTypes.ownedTupleIsFree;refine aB (fx r rfl (x:=.none) rfl<|a_ ?_);simp only[hK];refine aB (iA (aB (fx r rfl (x:=.ref bO) rfl (aB (jP r ↥0 λbG w a=>?_)))));replace w:fu bG i bX bO .ellipsis:=w;apply aB;simp only[rQ,vu,pJ,ve];refine aB (aB<|nD ?_);show wpAny _ _ (bw.SmallTypes.nextOf (.ref o) >>= _) _ _ _;cases D:y[U3]? with
 |none=>
  refine aB (yA (j:={j with heap:=bG}) I (jj t λm d=>a.extBut _ m k.i1z d) (o5 J λm d=>a.extBut _ m k.l1z d) D λs d b E=>?_);let⟨@Vw,h,u⟩:=E;have M:fu s i bX bO .ellipsis:=b _ _ k.i1z.symm w;have F:d≠i:=λp=>by subst p;rw[M]at h;cases h;simp at u
  refine jP M ↥0 λG W l=>L G d (λn m v W H W p=>l.extBut _ _ v<|b _ _ H<|a.extBut _ _ v p) ⟨Vw,l.extBut _ _ F h,u⟩
 |some f=>
  have am:UL[U9]?=Y:=by
   rcases al with e|e
   ·rw[D]at e;cases e
   ·exact e
  refine aB (tS (j:={j with heap:=bG}) (jj t λm d=>a.extBut _ m k.i1z d) (o5 J λm d=>a.extBut _ m k.l1z d) D λs a2 b=>a_ ?_);have N:eZ s bO g c:=b.extBut _ _ k.TOi1 (a.extBut _ _ k.TOz T);refine aB (gH (s:={j with heap:=s}) N rfl<|aB<|o6 (s:={j with heap:=s}) N λG bd l=>?_);refine aB (kk<|a_<|aB<|aB<|nD ?_);show wpAny _ _ (bw.SmallTypes.nextOf (.ref q) >>= _) _ _ _;refine aB (yA (j:={j with heap:=G}) I (jj z λm d=>l.extBut _ m k.TOi2.symm<|b.extBut _ m k.i12.symm<|a.extBut _ m k.i2z d) (o5 U λm d=>l.extBut _ m k.l2TO<|b.extBut _ m k.l2i1<|a.extBut _ m k.l2z d) am λan d P E=>?_);let⟨@Vw,h,u⟩:=E;have Q:fu an i bX bO .ellipsis:=P _ _ k.i2z.symm (l.extBut _ _ k.TOz.symm<|b.extBut _ _ k.i1z.symm w);have F:d≠i:=λp=>by subst p;rw[Q]at h;cases h;simp at u
  refine jP Q ↥0 λap W R=>L ap d (λn m v as H a1 p=>R.extBut _ _ v<|P _ _ a1<|l.extBut _ _ as<|b.extBut _ _ H<|a.extBut _ _ v p) ⟨Vw,R.extBut _ _ F h,u⟩
end
variable{j:ao}{Vs:b3}{Ve Vm UU:List Nat}{own UJ:List aF}{Vy Vc n d c g:bj}{VN:List bz}{Uv:kx}{w s VX:Nat}{VZ x:a5}{fd:gC}{f:aF}{S y:List av}{B:List ab}{aH UY O UA U6 UQ U8 R N:List ae}{A:cJ}{r T:List bj}{Va:eF}{a:aK}{UT UD P h:az}{u:av}{o UM:Pos}{Q:Φ}
def j9(e:aZ)(a b:ae):aZ:=(((((e.push {cls:=.type "tuple_iterator",data:=.fields #[.ref a,.int 0 0]}).push {cls:=.type "tuple_iterator",data:=.fields #[.ref b,.int 0 0]}).push
 {cls:=.type "tuple",data:=.seq #[.ref e.objs.size,.ref (e.push {cls:=.type "tuple_iterator",data:=.fields #[.ref a,.int 0 0]}).objs.size]}).push {cls:=.type "tuple",data:=.seq #[.none,.none]}))
def Qh(a b:ae)(y UL:Array af):
    Meets (bw.«zip.__new__» ⟨[.type "zip", .ref a,.ref b],[]⟩) (λ_ UA j => j.heap.IsTuple a y /\ j.heap.IsTuple b UL /\
      UA (.ok<|.ret<|.ref (j9 j.heap a b).objs.size) {j with heap:=(j9 j.heap a b).push {cls:=.type "zip", data:=.fields #[.none,.bool aq,.bool aq,.ref ((j.heap.push {cls:=.type "tuple_iterator", data:=.fields #[.ref a,.int 0 0]}).push {cls:=.type "tuple_iterator", data:=.fields #[.ref b,.int 0 0]}).objs.size,
        .ref (((j.heap.push {cls:=.type "tuple_iterator", data:=.fields #[.ref a,.int 0 0]}).push {cls:=.type "tuple_iterator", data:=.fields #[.ref b,.int 0 0]}).push
  {cls:=.type "tuple", data:=.seq #[.ref j.heap.objs.size,.ref (j.heap.push {cls:=.type "tuple_iterator", data:=.fields #[.ref a,.int 0 0]}).objs.size]}).objs.size]} }) :=
  .of_wp λUG C O UA j e => by
    let⟨c,J,v,Vn,UN⟩:=j;let@⟨f,g,e⟩:=e;have k:=sub_zip;have h:aZ.IsTuple (ao.heap ⟨c,J,v,Vn,UN⟩) a y:=f;have i:aZ.IsTuple (ao.heap ⟨c.push {cls:=.type "tuple_iterator", data:=.fields #[.ref a,.int 0 0]}, J,v,Vn,UN⟩) b UL:=o5 g λm d => b5 _ d
    wp_walk using wpAny_pyIter_tuple h,wpAny_pyIter_tuple i
    exact ⟨_,rfl,e⟩
def ua(Q:Φ)(g c:ae):fj:=(
 ⟨λb h=>∃y UL f l,cp Q h g y/\cp Q h c UL/\y[b]?=Z f/\UL[b]?=Z l,
  λb h u P=>∃F f l,h F=Y/\u=.ref F/\P=upd h F (.tup [f,l])/\(∀y,cp Q h g y->y[b]?=Z f)/\(∀UL,cp Q h c UL->UL[b]?=Z l),
  λb h=>∃y UL,cp Q h g y/\cp Q h c UL/\(y.length<=b\/UL.length<=b)⟩)
def Au(g c i bX bO a d:ae)(b:Nat)(e:aZ):Prop:=(fu e i bX bO .none/\eZ e bX (.ref a) (.ref d)/\(∃o p,eZ e bO o p)/\e.IsTupleIter a g b/\e.IsTupleIter d c b)
theorem N2{UB:bC}{C:bg}(g c i bX bO D E:ae)(k:nr i bX bO D E g c):
  pa UB C Q (.Tuple T VX UM) (ua Q g c) [i,bX,bO,D,E] i (Au g c i bX bO D E) where
 mem:=by simp
 obj:=λb e X n s=>by
  let@⟨t,z,⟨o,@p,B⟩,⟨@U,al,_,bv⟩,⟨@Vq,am,_,ca⟩⟩:=X;simp only[bI,jT,e_]at s;rcases s with rfl|rfl|rfl|rfl|rfl
  ·exact⟨_,t,λu d=>by cases d⟩
  ·exact⟨_,z,λu d=>by cases d⟩
  ·exact⟨_,B,λu d=>by cases d⟩
  ·exact⟨_,al,λu d=>by rw[bv]at d;cases d⟩
  ·exact⟨_,am,λu d=>by rw[ca]at d;cases d⟩
 keep:=λb e Uu X q=>by
  let@⟨t,z,⟨o,@p,B⟩,I,J⟩:=X;exact⟨q i ↥0 _ t,q bX ↥0 _ z,⟨o,p,q bO ↥0 _ B⟩,jj I λm d=>q D ↥0 m d,jj J λm d=>q E ↥0 m d⟩
 item:=by
  intro a an ap as s b G j x h Uv v N X a1;subst an ap as;let⟨y,UL,f,@l,R,S,bi,bm⟩:=a1;let⟨@UI,a2,o,L⟩:=v.tuple R;let⟨@bd,be,Vj,cd⟩:=v.tuple S;let⟨@H,ce,ch⟩:=a2.get bi;let⟨@bn,ci,cl⟩:=be.get bm;have co:=X;let@⟨t,z,⟨bQ,@hF,B⟩,I,J⟩:=X;have M:j.TypeIs (.ref i) "zip" := ⟨_,t,rfl⟩;unfold hO;refine aB (oB (kr (name:=aF.ofString "__next__") M mL (iS mL M v8
   (Sa (A:=λu Ux=>wpAny (aS a.prog a.w) a.A (pure<|Z u) (λr cr=>∃H,r=Z H/\wpAny (aS a.prog a.w) a.A (ql (.Tuple T VX UM) (.ref i) H) (λ_ bs=>∃f P,aG a G x P bs/\cm f H/\(ua a.K g c).qz b h f P/\Au g c i bX bO D E (b+1) bs.heap/\∀c∈[i,bX,bO,D,E],P c=Y) Uv cr) Uv Ux)
    k t z B I J (show j.heap.IsTuple g UI.toArray from o) (show j.heap.IsTuple c bd.toArray from Vj) (f:=H) (l:=bn) ⇑ce ⇑ci λUu cs db ds dL eq fc=>a_ ⟨_,rfl,?_⟩) (ug _))));refine FA cs λev ex b8=>?_;have lt:∀n∈[i,bX,bO,D,E],n<j.heap.objs.size:=λn s=>by
   let@⟨t,z,⟨o,@p,B⟩,⟨@U,al,_⟩,⟨@Vq,am,_⟩⟩:=co;simp only[bI,jT,e_]at s;rcases s with rfl|rfl|rfl|rfl|rfl
   ·exact cb t
   ·exact cb z
   ·exact cb B
   ·exact cb al
   ·exact cb am
  have c8:∀n m,n∉[i,bX,bO,D,E]->j.heap.get? n=Z m->ev.get? n=Z m:=λn m s d=>by
   simp only[bI,jT,e_,not_or]at s;exact b8.extBut _ _ s.1 (fc n m s.1 s.2.2.1 s.2.2.2.1 s.2.2.2.2 d)
  have fd:j.heap.objs.size≠i:=jL (lt i ↥0);have fn:h j.heap.objs.size=Y:=v.aT.fresh (bT _);refine⟨.ref j.heap.objs.size,upd h j.heap.objs.size<|.tup [f,l],v.H8 (Va:=j.toks) N c8 (bT _) ⟨by show 2<=sizeLine;decide,[H,bn],.cons ch<|.cons cl .nil,?_⟩,rfl,⟨_,f,l,fn,rfl,rfl,λVJ L=>?_,λVJ L=>?_⟩,?_,λn s=>?_⟩
  ·exact⟨_,b8.extBut _ _ fd eq,rfl,0,rfl⟩
  ·rw[v.v5 L R];exact bi
  ·rw[v.v5 L S];exact bm
  ·exact⟨ex,b8.extBut _ _ k.TIz<|fc _ _ k.TIz k.TITO k.TIi1 k.TIi2 z,⟨_,_,b8.extBut _ _ k.TOz db⟩,jj ds λm d=>b8.extBut _ m k.i1z d,jj dL λm d=>b8.extBut _ m k.i2z d⟩
  ·rw[cW (d8<|lt n s)];exact (N n s).1
 done:=by
  intro a an ap as s b G j x h Uv v N X a1;subst an ap as;let⟨y,@UL,R,S,fr⟩:=a1;let⟨@UI,a2,o,L⟩:=v.tuple R;let⟨@bd,be,Vj,cd⟩:=v.tuple S;let@⟨t,z,⟨bQ,@hF,B⟩,I,J⟩:=X;have M:j.TypeIs (.ref i) "zip" := ⟨_,t,rfl⟩;have f2:=a2.length;have f4:=be.length;unfold hO;refine aB (oB (kr (name:=aF.ofString "__next__") M mL (iS mL M v8
   (Nu (v.ok.hd s) k t z B I J (show j.heap.IsTuple g UI.toArray from o) (show j.heap.IsTuple c bd.toArray from Vj) (by
    rcases fr with e|e
    ·exact .inl (by simp;lia)
    ·exact .inr (by simp;lia)) λUu d fc ⟨m,f0,f1⟩=>?_) (ug _))))
  refine aB (uX (T := "StopIteration") (b:=aa) ⟨m,f0,f1⟩ zA<|a_ ⟨rfl,v.Fy (Va:=j.toks) N λn m s d=>?_⟩);simp only[bI,jT,e_,not_or]at s;exact fc n m s.1 s.2.2.1 s.2.2.2.1 s.2.2.2.2 d
 self:=λ_ W W W W X e=>wo X.1 e
section
variable{a:aK}
def R5(Q:Φ)(Vo:fh):bX:=(λx h UA=>Vo x h λS UD=>∃g c,S=[.ref g,.ref c]/\(∃y,cp Q UD g y)/\(∃UL,cp Q UD c UL)/\UA (ua Q g c) UD)
def PD{Vo:fh}{UJ:Pos}(H:ey a "zip")(I:a.ay "zip" = Y)(J:gD a [g,c] Vo)(UH:bK [g,c] a.env=[(aq,b6 g a.env),(aq,b6 c a.env)]:=by rfl)(v:bK [c] a.env=[(aq,b6 c a.env)]:=by rfl):
  kB a (.Tuple T VX UJ) (.Call (.Name "zip" o) [g,c] [] UM) (R5 a.K Vo):=by
 intro G j x h UA w e;refine Call_ (pS w H I boot_zip (uE (bW (J UM G j x h _ w e) λUR b ⟨S,UD,l,L,M⟩=>?_) (by rw[UH,v]) (by rw[v];rfl)));let⟨f,@i,d,⟨@y,N⟩,⟨@UL,O⟩,p⟩:=M;subst d;cases L with
 |cons r t=>
  cases t with
  |cons Vs t=>
   cases t;cases r;cases Vs;let⟨@UI,an,o,ap⟩:=l.tuple N;let⟨@P,as,Vj,a1⟩:=l.tuple O;have R:f<b.heap.objs.size:=by let⟨@m,d,W⟩:=o;exact cb d
   have al:i<b.heap.objs.size:=by let⟨@m,d,W⟩:=Vj;exact cb d
   refine Dq Bu ∅ (CL _ _) (F5 _ _) (λam=>Bo am _ _) GP (Qh f i UI.toArray P.toArray) ⟨o,Vj,?_⟩;have u:(b.heap.push {cls:=.type "tuple_iterator",data:=.fields #[.ref f,.int 0 0]}).objs.size=b.heap.objs.size+1:=iE ..;have q:((b.heap.push {cls:=.type "tuple_iterator",data:=.fields #[.ref f,.int 0 0]}).push {cls:=.type "tuple_iterator",data:=.fields #[.ref i,.int 0 0]}).objs.size=b.heap.objs.size+2:=by rw[iE,u]
   have s:(((b.heap.push {cls:=.type "tuple_iterator",data:=.fields #[.ref f,.int 0 0]}).push {cls:=.type "tuple_iterator",data:=.fields #[.ref i,.int 0 0]}).push
    {cls:=.type "tuple",data:=.seq #[.ref b.heap.objs.size,.ref (b.heap.push {cls:=.type "tuple_iterator",data:=.fields #[.ref f,.int 0 0]}).objs.size]}).objs.size=b.heap.objs.size+3:=by rw[iE,q]
   have z:(j9 b.heap f i).objs.size=b.heap.objs.size+4:=by unfold j9;rw[iE,s]
   show _/\_;refine⟨⟨_,dr _ rfl,rfl⟩,wo (TI:=b.heap.objs.size+2) (TO:=b.heap.objs.size+3) (f0:=.none) ?_ ?_⟩
   ·rw[q,s];exact dr _ rfl
   ·rw[q,s,z];have A:((j9 b.heap f i).push {cls:=.type "zip",data:=.fields #[.none,.bool aq,.bool aq,.ref<|b.heap.objs.size+2,.ref<|b.heap.objs.size+3]}).get? (b.heap.objs.size+4)=Z {cls:=.type "zip",data:=.fields #[.none,.bool aq,.bool aq,.ref<|b.heap.objs.size+2,.ref<|b.heap.objs.size+3]}:=by rw[<-z];exact dr _ rfl
    have B:((j9 b.heap f i).push {cls:=.type "zip",data:=.fields #[.none,.bool aq,.bool aq,.ref<|b.heap.objs.size+2,.ref<|b.heap.objs.size+3]}).get? (b.heap.objs.size+3)=Z {cls:=.type "tuple",data:=.seq #[.none,.none]}:=by
     rw[<-s];exact b5 _ (dr _ rfl)
    have C:((j9 b.heap f i).push {cls:=.type "zip",data:=.fields #[.none,.bool aq,.bool aq,.ref<|b.heap.objs.size+2,.ref<|b.heap.objs.size+3]}).get? (b.heap.objs.size+2)=Z {cls:=.type "tuple",data:=.seq #[.ref b.heap.objs.size,.ref<|b.heap.objs.size+1]}:=by
     rw[<-q,<-u];exact b5 _ (b5 _<|dr _ rfl)
    have D:((j9 b.heap f i).push {cls:=.type "zip",data:=.fields #[.none,.bool aq,.bool aq,.ref<|b.heap.objs.size+2,.ref<|b.heap.objs.size+3]}).get? (b.heap.objs.size+1)=Z {cls:=.type "tuple_iterator",data:=.fields #[.ref i,.int 0 0]}:=by
     rw[<-u];exact b5 _ (b5 _<|b5 _<|dr _ rfl)
    have E:((j9 b.heap f i).push {cls:=.type "zip",data:=.fields #[.none,.bool aq,.bool aq,.ref<|b.heap.objs.size+2,.ref<|b.heap.objs.size+3]}).get? b.heap.objs.size=Z {cls:=.type "tuple_iterator",data:=.fields #[.ref f,.int 0 0]}:=
     b5 _ (b5 _<|b5 _<|b5 _<|dr _ rfl);have c8:∀n m,b.heap.get? n=Z m->((j9 b.heap f i).push {cls:=.type "zip",data:=.fields #[.none,.bool aq,.bool aq,.ref<|b.heap.objs.size+2,.ref<|b.heap.objs.size+3]}).get? n=Z m:=λn m d=>
     b5 _ (b5 _<|b5 _<|b5 _<|b5 _ d);generalize ((j9 b.heap f i).push {cls:=.type "zip",data:=.fields #[.none,.bool aq,.bool aq,.ref<|b.heap.objs.size+2,.ref<|b.heap.objs.size+3]})=bd at E D C B A c8 ⊢;have k:nr (b.heap.objs.size+4) (b.heap.objs.size+2) (b.heap.objs.size+3) b.heap.objs.size (b.heap.objs.size+1) f i:=Bb _ _ _ R al;refine⟨_,_,_,_,UD,rfl,l.kept (Va:=b.toks) c8,N2 f i _ _ _ _ _ k,⟨A,C,⟨_,_,B⟩,⟨_,E,rfl,rfl⟩,⟨_,D,rfl,rfl⟩⟩,λn F=>?_,p⟩;have:b.heap.objs.size<=n:=by
     simp only[bI,jT,e_]at F;rcases F with rfl|rfl|rfl|rfl|rfl
     ·exact lL _ _
     ·exact lL _ _
     ·exact lL _ _
     ·exact bT _
     ·exact lL _ _
    exact l.ry this (l.aT.fresh this)
end
def CN(Q:Φ)(h:az)(f:av)(F:String)(c:Bool):Prop:=(
 (∃b,f=.int b/\((F = "int" /\ c=aa)\/(F = "tuple" /\ c=aq)\/(F = "str" /\ c=aq)\/(F = "bool" /\ c=aq)\/(F = "list" /\ c=aq)))\/
 (∃b,f=.aC b/\((F = "bool" /\ c=aa)\/(F = "int" /\ c=aa)\/(F = "tuple" /\ c=aq)\/(F = "str" /\ c=aq)\/(F = "list" /\ c=aq)))\/
 (∃b,f=.str b/\((F = "str" /\ c=aa)\/(F = "int" /\ c=aq)\/(F = "tuple" /\ c=aq)\/(F = "bool" /\ c=aq)\/(F = "list" /\ c=aq)))\/
 (∃g y,f=.ref g/\cp Q h g y/\((F = "tuple" /\ c=aa)\/(F = "int" /\ c=aq)\/(F = "str" /\ c=aq)\/(F = "bool" /\ c=aq)\/(F = "list" /\ c=aq)))\/
 (∃g y,f=.ref g/\dm Q h g y/\((F = "list" /\ c=aa)\/(F = "int" /\ c=aq)\/(F = "str" /\ c=aq)\/(F = "bool" /\ c=aq)\/(F = "tuple" /\ c=aq))))
section
variable{a:aK}
def Og:eY a (.builtin "isinstance") (λy h A=>∃f F c,y=[f,.ty F]/\CN a.K h f F c/\A (.aC c) h):=by
 intro G j x h y UR A n r e;let⟨f,F,@c,rfl,Uw,p⟩:=e;cases r with
 |cons r q=>
  cases q with
  |cons Vs q=>
   cases q;cases Vs;have l:∀{c:Bool},A (.aC c) h->eN a G x A (.bool c) j:=λ{c} p=>⟨.aC c,h,n,rfl,p⟩;have d:∀{c:Bool},A (.aC c) h->eN a G x A (.bool c) {j with toks:=j.toks+1}:=λ{c} p=>⟨.aC c,h,n.tok _,rfl,p⟩;rcases Uw with ⟨b,rfl,Uw⟩|⟨b,rfl,Uw⟩|⟨b,rfl,Uw⟩|⟨g,y,rfl,UH,Uw⟩|⟨g,y,rfl,UH,Uw⟩
   ·let⟨@I,rfl⟩:=r;rcases Uw with ⟨rfl,rfl⟩|⟨rfl,rfl⟩|⟨rfl,rfl⟩|⟨rfl,rfl⟩|⟨rfl,rfl⟩
    ·exact IsiPair.int_int (l p)
    ·exact IsiPair.int_tuple (d p)
    ·exact IsiPair.int_str (d p)
    ·exact IsiPair.int_bool (d p)
    ·exact IsiPair.int_list (d p)
   ·cases r;rcases Uw with ⟨rfl,rfl⟩|⟨rfl,rfl⟩|⟨rfl,rfl⟩|⟨rfl,rfl⟩|⟨rfl,rfl⟩
    ·exact IsiPair.bool_bool (l p)
    ·exact IsiPair.bool_int (l p)
    ·exact IsiPair.bool_tuple (d p)
    ·exact IsiPair.bool_str (d p)
    ·exact IsiPair.bool_list (d p)
   ·let⟨@I,rfl⟩:=r;rcases Uw with ⟨rfl,rfl⟩|⟨rfl,rfl⟩|⟨rfl,rfl⟩|⟨rfl,rfl⟩|⟨rfl,rfl⟩
    ·exact IsiPair.str_str (l p)
    ·exact IsiPair.str_int (d p)
    ·exact IsiPair.str_tuple (d p)
    ·exact IsiPair.str_bool (d p)
    ·exact IsiPair.str_list (d p)
   ·cases r;let⟨@UI,s,⟨@m,i,k,W⟩,t⟩:=n.tuple UH;rcases Uw with ⟨rfl,rfl⟩|⟨rfl,rfl⟩|⟨rfl,rfl⟩|⟨rfl,rfl⟩|⟨rfl,rfl⟩
    ·exact IsiPair.tuple_tuple i k (l p)
    ·exact IsiPair.tuple_int i k (d p)
    ·exact IsiPair.tuple_str i k (d p)
    ·exact IsiPair.tuple_bool i k (d p)
    ·exact IsiPair.tuple_list i k (d p)
   ·cases r;let⟨@UI,s,o,t⟩:=n.list UH;let⟨@m,i,k,W⟩:=o.isList;rcases Uw with ⟨rfl,rfl⟩|⟨rfl,rfl⟩|⟨rfl,rfl⟩|⟨rfl,rfl⟩|⟨rfl,rfl⟩
    ·exact IsiPair.list_list i k (l p)
    ·exact IsiPair.list_int i k (d p)
    ·exact IsiPair.list_str i k (d p)
    ·exact IsiPair.list_bool i k (d p)
    ·exact IsiPair.list_tuple i k (d p)
def PQ:∀{D:List Bool}{UR:List af},bZ (D.map av.aC) UR->∀(b:Nat) (u:af),UR[b]?=Z u->∃c,D[b]?=Z c/\u=af.bool c:=by
 intro D UR r b u e;have a:=r.length;rw[bS]at a;have Uw:b<D.length:=by rw[a];exact (gp.mp e).1
 let⟨@H,d,g⟩:=r.get (b:=b) (f:=av.aC D[b]) (by simp[Uw]);rw[e]at d;cases d;exact⟨D[b],by simp[Uw],g⟩
def Mk(m:a.calm=aa):eY a (.builtin "all") (λy h A=>∃M D,y=[.ref M]/\h M=Z (.lst<|List.map av.aC D)/\A (.aC<|D.all id) h):=by
 intro G j x h y UR A f r e;let⟨M,@D,rfl,n,p⟩:=e;let⟨@H,rfl,o⟩:=iM r;cases o;let@⟨i,⟨UI,@s,g,d⟩⟩:=f.aT M _ n;have k:j.heap.IsList M UI.toArray:=⟨_,d,rfl,s,rfl⟩;refine call_all_walk (wpAny_pyIter_list k ⟨j.heap.objs.size,[j.heap.objs.size,M],[j.heap.objs.size],UI.toArray.size,_,_,λb=>(D[b]?).getD aa,rfl,od.list (A:=a.A.in1) (f.ok.hd m) _ M (d8<|cb d) UI.toArray,
  ⟨⟨_,dr _ rfl,rfl,rfl⟩,k.push _⟩,λb u Ux z B q l=>?_,λUu Vn t=>?_⟩)
 ·let⟨@c,v,rfl⟩:=PQ g b u ⇑q;simp only[v,q7]at l;exact mq l
 ·have w:UI.toArray.size=D.length:=by
   have:=g.length;rw[bS]at this;rw[cX,this]
  rw[w,LSm.range_all];exact⟨.aC _,h,f.kept<|LSm.kept_iter t,rfl,p⟩
def Mr:dV a (gk .Mult) (p4 IntMulOk λb w=>.int<|b*w):=u3 λ_ W W W W W W c p=>mul_int p c
end
inductive ak where
 | im (v:ab)
 | dd
 | cF (B:List ab)
 | lst (B:List ab)
 | dJ (UK:List (eQ×ab))
 | aQ (UK:List (List ab×ab))
 | hM (y:List ak)
 | pB (y:List ak)
 | oj (UK:List (List ab×ab))
 | dL (UK:List (List ab×List ab))
variable{m:Option ak}{Vk:List ak->Option ak}{L:ak->ak->Option ak}{v:ak}
abbrev a0:=List (Option ak)
variable{UO k:a0}{e:List ak->a0->Option a0}
abbrev e1{UX:Type}(h:az):List (UX×ab)->List (UX×av)->Prop:=er λo p=>o.1=p.1/\cO h o.2 p.2
def e1.mono{UX:Type}{M:List (UX×ab)}{E:List (UX×av)}(I:oX h P)(e:e1 h M E):e1 P M E:=er.vs e λ_ W i=>⟨i.1,i.2.mono I⟩
structure eL(h P:az):Prop where
 tup:oX h P
 dx:∀g m H,h g=Z (.dx m H)->P g=Z (.dx m H)
def mw(h:az):List (List ab×List ab)->List (List ab×av)->List ae->Prop
 |[],a,R=>a=[]/\R=[]
 |o::r,a,R=>∃c y C b,a=(o.1,.ref c)::C/\h c=Z (.lst y)/\bP h o.2 y/\mw h r C b/\R=c::b
theorem mw.mono{h P:az}(I:eL h P):∀{M:List (List ab×List ab)}{a:List (List ab×av)}{R:List ae},mw h M a R->(∀g∈R,∀m,h g=Z m->P g=Z m)->mw P M a R
 |[],_,_,e,_=>e
 |o::r,a,R,e,q=>by
  let⟨c,y,C,@b,d,t,z,f,rfl⟩:=e;exact⟨c,y,C,b,d,q c (.head _) _ t,z.mono I.tup,mw.mono I f λg i=>q g<|.tail _ i,rfl⟩
mutual
def cE(h:az):ak->av->List ae->Prop
 |.im v,u,N=>cO h v u/\N=[]
 |.dd,_,N=>N=[]
 |.cF B,u,N=>∃g y m,u=.ref g/\h g=Z (.dx m<|.lst y)/\bP h B y/\N=[]
 |.lst B,u,N=>∃g y,u=.ref g/\h g=Z (.lst y)/\bP h B y/\N=[g]
 |.dJ UK,u,N=>∃g U,u=.ref g/\h g=Z (.dJ U)/\e1 h UK U/\N=[g]
 |.aQ UK,u,N=>∃g U,u=.ref g/\h g=Z (.aQ U)/\e1 h UK U/\N=[g]
 |.hM B,u,N=>∃g y R,u=.ref g/\h g=Z (.lst y)/\eh h B y R/\N=g::R
 |.pB B,u,N=>∃g y,u=.ref g/\h g=Z (.tup y)/\eh h B y N
 |.oj UK,u,N=>∃g U m,u=.ref g/\h g=Z (.dx m<|.aQ U)/\e1 h UK U/\N=[]
 |.dL UK,u,N=>∃g U R,u=.ref g/\h g=Z (.aQ U)/\mw h UK U R/\N=g::R
def eh(h:az):List ak->List av->List ae->Prop
 |[],S,N=>S=[]/\N=[]
 |v::B,S,N=>∃u r UQ U6,S=u::r/\cE h v u UQ/\eh h B r U6/\N=UQ++U6
end
mutual
theorem cE.mono{h P:az}(I:eL h P):∀{v:ak}{u:av}{N:List ae},cE h v u N->(∀g∈N,∀m,h g=Z m->P g=Z m)->cE P v u N
 |.im v,u,N,e,_=>⟨e.1.mono I.tup,e.2⟩
 |.dd,u,N,e,_=>e
 |.cF B,u,N,e,_=>by
  let⟨g,y,@m,rfl,t,z,rfl⟩:=e;exact⟨g,y,m,rfl,I.dx _ _ _ t,z.mono I.tup,rfl⟩
 |.lst B,u,N,e,q=>by
  let⟨g,@y,rfl,t,z,rfl⟩:=e;exact⟨g,y,rfl,q g (.head _) _ t,z.mono I.tup,rfl⟩
 |.dJ UK,u,N,e,q=>by
  let⟨g,@y,rfl,t,z,rfl⟩:=e;exact⟨g,y,rfl,q g (.head _) _ t,z.mono I.tup,rfl⟩
 |.aQ UK,u,N,e,q=>by
  let⟨g,@y,rfl,t,z,rfl⟩:=e;exact⟨g,y,rfl,q g (.head _) _ t,z.mono I.tup,rfl⟩
 |.hM B,u,N,e,q=>by
  let⟨g,y,@R,rfl,t,z,rfl⟩:=e;exact⟨g,y,R,rfl,q g (.head _) _ t,eh.mono I z λc a=>q c<|.tail _ a,rfl⟩
 |.pB B,u,N,e,q=>by
  let⟨g,@y,rfl,t,z⟩:=e;exact⟨g,y,rfl,I.tup g y t,eh.mono I z q⟩
 |.oj UK,u,N,e,_=>by
  let⟨g,y,@m,rfl,t,z,rfl⟩:=e;exact⟨g,y,m,rfl,I.dx _ _ _ t,z.mono I.tup,rfl⟩
 |.dL UK,u,N,e,q=>by
  let⟨g,U,@R,rfl,t,z,rfl⟩:=e;exact⟨g,U,R,rfl,q g (.head _) _ t,z.mono I λc a=>q c<|.tail _ a,rfl⟩
theorem eh.mono{h P:az}(I:eL h P):∀{B:List ak}{S:List av}{N:List ae},eh h B S N->(∀g∈N,∀m,h g=Z m->P g=Z m)->eh P B S N
 |[],S,N,e,_=>e
 |v::B,S,N,e,q=>by
  let⟨u,r,UQ,@U6,rfl,t,z,rfl⟩:=e;exact⟨u,r,UQ,U6,rfl,cE.mono I t λg a=>q g<|eG _ a,eh.mono I z λg a=>q g<|ei _ a,rfl⟩
end
def fS(h:az)(g:ae):Prop:=(∃m,h g=Z m/\(∀y,m≠.tup y)/\∀o H,m≠.dx o H)
theorem mw.chg{h:az}:∀{M:List (List ab×List ab)}{b:List (List ab×av)}{R:List ae},mw h M b R->∀g∈R,fS h g
 |[],_,R,e,g,a=>by rw[e.2]at a;cases a
 |o::r,b,R,e,g,a=>by
  let⟨c,y,C,@i,d,t,z,f,rfl⟩:=e;rcases bI.mp a with rfl|a
  ·exact⟨_,t,(λ_ d=>by cases d),(λ_ W d=>by cases d)⟩
  ·exact mw.chg f g a
mutual
theorem cE.chg{h:az}:∀{v:ak}{u:av}{N:List ae},cE h v u N->∀g∈N,fS h g
 |.im v,u,N,e,g,b=>by rw[e.2]at b;cases b
 |.dd,u,N,e,g,b=>by rw[show N=[] from e]at b;cases b
 |.cF B,u,N,e,c,a=>by
  let⟨g,y,@m,rfl,t,z,rfl⟩:=e;cases a
 |.lst B,u,N,e,c,a=>by
  let⟨g,@y,rfl,t,z,rfl⟩:=e;rw[cD.mp a];exact⟨_,t,(λ_ d=>by cases d),(λ_ W d=>by cases d)⟩
 |.dJ UK,u,N,e,c,a=>by
  let⟨g,@y,rfl,t,z,rfl⟩:=e;rw[cD.mp a];exact⟨_,t,(λ_ d=>by cases d),(λ_ W d=>by cases d)⟩
 |.aQ UK,u,N,e,c,a=>by
  let⟨g,@y,rfl,t,z,rfl⟩:=e;rw[cD.mp a];exact⟨_,t,(λ_ d=>by cases d),(λ_ W d=>by cases d)⟩
 |.hM B,u,N,e,c,a=>by
  let⟨g,y,@R,rfl,t,z,rfl⟩:=e;rcases bI.mp a with rfl|a
  ·exact⟨_,t,(λ_ d=>by cases d),(λ_ W d=>by cases d)⟩
  ·exact eh.chg z c a
 |.pB B,u,N,e,c,a=>by
  let⟨g,@y,rfl,t,z⟩:=e;exact eh.chg z c a
 |.oj UK,u,N,e,c,a=>by
  let⟨g,y,@m,rfl,t,z,rfl⟩:=e;cases a
 |.dL UK,u,N,e,c,a=>by
  let⟨g,U,@R,rfl,t,z,rfl⟩:=e;rcases bI.mp a with rfl|a
  ·exact⟨_,t,(λ_ d=>by cases d),(λ_ W d=>by cases d)⟩
  ·exact z.chg c a
theorem eh.chg{h:az}:∀{B:List ak}{S:List av}{N:List ae},eh h B S N->∀g∈N,fS h g
 |[],S,N,e,g,a=>by rw[e.2]at a;cases a
 |v::B,S,N,e,g,a=>by
  let⟨u,r,UQ,@U6,rfl,t,z,rfl⟩:=e;rcases dv.mp a with a|a
  ·exact cE.chg t g a
  ·exact eh.chg z g a
end
theorem eh.length:∀{B:List ak}{S:List av}{N:List ae},eh h B S N->B.length=S.length
 |[],S,N,e=>by rw[e.1];rfl
 |v::B,S,N,e=>by
  let⟨u,r,UQ,@U6,rfl,t,z,rfl⟩:=e;rw[dT,dT,z.length]
theorem bP.length:∀{B:List ab}{S:List av},bP h B S->B.length=S.length
 |[],S,e=>by rw[show S=[] from e];rfl
 |v::B,S,e=>by
  let⟨u,@r,rfl,t,z⟩:=e;rw[dT,dT,z.length]
def mW(h:az):Option ak->Option av->List ae->Prop
 |none,_,N=>N=[]
 |some v,f,N=>∃u,f=Z u/\cE h v u N
def bA(h:az):a0->a5->List ae->Prop
 |[],x,N=>x=[]/\N=[]
 |m::k,x,N=>∃f r UQ U6,x=f::r/\mW h m f UQ/\bA h k r U6/\N=UQ++U6
structure bk(h:az)(N:List ae)(P:az)(U8:List ae):Prop where
 keep:∀g m,h g=Z m->g∉N->P g=Z m
 sub:∀g∈U8,g∈N\/h g=Y
 ai:U8.Nodup
 tup:eL h P
 grow:∀g m,h g=Z m->∃Vb,P g=Z Vb
theorem mW.mono(I:eL h P):∀{m:Option ak}{f:Option av}{N:List ae},mW h m f N->(∀g∈N,∀m,h g=Z m->P g=Z m)->mW P m f N
 |none,_,_,e,_=>e
 |some v,f,N,e,q=>by
  let⟨@u,rfl,e⟩:=e;exact⟨u,rfl,e.mono I q⟩
theorem bA.mono{h P:az}(I:eL h P):∀{k:a0}{x:a5}{N:List ae},bA h k x N->(∀g∈N,∀m,h g=Z m->P g=Z m)->bA P k x N
 |[],x,N,e,_=>e
 |m::k,x,N,e,q=>by
  let⟨f,r,UQ,@U6,rfl,t,z,rfl⟩:=e;exact⟨f,r,UQ,U6,rfl,t.mono I λg a=>q g<|eG _ a,bA.mono I z λg a=>q g<|ei _ a,rfl⟩
theorem mW.chg:∀{m:Option ak}{f:Option av}{N:List ae},mW h m f N->∀g∈N,fS h g
 |none,_,N,e,g,a=>by rw[show N=[] from e]at a;cases a
 |some v,f,N,e,g,a=>by
  let⟨@u,rfl,e⟩:=e;exact e.chg g a
theorem bA.chg{h:az}:∀{k:a0}{x:a5}{N:List ae},bA h k x N->∀g∈N,fS h g
 |[],x,N,e,g,a=>by rw[e.2]at a;cases a
 |m::k,x,N,e,g,a=>by
  let⟨f,r,UQ,@U6,rfl,t,z,rfl⟩:=e;rcases dv.mp a with a|a
  ·exact t.chg g a
  ·exact bA.chg z g a
theorem bA.len{h:az}:∀{k:a0}{x:a5}{N:List ae},bA h k x N->k.length=x.length
 |[],x,N,e=>by rw[e.1];rfl
 |m::k,x,N,e=>by
  let⟨f,r,UQ,@U6,rfl,t,z,rfl⟩:=e;rw[dT,dT,bA.len z]
def ak.dA:ak->Bool
 |.im _=>aa
 |.cF _=>aa
 |.oj _=>aa
 |_=>aq
def cE.dA(e:cE h v u N)(n:v.dA=aa):N=[]:=by
 cases v with
 |im v=>exact e.2
 |cF B=>let⟨g,y,@m,rfl,t,z,rfl⟩:=e;rfl
 |oj B=>let⟨g,y,@m,rfl,t,z,rfl⟩:=e;rfl
 |_=>cases n
theorem bA.out{h:az}:∀{k:a0}{x:a5}{N:List ae}{b:Nat}{v:ak},bA h k x N->k[b]?=Z (Z v)->∃u UQ U6,x[b]?=Z (Z u)/\cE h v u UQ/\bA h (k.set b<|Z .dd) x U6/\(U6++UQ).Perm N
 |[],x,N,b,v,e,d=>by simp at d
 |m::k,x,N,0,v,e,d=>by
  let⟨f,r,UQ,@U6,rfl,t,z,rfl⟩:=e;simp at d;subst d;let⟨@u,rfl,t⟩:=t;exact⟨u,UQ,U6,rfl,t,⟨Z u,r,[],U6,rfl,⟨u,rfl,rfl⟩,z,rfl⟩,dy⟩
 |m::k,x,N,b+1,v,e,d=>by
  let⟨f,r,UQ,@U6,rfl,t,z,rfl⟩:=e;let⟨u,c,@a,g,i,j,l⟩:=bA.out (b:=b) z ⇑d;refine⟨u,c,UQ++a,by simpa using g,i,⟨f,r,UQ,a,rfl,t,j,rfl⟩,?_⟩;rw[bu];exact ed _ l
theorem bA.put{h:az}:∀{k:a0}{x:a5}{N:List ae}{b:Nat}{v:ak}{u:av}{R:List ae},bA h k x N->cE h v u R->b<k.length->∃UQ U6,bA h (k.set b<|Z v) (x.set b<|Z u) UQ/\(UQ++U6).Perm (N++R)
 |[],x,N,b,v,u,R,e,C,M=>by simp at M
 |m::k,x,N,0,v,u,R,e,C,M=>by
  let⟨f,r,UQ,@U6,rfl,t,z,rfl⟩:=e;refine⟨R++U6,UQ,⟨Z u,r,R,U6,rfl,⟨u,rfl,C⟩,z,rfl⟩,?_⟩;refine dy.trans ?_;rw[bu];exact ed _ dy
 |m::k,x,N,b+1,v,u,R,e,C,M=>by
  let⟨f,r,UQ,@U6,rfl,t,z,rfl⟩:=e;let⟨a,@c,d,g⟩:=bA.put (b:=b) z C ⇑M;refine⟨UQ++a,c,⟨f,_,UQ,a,rfl,t,d,rfl⟩,?_⟩;rw[bu,bu];exact ed _ g
def bA.dA{b:Nat}(e:bA h k x N)(d:k[b]?=Z (Z v))(n:v.dA=aa):∃u,x[b]?=Z (Z u)/\cE h v u []:=by
 let⟨u,UQ,@U6,c,a,W⟩:=e.out d;obtain rfl:=a.dA n;exact⟨u,c,a⟩
def TF{b:Nat}(e:x[b]?=Z (Z u)):x.set b (Z u)=x:=by
 refine qm λw=>?_;by_cases d:b=w
 ·subst d;rw[e,tB (gp.mp e).1]
 ·rw[nY d]
def bA.back{b:Nat}(e:bA h k x N)(C:cE h v u R)(a:x[b]?=Z (Z u)):∃UQ U6,bA h (k.set b<|Z v) x UQ/\(UQ++U6).Perm (N++R):=by
 have M:b<k.length:=by rw[e.len];exact (gp.mp a).1
 let⟨UQ,@U6,t,z⟩:=e.put (b:=b) C M;rw[TF a]at t;exact⟨UQ,U6,t,z⟩
def eL.of(L:q8 h P)(J:∀g m H,h g=Z (.dx m H)->P g=Z (.dx m H)):eL h P:=⟨⟨L,J⟩,J⟩
def x_(h:az):eL h h:=⟨⟨λ_ W d=>d,λ_ W W d=>d⟩,λ_ W W d=>d⟩
def eL.trans(g:eL h UD)(c:eL UD UT):eL h UT:=⟨⟨λf y d=>c.tup.t f y<|g.tup.t f y d,λf m H d=>c.dx f m H<|g.dx f m H d⟩,λf m H d=>c.dx f m H<|g.dx f m H d⟩
def bk.refl(e:U8.Nodup)(j:∀g∈U8,g∈N):bk h N h U8:=⟨λ_ W d W=>d,λg a=>.inl<|j g a,e,x_ h,λ_ m d=>⟨m,d⟩⟩
def bk.perm(e:N.Nodup)(o:U8.Perm N):bk h N h U8:=bk.refl ((o.nodup_iff).mpr e) λg a=>o.mem_iff.mp a
def bk.trans(g:bk h N UD (UQ++UA))(c:bk UD UQ UT U6)(j:∀f∈UA,fS UD f):bk h N UT (U6++UA):=by
 have ai:=dz.mp g.ai;have k:∀f∈U6,f∉UA:=λf a i=>by
  rcases c.sub f a with e|e
  ·exact ai.2.2 f e f i rfl
  ·let⟨@m,d,W⟩:=j f i;rw[d]at e;cases e
 refine⟨λf m d a=>?_,λf a=>?_,dz.mpr ⟨c.ai,ai.2.1,λf a l n d=>k f a<|d ▸ n⟩,g.tup.trans c.tup,λf m d=>let ⟨Vb,b⟩:=g.grow f m d;c.grow f Vb b⟩
 ·refine c.keep f m (g.keep f m d a) λt=>?_;rcases g.sub f (eG _ t) with e|e
  ·exact a e
  ·rw[d]at e;cases e
 ·rcases dv.mp a with a|a
  ·rcases c.sub f a with e|e
   ·exact g.sub f (eG _ e)
   ·refine .inr ?_;cases d:h f with
    |none=>rfl
    |some m=>
     let⟨@Vb,b⟩:=g.grow f m d;rw[b]at e;cases e
  ·exact g.sub f (ei _ a)
def c1.tupS(j:c1 h P):eL h P:=⟨⟨λg y d=>j g _ d,λg m H d=>j g _ d⟩,λg m H d=>j g _ d⟩
def HZ{g c:ae}{m H:gi}(d:h c=Z m)(e:h g=Y):L2.upd h g H c=Z m:=by rw[cW (hE d e)];exact d
def c1.upd(j:c1 h P){g:ae}{m:gi}(e:P g=Y):c1 h (L2.upd P g m):=λc H d=>HZ (j c H d) e
abbrev aE(U1:Type):=a0->Option (U1×a0)
variable{VV:aE ak}{VD q:aE Bool}
inductive bN where
 | aY (b:Nat)
 | cB (v:ak)
variable{Vp VB:aE bN}{J:aE (List bN)}
def dn(k:a0):bN->Option ak
 |.aY b=>(k[b]?).getD Y
 |.cB v=>Z v
def iV(h:az)(x:a5):bN->av->List ae->Prop
 |.aY b,u,UA=>x[b]?=Z (Z u)/\UA=[]
 |.cB v,u,UA=>cE h v u UA
def ni(J:aE ak):cf:=(λx h A=>∃k N r UO,bA h k x N/\N.Nodup/\J k=Z (r,UO)/\∀u P U8 UA,bA P UO x U8->cE P r u UA->bk h N P (U8++UA)->A u P)
def m6(J:aE bN):cf:=(λx h A=>∃k N r UO,bA h k x N/\N.Nodup/\J k=Z (r,UO)/\∀u P U8 UA,bA P UO x U8->iV P x r u UA->bk h N P (U8++UA)->A u P)
def ju(J:aE Bool):eF:=(λx h A=>∃k N c UO,bA h k x N/\N.Nodup/\J k=Z (c,UO)/\∀P U8,bA P UO x U8->bk h N P U8->A c P)
def cv(a:aK)(d:bj)(J:aE ak):Prop:=(∀ ⦃o⦄,y1 a d (ni J) o)
def dH(a:aK)(d:bj)(J:aE bN):Prop:=(∀ ⦃o⦄,y1 a d (m6 J) o)
def hP(a:aK)(d:bj)(J:aE Bool):Prop:=(∀ ⦃o⦄,GL a d (ju J) o)
def en{I Va:cf}(e:bU a d I)(b:∀x h A,Va x h A->I x h A):bU a d Va:=λG j x h A c f=>e G j x h A c (b x h A f)
def tM{I:eF}(e:hL a d I)(b:∀x h A,Va x h A->I x h A):hL a d Va:=λG j x h A c f=>e G j x h A c (b x h A f)
def iV.mono{r:bN}(e:iV h x r u UA)(I:eL h P)(q:∀g∈UA,∀m,h g=Z m->P g=Z m):iV P x r u UA:=by
 cases r with
 |aY b=>exact e
 |cB v=>exact cE.mono I e q
def iV.chg{r:bN}(e:iV h x r u UA):∀g∈UA,fS h g:=by
 cases r with
 |aY b=>intro g a;rw[e.2]at a;cases a
 |cB v=>exact cE.chg e
def e8(h:az)(v:ak)(u:av):Prop:=(∃UA,cE h v u UA)
def iV.read{r:bN}(e:iV h x r u UA)(X:bA h k x N)(d:dn k r=Z v):e8 h v u:=by
 cases r with
 |cB g=>cases d;exact⟨UA,e⟩
 |aY b=>
  have c:k[b]?=Z (Z v):=by
   have:(k[b]?).getD Y=Z v:=d;cases p:k[b]? with
   |none=>rw[p]at this;cases this
   |some m=>rw[p]at this;rw[show m=Z v from this]
  let⟨i,UQ,@U6,a,f,W⟩:=X.out c;rw[e.1]at a;cases a;exact⟨UQ,f⟩
@[simp] def fO(b:Nat):aE ak:=λk=>match k[b]? with
 |some (Z v)=>if v.dA=aa then Z (v,k) else Z (v,k.set b<|Z .dd)
 |_=>Y
def au(v:ab):aE ak:=(λk=>Z (.im v,k))
@[simp] def ag(b:Nat):aE bN:=λk=>match k[b]? with
 |some (Z _)=>Z (.aY b,k)
 |_=>Y
@[simp] def V(J:aE ak):aE bN:=λk=>(J k).map λo=>(.cB o.1,o.2)
section
variable{a:aK}
variable{b:Nat}
def jJ(e:bU a d (lU b)):cv a d (fO b):=by
 refine en e λx h A f=>?_;let⟨k,N,r,@UO,X,ai,c,p⟩:=f;unfold fO at c;split at c
 ·rename_i v hd;split at c
  ·rename_i g;cases c;let⟨@u,t,z⟩:=X.dA hd g;exact⟨u,t,p u h N [] X z (by rw[b_];exact bk.perm ai (List.Perm.refl _))⟩
  ·cases c;let⟨u,UQ,@U6,t,z,i,j⟩:=X.out hd;exact⟨u,t,p u h U6 UQ i z<|bk.perm ai j⟩
 ·cases c
def L1(e:bU a d (lU b)):dH a d (ag b):=by
 refine en e λx h A f=>?_;let⟨k,N,r,@UO,X,ai,c,p⟩:=f;unfold ag at c;split at c
 ·rename_i v hd;cases c;let⟨u,UQ,@U6,t,z,g,i⟩:=X.out hd;exact⟨u,t,p u h N [] X ⟨t,rfl⟩ (by rw[b_];exact bk.perm ai (List.Perm.refl _))⟩
 ·cases c
def aV{J:aE ak}(e:cv a d J):dH a d (V J):=by
 refine en e λx h A c=>?_;let⟨k,N,r,@UO,X,ai,b,p⟩:=c;unfold V at b;let⟨@⟨Vs,UE⟩,t,z⟩:=cx.mp b;cases z;exact⟨k,N,Vs,_,X,ai,t,p⟩
def uY{v:ab}(e:bU a d (n3 u))(hd:∀h,cO h v u):cv a d (au v):=by
 refine en e λx h A b=>?_;let⟨k,N,r,@UO,X,ai,c,p⟩:=b;cases c;exact p u h N [] X ⟨hd h,rfl⟩ (by rw[b_];exact bk.perm ai (List.Perm.refl _))
def f_{b:Int}{w UM}:cv a (.Constant (.int b) w UM) (au<|.int b):=uY Qv λ_=>rfl
def gJ{c:Bool}{w UM}:cv a (.Constant (.bool c) w UM) (au<|.aC c):=uY S7 λ_=>rfl
def two{UE Vd:a0}{f l:bN}{Q:av->av->az->Prop}(X:bA h k x N)(ai:N.Nodup)(b:VB k=Z (f,UE))(j:Vp UE=Z (l,Vd))(q:∀u H P U8 a b3,bA P Vd x U8->iV P x f u a->iV P x l H b3->bk h N P ((U8++b3)++a)->Q u H P):m6 VB x h λu UD=>m6 Vp x UD λH UT=>Q u H UT:=by
 refine⟨k,N,f,UE,X,ai,b,λu UD UQ a n U0 c=>⟨UE,UQ,l,Vd,n,(dz.mp c.ai).1,j,λH UT U6 b3 o p i=>?_⟩⟩;refine q u H UT U6 a b3 o (U0.mono i.tup λg b m d=>i.keep g m d λe=>?_) p (c.trans i U0.chg);exact (dz.mp c.ai).2.2 g e g b rfl
def bk.new{D:List ae}(g:bk h N UD (UQ++UA))(j:c1 UD UT)(ai:D.Nodup)(c:∀f∈D,UD f=Y)(n:∀f∈UQ,fS UD f):bk h N UT (UQ++D):=by
 refine⟨λf m d a=>j _ _<|g.keep f m d a,λf a=>?_,dz.mpr ⟨(dz.mp g.ai).1,ai,λf a l e d=>?_⟩,g.tup.trans j.tupS,λf m d=>let ⟨Vb,b⟩:=g.grow f m d;⟨Vb,j _ _ b⟩⟩
 ·rcases dv.mp a with a|a
  ·exact g.sub f (eG _ a)
  ·refine .inr ?_;cases d:h f with
   |none=>rfl
   |some m=>
    let⟨@Vb,b⟩:=g.grow f m d;rw[c f a]at b;cases b
 ·subst d;let⟨@m,d,W⟩:=n f a;rw[c f e]at d;cases d
def fa(a:aK)(L:af->af->ef af)(Vk:ak->ak->Option ak):Prop:=(
 dV a L λf l h A=>∃U_ Vi v,e8 h U_ f/\e8 h Vi l/\Vk U_ Vi=Z v/\∀u P UA,c1 h P->cE P v u UA->UA.Nodup->(∀g∈UA,h g=Y)->A u P)
@[simp] def aw(Vk:ak->ak->Option ak)(VB Vp:aE bN):aE ak:=λk=>(VB k).bind λo=>(Vp o.2).bind λp=>(dn p.2 o.1).bind λU_=>(dn p.2 p.1).bind λVi=>(Vk U_ Vi).map λv=>(v,p.2)
def uy{Vk:ak->ak->Option ak}(e:ni (aw Vk VB Vp) x h A):
  m6 VB x h λf UD=>m6 Vp x UD λl UT=>∃U_ Vi v,e8 UT U_ f/\e8 UT Vi l/\Vk U_ Vi=Z v/\∀u P UA,c1 UT P->cE P v u UA->UA.Nodup->(∀g∈UA,UT g=Y)->A u P:=by
 let⟨k,N,r,@UO,X,ai,a,p⟩:=e;unfold aw at a;let⟨@⟨f,UE⟩,j,a⟩:=bE.mp a;let⟨@⟨l,Vd⟩,n,a⟩:=bE.mp a;let⟨@U_,t,a⟩:=bE.mp a;let⟨@Vi,z,a⟩:=bE.mp a;let⟨@v,o,a⟩:=cx.mp a;cases a;refine two X ai j n λu H UT U6 D b3 b U0 q i=>⟨U_,Vi,_,U0.read b t,q.read b z,o,λC s UA c w y B=>?_⟩;rw[bu]at i;exact p C s U6 UA (b.mono c.tupS λg W m d=>c g m d) w (i.new c y B b.chg)
def lC{Vk:xS}(b:fa a (gk Vk) L)(d:dH a g VB)(f:dH a c Vp):cv a (.BinOp g Vk c UM) (aw L VB Vp):=
 en (Qp b d f) λ_ W W e=>uy e
variable{Vk:lT}
def jh(b:fa a (dW Vk) L)(d:dH a g VB)(f:dH a c Vp)(h:p8 Vk c=aq):cv a (.Compare g [Vk] [c] UM) (aw L VB Vp):=
 en (ND b d f h) λ_ W W e=>uy e
def i7(b:iq a (λf l h A=>∃U_ Vi v,e8 h U_ f/\e8 h Vi l/\L U_ Vi=Z v/\∀u P UA,c1 h P->cE P v u UA->UA.Nodup->(∀g∈UA,h g=Y)->A u P))(d:dH a g VB)(i:dH a c Vp)(UH:vh c):cv a (.Subscript g c UM) (aw L VB Vp):=
 en (SY b d i UH) λ_ W W e=>uy e
@[simp] def l0:ak->Option Bool
 |.im (.aC c)=>Z c
 |_=>Y
@[simp] def bx(J:aE ak):aE Bool:=λk=>(J k).bind λo=>(l0 o.1).map λc=>(c,o.2)
def qF{c:Bool}(e:l0 v=Z c):v=.im (.aC c):=by
 unfold l0 at e;split at e
 ·cases e;rfl
 ·cases e
def eT(d:fa a (dW Vk) L)(e:dH a g VB)(f:dH a c Vp)(i:p8 Vk c=aq):hP a (.Compare g [Vk] [c] UM) (bx<|aw L VB Vp):=by
 refine tM (IU d e f i) λx h A l=>?_;let⟨k,N,n,@UO,X,ai,m,p⟩:=l;refine uy ⟨k,N,.im<|.aC n,UO,X,ai,?_,λu P U8 UA q b j=>⟨n,b.1,p P U8 q (by rw[b.2,b_]at j;exact j)⟩⟩;let⟨@o,t,z⟩:=bE.mp m;let⟨@v,r,s⟩:=cx.mp z;cases s;rw[t,<-qF r]
@[simp] def fK(J:aE Bool):aE Bool:=λk=>(J k).map λo=>(!o.1,o.2)
variable{J:aE Bool}
def j7(e:hP a g J):hP a (.UnaryOp .Not g UM) (fK J):=by
 refine tM (OF e) λx h A b=>?_;let⟨k,N,n,@UO,X,ai,c,p⟩:=b;let⟨@o,t,z⟩:=cx.mp c;cases z;exact⟨k,N,o.1,_,X,ai,t,p⟩
@[simp] def eO(J e:aE Bool):aE Bool:=λk=>(J k).bind λo=>if o.1=aa then e o.2 else Z (aq,o.2)
@[simp] def iT(J e:aE Bool):aE Bool:=λk=>(J k).bind λo=>if o.1=aa then Z (aa,o.2) else e o.2
variable{A:Bool->az->Prop}{e:aE Bool}
def Eo(C:ju (eO J e) x h A):EJ (ju J) (ju e) x h A:=by
 let⟨k,N,n,@UO,X,ai,d,p⟩:=C;let⟨@⟨c,UE⟩,t,z⟩:=bE.mp d;refine⟨k,N,c,UE,X,ai,t,λUD UQ b a=>?_⟩;cases c with
 |true=>
  rw[aJ rfl];rw[aJ rfl]at z;exact⟨UE,UQ,n,UO,b,a.ai,z,λUT U6 g i=>p UT U6 g (by
   have:=bk.trans (UA:=[]) (by rw[b_];exact a) i (λf j=>nomatch j)
   rwa [b_]at this)⟩
 |false=>
  rw[aO ek]at z ⊢;cases z;exact p UD UQ b a
def NI(C:ju (iT J e) x h A):Bv (ju J) (ju e) x h A:=by
 let⟨k,N,n,@UO,X,ai,d,p⟩:=C;let⟨@⟨c,UE⟩,t,z⟩:=bE.mp d;refine⟨k,N,c,UE,X,ai,t,λUD UQ b a=>?_⟩;cases c with
 |false=>
  rw[aO ek]at z ⊢;exact⟨UE,UQ,n,UO,b,a.ai,z,λUT U6 g i=>p UT U6 g (by
   have:=bk.trans (UA:=[]) (by rw[b_];exact a) i (λf j=>nomatch j)
   rwa [b_]at this)⟩
 |true=>
  rw[aJ rfl]at z ⊢;cases z;exact p UD UQ b a
def hV(a:aK)(d:bj)(J:aE Bool):Prop:=(∀ ⦃o⦄,A9 a d (ju J) o)
def H3{I:eF}(e:jU a d I)(b:∀x h A,Va x h A->I x h A):jU a d Va:=λc G j x h A f g=>e c G j x h A f (b x h A g)
def Fj(e:hP a g J):hV a (.BoolOp .And [g] UM) J:=Qx e
def pA(e:hP a g J):hV a (.BoolOp .Or [g] UM) J:=KJ e
def sR(e:hP a g J)(b:hV a (.BoolOp .And (c::r) UM) q):hV a (.BoolOp .And (g::c::r) UM) (eO J q):=H3 (R1 e b) λ_ W W C=>Eo C
def mY(e:hP a g J)(b:hV a (.BoolOp .Or (c::r) UM) q):hV a (.BoolOp .Or (g::c::r) UM) (iT J q):=H3 (Tb e b) λ_ W W C=>NI C
def hV.m1(e:hV a d J):hP a d J:=jU.pt e
@[simp] def gK(J:aE Bool):aE ak:=λk=>(J k).map λo=>(.im<|.aC o.1,o.2)
def xq(e:cv a d (gK J)):bU a d λx h A=>ju J x h λc P=>A (.aC c) P:=by
 refine en e λx h A f=>?_;let⟨k,N,n,@UO,X,ai,g,p⟩:=f;refine⟨k,N,.im<|.aC n,UO,X,ai,by unfold gK;rw[g];rfl,λu P U8 UA i b j=>?_⟩;rw[show u=.aC n from b.1];exact p P U8 i (by rw[b.2,b_]at j;exact j)
def CR(e:bU a d λx h A=>ju J x h λc P=>A (.aC c) P):cv a d (gK J):=by
 refine en e λx h A b=>?_;let⟨k,N,r,@UO,X,ai,f,p⟩:=b;let⟨@o,t,z⟩:=cx.mp f;cases z;exact⟨k,N,o.1,_,X,ai,t,λP U8 g j=>p _ P U8 [] g ⟨rfl,rfl⟩ (by rw[b_];exact j)⟩
def g8{J:aE ak}(e:cv a d J):cv a d (gK<|bx J):=by
 refine en e λx h A b=>?_;let⟨k,N,r,@UO,X,ai,c,p⟩:=b;let⟨@o,t,z⟩:=cx.mp c;let⟨@f,g,i⟩:=bE.mp t;let⟨@n,j,l⟩:=cx.mp i;cases l;cases z;exact⟨k,N,f.1,_,X,ai,g,by rw[qF j];exact p⟩
def I1(e:cv a g (gK J)):cv a (.UnaryOp .Not g UM) (gK<|fK J):=by
 refine CR (en (M_<|xq e) λx h A b=>?_);let⟨k,N,n,@UO,X,ai,c,p⟩:=b;let⟨@o,t,z⟩:=cx.mp c;cases z;exact⟨k,N,o.1,_,X,ai,t,λP U8 d j=>⟨_,rfl,p P U8 d j⟩⟩
def o2{Vk}{J:aE ak}(e:cv a g J):cv a (.BoolOp Vk [g] UM) J:=Ld e
def kq(e:cv a g (gK J))(b:cv a (.BoolOp .And (c::r) UM) (gK q)):cv a (.BoolOp .And (g::c::r) UM) (gK<|eO J q):=by
 refine CR (en (IF (xq e)<|xq b) λx h A C=>?_);have:=Eo C;let⟨k,N,n,@UO,X,ai,d,p⟩:=this;exact⟨k,N,n,UO,X,ai,d,λP U8 f j=>⟨n,rfl,p P U8 f j⟩⟩
@[simp] def qi(n:aE Bool)(g c:aE ak):aE ak:=λk=>(n k).bind λo=>if o.1=aa then g o.2 else c o.2
def bk.seq(g:bk h N UD UQ)(c:bk UD UQ UT U6):bk h N UT U6:=by
 have:=bk.trans (UA:=[]) (by rw[b_];exact g) c (λf a=>nomatch a)
 rwa [b_]at this
def Sg{VB Vp:aE ak}(j:hP a n VD)(l:cv a g VB)(m:cv a c Vp):cv a (.IfExp n g c UM) (qi VD VB Vp):=by
 refine en (P8 j l m) λx h A o=>?_;let⟨k,N,r,@UO,X,ai,q,p⟩:=o;let⟨@⟨I,UE⟩,t,z⟩:=bE.mp q;refine⟨k,N,I,UE,X,ai,t,λUD UQ i b=>?_⟩;cases I with
 |true=>
  rw[aJ rfl]at z ⊢;exact⟨UE,UQ,r,UO,i,b.ai,z,λu UT U6 UA d e f=>p u UT U6 UA d e<|b.seq f⟩
 |false=>
  rw[aO ek]at z ⊢;exact⟨UE,UQ,r,UO,i,b.ai,z,λu UT U6 UA d e f=>p u UT U6 UA d e<|b.seq f⟩
end
def k4(h:az)(x:a5):List bN->List av->List ae->Prop
 |[],S,UA=>S=[]/\UA=[]
 |m::UN,S,UA=>∃u r a b3,S=u::r/\iV h x m u a/\k4 h x UN r b3/\UA=a++b3
def gz(J:aE (List bN)):fh:=(λx h A=>∃k N r UO,bA h k x N/\N.Nodup/\J k=Z (r,UO)/\∀S P U8 UA,bA P UO x U8->k4 P x r S UA->bk h N P (U8++UA)->A S P)
def fm(a:aK)(T:List bj)(J:aE (List bN)):Prop:=(∀ ⦃o⦄,HQ a T (gz J) o)
def Ij{I Va:fh}(e:gD a T I)(b:∀x h A,Va x h A->I x h A):gD a T Va:=λUM G j x h A c d=>e UM G j x h A c (b x h A d)
def aA:aE (List bN):=(λk=>Z ([],k))
@[simp] def aj(J:aE bN)(e:aE (List bN)):aE (List bN):=λk=>(J k).bind λo=>(e o.2).map λp=>(o.1::p.1,p.2)
def bk.jw(j:bk h N P O)(o:O.Perm UY):bk h N P UY:=⟨j.keep,λg a=>j.sub g<|o.mem_iff.mpr a,(o.nodup_iff).mp j.ai,j.tup,j.grow⟩
def bk.less(j:bk h N P O)(o:(UY++aH).Perm O):bk h N P UY:=
 ⟨j.keep,λg a=>j.sub g<|o.mem_iff.mp<|eG _ a,(dz.mp<|(o.nodup_iff).mpr j.ai).1,j.tup,j.grow⟩
section
variable{a:aK}
def mH:fm a [] aA:=by
 refine Ij xv λx h A b=>?_;let⟨k,N,r,@UO,X,ai,c,p⟩:=b;cases c;exact p [] h N [] X ⟨rfl,rfl⟩ (by rw[b_];exact bk.perm ai (List.Perm.refl _))
def oz{J:aE bN}{e:aE (List bN)}(j:dH a d J)(l:fm a T e)(UH:bK (d::T) a.env=(aq,b6 d a.env)::bK T a.env:=by rfl):fm a (d::T) (aj J e):=by
 refine Ij (so j l UH) λx h A n=>?_;let⟨k,N,r,@UO,X,ai,o,p⟩:=n;let⟨@⟨f,UE⟩,t,z⟩:=bE.mp o;let⟨@⟨UL,Vd⟩,q,s⟩:=cx.mp z;cases s;refine⟨k,N,f,UE,X,ai,t,λu UD UQ i v U0 b=>⟨UE,UQ,UL,_,v,(dz.mp b.ai).1,q,λS UT U6 b3 w y c=>?_⟩⟩;refine p (u::S) UT U6 (i++b3) w ⟨u,S,i,b3,rfl,U0.mono c.tup λg B m d=>c.keep g m d λe=>?_,y,rfl⟩ ((b.trans c U0.chg).jw ?_)
 ·exact (dz.mp b.ai).2.2 g e g B rfl
 ·rw[bu];exact ed _ dy
end
def h4(k:a0):List bN->Option (List ak)
 |[]=>Z []
 |m::UN=>(dn k m).bind λv=>(h4 k UN).map λB=>v::B
def mS(h:az):List ak->List av->Prop
 |[],S=>S=[]
 |v::B,S=>∃u r,S=u::r/\e8 h v u/\mS h B r
theorem k4.read{h:az}{k:a0}{x:a5}{N:List ae}(X:bA h k x N):∀{UN:List bN}{S:List av}{UA:List ae}{B:List ak},k4 h x UN S UA->h4 k UN=Z B->mS h B S
 |[],_,_,_,e,d=>by cases d;exact e.1
 |m::UN,_,_,_,e,d=>by
  let⟨u,r,g,@b3,rfl,t,z,rfl⟩:=e;let⟨@v,a,b⟩:=bE.mp d;let⟨@B,c,f⟩:=cx.mp b;cases f;exact⟨u,r,rfl,t.read X a,k4.read X z c⟩
def ec:List bN->a0->Option (List ak×a0)
 |[],k=>Z ([],k)
 |.cB v::UN,k=>(ec UN k).map λo=>(v::o.1,o.2)
 |.aY b::UN,k=>(fO b k).bind λo=>(ec UN o.2).map λp=>(o.1::p.1,p.2)
def AE{b:Nat}(X:bA h k x N)(e:fO b k=Z (v,UO)):∃u UQ UA,x[b]?=Z (Z u)/\cE h v u UA/\bA h UO x UQ/\(UQ++UA).Perm N:=by
 unfold fO at e;split at e
 ·rename_i d hd;split at e
  ·rename_i a;cases e;let⟨@u,t,z⟩:=X.dA hd a;exact⟨u,N,[],t,z,X,by rw[b_]⟩
  ·cases e;let⟨u,UQ,@U6,t,z,c,f⟩:=X.out hd;exact⟨u,U6,UQ,t,z,c,f⟩
 ·cases e
def lr:(O++(UY++aH)).Perm (UY++(O++aH)):=by
 rw[<-bu,<-bu];exact fg _ dy
theorem lN{h:az}{x:a5}:∀{UN:List bN}{S:List av}{UA N:List ae}{k UO:a0}{B:List ak},bA h k x N->k4 h x UN S UA->ec UN k=Z (B,UO)->∃UQ a,bA h UO x UQ/\eh h B S a/\(UQ++a).Perm (N++UA)
 |[],_,_,N,_,_,_,X,e,d=>by
  cases d;exact⟨N,[],X,⟨e.1,rfl⟩,by rw[e.2]⟩
 |.cB v::UN,_,_,N,k,_,_,X,e,d=>by
  let⟨u,r,a,@b3,rfl,t,z,rfl⟩:=e;rw[ec]at d;let⟨@o,g,i⟩:=cx.mp d;cases i;let⟨UQ,@c,f,j,l⟩:=lN (UO:=o.2) (B:=o.1) X z g;exact⟨UQ,a++c,f,⟨u,r,a,c,rfl,t,j,rfl⟩,lr.trans<|(ed _ l).trans lr⟩
 |.aY b::UN,_,_,N,k,_,_,X,e,d=>by
  let⟨u,r,a,@b3,rfl,@⟨t,rfl⟩,z,rfl⟩:=e;rw[ec]at d;let⟨@⟨v,UE⟩,n,p⟩:=bE.mp d;let⟨@o,g,i⟩:=cx.mp p;cases i;let⟨w,UQ,@c,f,j,l,q⟩:=AE X n;rw[t]at f;cases f;let⟨U6,@m,U3,U9,s⟩:=lN (UO:=o.2) (B:=o.1) l z g;refine⟨U6,c++m,U3,⟨u,r,c,m,rfl,j,U9,rfl⟩,lr.trans<|(ed _ s).trans ?_⟩;rw[<-bu];exact fg _ (dy.trans q)
@[simp] def gW:List bN->List ak->a0->a0
 |.aY b::UN,v::B,k=>gW UN B (match k[b]? with|some (Z .dd)=>k.set b (Z v)|_=>k)
 |.cB _::UN,_::B,k=>gW UN B k
 |_,_,k=>k
theorem tl{h VW:az}{x:a5}:∀{UN:List bN}{B:List ak}{S:List av}{UA N UW:List ae}{k:a0},bA h k x N->k4 VW x UN S UW->eh h B S UA->∃UQ a,bA h (gW UN B k) x UQ/\(UQ++a).Perm (N++UA)
 |[],B,_,UA,N,_,k,X,_,_=>⟨N,UA,by unfold gW;exact X,List.Perm.refl _⟩
 |.cB _::UN,[],_,UA,N,_,k,X,_,_=>⟨N,UA,by unfold gW;exact X,List.Perm.refl _⟩
 |.aY _::UN,[],_,UA,N,_,k,X,_,_=>⟨N,UA,by unfold gW;exact X,List.Perm.refl _⟩
 |.cB _::UN,v::B,_,UA,N,_,k,X,e,C=>by
  let⟨u,r,i,@j,rfl,t,z,rfl⟩:=e;let⟨l,Vs,a,@b3,d,dC,dc,rfl⟩:=C;cases d;let⟨UQ,@c,f,g⟩:=tl (k:=k) X z dc;refine⟨UQ,a++c,by rw[gW];exact f,lr.trans<|(ed _ g).trans lr⟩
 |.aY b::UN,v::B,_,UA,N,_,k,X,e,C=>by
  let⟨u,r,i,@j,rfl,@⟨t,W⟩,z,rfl⟩:=e;let⟨l,Vs,a,@b3,d,dC,dc,rfl⟩:=C;cases d;rw[gW];split
  ·let⟨UQ,@R,f,g⟩:=X.back dC t;let⟨U6,@c,U3,U9⟩:=tl f z dc;refine⟨U6,c++R,U3,?_⟩;rw[<-bu,<-bu];refine (fg _ U9).trans ?_;rw[bu];refine (ed _ dy).trans ?_;rw[<-bu];exact fg _ g
  ·let⟨UQ,@c,f,g⟩:=tl X z dc;exact⟨UQ,a++c,f,lr.trans<|(ed _ g).trans lr⟩
def hk:List ak->Option (List ab)
 |[]=>Z []
 |.im v::B=>(hk B).map λr=>v::r
 |_::_=>Y
@[simp] def rv(B:List ak):ak:=match hk B with
 |some is=>.im (.tup is)
 |none=>.pB B
@[simp] def r8(B:List ak):ak:=match hk B with
 |some is=>.lst is
 |none=>.hM B
theorem zf{h:az}:∀{B:List ak}{S:List av}{UA:List ae}{is:List ab},eh h B S UA->hk B=Z is->bP h is S/\UA=[]
 |[],_,_,_,e,d=>by cases d;exact e
 |.im v::B,_,_,_,e,d=>by
  let⟨u,r,f,@b3,rfl,@⟨t,rfl⟩,z,rfl⟩:=e;rw[hk]at d;let⟨@o,a,b⟩:=cx.mp d;cases b;let@⟨c,rfl⟩:=zf z a;exact⟨⟨u,r,rfl,t,c⟩,rfl⟩
 |.dd::_,_,_,_,_,d=>by rw[hk]at d;cases d;all_goals (intro W i;cases i)
 |.cF _::_,_,_,_,_,d=>by rw[hk]at d;cases d;all_goals (intro W i;cases i)
 |.lst _::_,_,_,_,_,d=>by rw[hk]at d;cases d;all_goals (intro W i;cases i)
 |.dJ _::_,_,_,_,_,d=>by rw[hk]at d;cases d;all_goals (intro W i;cases i)
 |.aQ _::_,_,_,_,_,d=>by rw[hk]at d;cases d;all_goals (intro W i;cases i)
 |.hM _::_,_,_,_,_,d=>by rw[hk]at d;cases d;all_goals (intro W i;cases i)
 |.pB _::_,_,_,_,_,d=>by rw[hk]at d;cases d;all_goals (intro W i;cases i)
 |.oj _::_,_,_,_,_,d=>by rw[hk]at d;cases d;all_goals (intro W i;cases i)
 |.dL _::_,_,_,_,_,d=>by rw[hk]at d;cases d;all_goals (intro W i;cases i)
@[simp] def cY(J:aE (List bN)):aE ak:=λk=>(J k).bind λo=>(ec o.1 o.2).bind λp=>if p.1.length<=100000 then Z (rv p.1,p.2) else Y
@[simp] def eC(J:aE (List bN)):aE ak:=λk=>(J k).bind λo=>(ec o.1 o.2).bind λp=>if p.1.length<=100000 then Z (r8 p.1,p.2) else Y
def LF{B:List ak}{o:ae}(j:c1 h P)(e:eh h B S UA)(d:P o=Z (.tup S)):∃D,cE P (rv B) (.ref o) D/\D=UA:=by
 unfold rv;split
 ·rename_i is Uw;let@⟨a,rfl⟩:=zf e Uw;exact⟨[],⟨⟨o,S,rfl,d,a.mono j.tupS.tup⟩,rfl⟩,rfl⟩
 ·exact⟨UA,⟨o,S,rfl,d,e.mono j.tupS λg W m p=>j g m p⟩,rfl⟩
def O1{B:List ak}{o:ae}(j:c1 h P)(e:eh h B S UA)(d:P o=Z (.lst S)):cE P (r8 B) (.ref o) (o::UA):=by
 unfold r8;split
 ·rename_i is Uw;let@⟨a,rfl⟩:=zf e Uw;exact⟨o,S,rfl,d,a.mono j.tupS.tup,rfl⟩
 ·exact⟨o,S,UA,rfl,d,e.mono j.tupS λg W m p=>j g m p,rfl⟩
def mQ(e:s<=100000):s<=sizeLine:=fl e ∅
def bk.add{h UD:az}{N O:List ae}{o:ae}{m:gi}(g:bk h N UD O)(a:UD o=Y)(n:∀f∈O,fS UD f):bk h N (upd UD o m) (O++[o]):=by
 have j:c1 UD (upd UD o m):=(c1.refl UD).upd a;have:=bk.new (UA:=[]) (D:=[o]) (by rw[b_];exact g) j (fJ _ _) (λf b=>by rw[cD.mp b];exact a) n;exact this
def bk.same(g:bk h N UD O)(j:c1 UD UT):bk h N UT O:=
 ⟨λf m d a=>j _ _<|g.keep f m d a,g.sub,g.ai,g.tup.trans j.tupS,λf m d=>let ⟨Vb,b⟩:=g.grow f m d;⟨Vb,j _ _ b⟩⟩
section
variable{a:aK}
def jZ{f}(e:fm a T J):cv a (.Tuple T f UM) (cY J):=by
 refine en (Q6 e) λx h A i=>?_;let⟨k,N,r,@UO,X,ai,l,p⟩:=i;let⟨@⟨UN,UE⟩,t,z⟩:=bE.mp l;let⟨@⟨B,Vd⟩,n,b⟩:=bE.mp z;refine⟨k,N,UN,UE,X,ai,t,λS UD UQ E q U0 s=>?_⟩;let⟨U6,@b3,u,c,U5⟩:=lN q U0 n;split at b
 ·rename_i v;cases b;have w:S.length<=100000:=by rw[<-c.length];exact v
  refine⟨mQ w,λo y=>?_⟩;have j:c1 UD (upd UD o<|.tup S):=(c1.refl UD).upd y;let⟨@D,C,rfl⟩:=LF j c eS;exact p _ _ U6 D (u.mono j.tupS λg W m d=>j g m d) C ((s.jw U5.symm).same j)
 ·cases b
def hz(e:fm a T J):cv a (.List T UM) (eC J):=by
 refine en (PL e) λx h A q=>?_;let⟨k,N,r,@UO,X,ai,s,p⟩:=q;let⟨@⟨UN,UE⟩,t,z⟩:=bE.mp s;let⟨@⟨B,Vd⟩,u,c⟩:=bE.mp z;refine⟨k,N,UN,UE,X,ai,t,λS UD UQ E v U0 w=>?_⟩;let⟨U6,@b3,l,i,U5⟩:=lN v U0 u;split at c
 ·rename_i y;cases c;have C:S.length<=100000:=by rw[<-i.length];exact y
  refine⟨mQ C,λo n=>?_⟩;have j:c1 UD (upd UD o<|.lst S):=(c1.refl UD).upd n;have D:=O1 j i (o:=o) eS;refine p _ _ U6 (o::b3) (l.mono j.tupS λg W m d=>j g m d) D (((w.jw U5.symm).add n λf b=>?_).jw ?_)
  ·rcases dv.mp b with b|b
   ·exact l.chg f b
   ·exact i.chg f b
  ·rw[bu];exact ed _ dy
 ·cases c
def hn(a:aK)(L:af)(Vk:List ak->Option ak):Prop:=(
 eY a L λy h A=>∃B v,mS h B y/\Vk B=Z v/\∀u P UA,c1 h P->cE P v u UA->UA.Nodup->(∀g∈UA,h g=Y)->A u P)
@[simp] def bR(Vk:List ak->Option ak)(J:aE (List bN)):aE ak:=λk=>(J k).bind λo=>(h4 o.2 o.1).bind λB=>(Vk B).map λv=>(v,o.2)
def Bx(e:ni (bR Vk J) x h A):
  gz J x h λy UD=>∃B v,mS UD B y/\Vk B=Z v/\∀u P UA,c1 UD P->cE P v u UA->UA.Nodup->(∀g∈UA,UD g=Y)->A u P:=by
 let⟨k,N,r,@UO,X,ai,c,p⟩:=e;let⟨@⟨UN,UE⟩,t,z⟩:=bE.mp c;let⟨@B,f,i⟩:=bE.mp z;let⟨@v,j,l⟩:=cx.mp i;cases l;refine⟨k,N,UN,UE,X,ai,t,λS UD UQ w a U0 n=>⟨B,_,U0.read a f,j,λu UT UA b o q s=>?_⟩⟩;exact p u UT UQ UA (a.mono b.tupS λg W m d=>b g m d) o (n.new b q s a.chg)
def PJ{id:String}(b:hn a (.builtin id) Vk)(c:ey a f)(g:a.ay f=Y)(h:fw f=Z (.builtin id))(i:fm a (d::T) J)(j:f ≠ "__name__" := by decide)(k:(f==("__debug__" : aF))=aq:=by decide)(l:bK (d::T) a.env=(aq,b6 d a.env)::bK T a.env:=by rfl)(m:(fG UM<|bK T a.env).any (·.1)=aq:=by rfl):
  cv a (.Call (.Name f o) (d::T) [] UM) (bR Vk J):=en (ES b c g h i j k l m) λ_ W W e=>Bx e
def jH{F:String}(b:hn a (.type F) Vk)(c:ey a f)(g:a.ay f=Y)(h:fw f=Z (.type F))(i:fm a (d::T) J)(j:f ≠ "__name__" := by decide)(k:(f==("__debug__" : aF))=aq:=by decide)(l:bK (d::T) a.env=(aq,b6 d a.env)::bK T a.env:=by rfl)(m:(fG UM<|bK T a.env).any (·.1)=aq:=by rfl):
  cv a (.Call (.Name f o) (d::T) [] UM) (bR Vk J):=en (Sr b c g h i j k l m) λ_ W W e=>Bx e
abbrev cP:=List ak->Option (ak×List ak)
def jX(s:Nat)(R:cP):kj:=(λS h A W=>S.length=s/\∃B N r I,eh h B S N/\N.Nodup/\R B=Z (r,I)/\∀u P UA D,cE P r u UA->eh P I S D->bk h N P (UA++D)->A u P)
@[simp] def bh(s:Nat)(R:cP)(J:aE (List bN)):aE ak:=λk=>(J k).bind λo=>if o.1.length=s then (ec o.1 o.2).bind λp=>(R p.1).map λr=>(r.1,gW o.1 r.2 p.2) else Y
theorem k4.length{h:az}{x:a5}:∀{UN:List bN}{S:List av}{UA:List ae},k4 h x UN S UA->UN.length=S.length
 |[],_,_,e=>by rw[e.1];rfl
 |m::UN,_,_,e=>by
  let⟨u,r,a,@b3,rfl,t,z,rfl⟩:=e;rw[dT,dT,k4.length z]
def CC{R:cP}{Uv:fF}(e:ni (bh s R J) x h A):yo (jX s R) [] Uv (gz J) x h A:=by
 let⟨k,N,r,@UO,X,ai,j,p⟩:=e;let⟨@⟨UN,UE⟩,t,z⟩:=bE.mp j;split at z
 ·rename_i l;let⟨@⟨B,Vd⟩,n,o⟩:=bE.mp z;let⟨@⟨Vs,I⟩,q,v⟩:=cx.mp o;cases v;refine⟨k,N,UN,UE,X,ai,t,λS UD UQ Q w U0 y=>?_⟩;let⟨U6,b3,f,C,U5⟩:=lN w U0 n;have a:=y.jw (U5.symm.trans dy);rw[b_];refine⟨by rw[<-U0.length];exact l,B,b3,_,I,C,(dz.mp a.ai).1,q,λu i UA D dC dc b=>?_⟩;have E:=a.trans b f.chg;have F:∀g∈U6,g∉b3:=λg c G=>(dz.mp a.ai).2.2 g G g c rfl;have H:bA i Vd x U6:=f.mono b.tup λg c m d=>b.keep g m d (F g c);let⟨L,@M,O,P⟩:=tl H U0 dc;refine p u i L UA O dC (E.less (aH:=M) ?_);refine List.Perm.trans ?_ dy;rw[bu];refine (ed _ dy).trans ?_;rw[<-bu];refine (fg _ P).trans ?_;rw[bu];exact ed _ dy
 ·cases z
variable{q:Nat}
def RV{R:cP}{L:ae}(N:gL a.prog a.w a.K a.ay a.base il q L fd UJ (jX s R))(b:ea q a.A)(c:ey a f)(g:a.ay f=Z (.ref L))(h:Θ a.K (.ref L)=aa)(i:ix a.K fd UJ [])(j:fm a (d::T) J)(k:(f==("__debug__" : aF))=aq:=by decide)(l:bK (d::T) a.env=(aq,b6 d a.env)::bK T a.env:=by rfl)(m:(fG UM<|bK T a.env).any (·.1)=aq:=by rfl):
  cv a (.Call (.Name f o) (d::T) [] UM) (bh s R J):=en (DU N b c g h i .nil yC j k l m) λ_ U U e=>CC e
inductive nz where
 | aM|dR (v:ak)|dI|cG
abbrev bt:=a0->Option (nz×a0)
def c3(UU:List Nat)(x a:a5):Prop:=(a.length=x.length/\∀b∈UU,a[b]?=x[b]?)
def c3.refl:c3 UU x x:=⟨rfl,λ_ W=>rfl⟩
def c3.trans{a:a5}(g:c3 UU x VZ)(c:c3 UU VZ a):c3 UU x a:=⟨c.1.trans g.1,λb Uw=>(c.2 b Uw).trans<|g.2 b Uw⟩
def c3.set{u:Option av}(e:w∉UU):c3 UU x (x.set w u):=⟨wm,λb Uw=>nY λd=>e (by rw[d];exact Uw)⟩
def ra(UU:List Nat)(Uv:kx)(x:a5)(h:az)(N:List ae)(UO:a0):nz->Prop
 |.aM=>∀a P U8,c3 UU x a->bA P UO a U8->bk h N P U8->Uv.aM a P
 |.dI=>∀a P U8,c3 UU x a->bA P UO a U8->bk h N P U8->Uv.dI a P
 |.cG=>∀a P U8,c3 UU x a->bA P UO a U8->bk h N P U8->Uv.cG a P
 |.dR v=>∀u a P U8 UA,c3 UU x a->bA P UO a U8->cE P v u UA->bk h N P (U8++UA)->Uv.dR u P
def oc(UU:List Nat)(J:bt):e2:=(λUv x h=>∃k N aU UO,bA h k x N/\N.Nodup/\J k=Z (aU,UO)/\ra UU Uv x h N UO aU)
def gG(a:aK)(UU:List Nat)(X:bz)(J:bt):Prop:=(∀ ⦃o⦄,GJ a X (oc UU J) o)
def hX(a:aK)(UU:List Nat)(c4:List bz)(J:bt):Prop:=(∀ ⦃o⦄,E5 a c4 (oc UU J) o)
variable{Va:e2}
def ke{X:bz}{I:e2}(e:hx a X I)(b:∀Uv x h,Va Uv x h->I Uv x h):hx a X Va:=λG j x h k c d=>e G j x h k c (b k x h d)
def nA{X:List bz}{I:e2}(e:gs a X I)(b:∀Uv x h,Va Uv x h->I Uv x h):gs a X Va:=λG j x h k c d=>e G j x h k c (b k x h d)
def ra.on{aU:nz}(e:ra UU Uv x h N UO aU)(Vm:c3 UU x VZ)(j:bk h N UD UQ):ra UU Uv VZ UD UQ UO aU:=by
 cases aU with
 |aM=>exact λa P U8 L X Ux=>e a P U8 (Vm.trans L) X (j.seq Ux)
 |dI=>exact λa P U8 L X Ux=>e a P U8 (Vm.trans L) X (j.seq Ux)
 |cG=>exact λa P U8 L X Ux=>e a P U8 (Vm.trans L) X (j.seq Ux)
 |dR v=>exact λu a P U8 UA L X b Ux=>e u a P U8 UA (Vm.trans L) X b (j.seq Ux)
def eX:bt:=(λk=>Z (.aM,k))
@[simp] def bL(J e:bt):bt:=λk=>(J k).bind λo=>match o.1 with
 |.aM=>e o.2
 |aU=>Z (aU,o.2)
def fL:hX a UU [] eX:=by
 refine nA Ry λUv x h b=>?_;let⟨k,N,aU,@UO,X,ai,c,p⟩:=b;cases c;exact p x h N c3.refl X (bk.perm ai<|List.Perm.refl _)
variable{J:bt}
def b4{X:bz}(e:gG a UU X J):hX a UU [X] J:=QI e
def MD{e:bt}(C:oc UU (bL J e) Uv x h):D5 (oc UU J) (oc UU e) Uv x h:=by
 let⟨k,N,aU,@UO,X,ai,a,p⟩:=C;let⟨@⟨b,UE⟩,t,z⟩:=bE.mp a;cases b with
 |aM=>exact⟨k,N,.aM,UE,X,ai,t,λd P U8 Vm c j=>⟨UE,U8,aU,UO,c,j.ai,z,p.on Vm j⟩⟩
 |dI=>cases z;exact⟨k,N,.dI,UE,X,ai,t,p⟩
 |cG=>cases z;exact⟨k,N,.cG,UE,X,ai,t,p⟩
 |dR v=>cases z;exact⟨k,N,.dR v,UE,X,ai,t,p⟩
def b1{X:bz}{c4:List bz}{e:bt}(t:gG a UU X J)(z:hX a UU c4 e):hX a UU (X::c4) (bL J e):=nA (pN t z) λ_ W W C=>MD C
def DW:bt:=(λ_=>Y)
def J7{X:bz}:gG a UU X DW:=ke O8 λ_ _ _ ⟨_,_,_,_,_,_,e,_⟩=>by cases e
@[simp] def jg(J:aE ak):bt:=λk=>(J k).map λo=>(.aM,o.2)
variable{J:aE ak}
def mJ(e:cv a d J)(UH:me d Y UM.line a.env=pure aq:=by rfl):gG a UU (.Expr d UM) (jg J):=by
 refine ke (RX e UH) λUv x h b=>?_;let⟨k,N,aU,@UO,X,ai,c,p⟩:=b;let⟨@⟨r,UE⟩,t,z⟩:=cx.mp c;cases z;exact⟨k,N,r,_,X,ai,t,λu P U8 UA f g j=>p x P U8 c3.refl f<|j.less<|List.Perm.refl _⟩
@[simp] def cy(J:aE ak):bt:=λk=>(J k).map λo=>(.dR o.1,o.2)
def cS(e:cv a d J):gG a UU (.Return (Z d) UM) (cy J):=by
 refine ke (Cf e) λUv x h b=>?_;let⟨k,N,aU,@UO,X,ai,c,p⟩:=b;let⟨@⟨r,UE⟩,t,z⟩:=cx.mp c;cases z;exact⟨k,N,r,_,X,ai,t,λu P U8 UA f g j=>p u x P U8 UA c3.refl f g j⟩
@[simp] def d3(n:aE Bool)(g c:bt):bt:=λk=>(n k).bind λo=>if o.1=aa then g o.2 else c o.2
variable{Vp:bt}
def fI{g c:List bz}{VB:bt}(e:hP a n VD)(f:hX a UU g VB)(i:hX a UU c Vp):gG a UU (.If n g c UM) (d3 VD VB Vp):=by
 refine ke (Gm e f i) λUv x h j=>?_;let⟨k,N,aU,@UO,X,ai,l,p⟩:=j;let⟨@⟨I,UE⟩,t,z⟩:=bE.mp l;refine⟨k,N,I,UE,X,ai,t,λUD UQ d b=>?_⟩;cases I with
 |true=>
  rw[aJ rfl]at z ⊢;exact⟨UE,UQ,aU,UO,d,b.ai,z,p.on c3.refl b⟩
 |false=>
  rw[aO ek]at z ⊢;exact⟨UE,UQ,aU,UO,d,b.ai,z,p.on c3.refl b⟩
@[simp] def cj(b:Nat)(J:aE ak):bt:=λk=>(J k).bind λo=>if b<o.2.length then Z (.aM,o.2.set b<|Z o.1) else Y
variable{b:Nat}
def nS{VQ:Pos}(c:a.N.Nodup)(Uw:a.N[b]?=Z f)(e:jb a.env.scope f)(g:cv a d J)(i:b∉UU)(UH:me d (Z<|.Name f VQ) UM.line a.env=pure aq:=by rfl)(j:a.fn f=aa\/a.env.scope.names.lookup f=Z .local:=by first|exact .inl rfl|exact .inr rfl|assumption):gG a UU (.Assign [.Name f VQ] d UM) (cj b J):=by
 refine ke (BQ c Uw e g UH j) λUv x h l=>?_;let⟨k,N,aU,@UO,X,ai,m,p⟩:=l;let⟨@⟨r,UE⟩,t,z⟩:=bE.mp m;split at z
 ·rename_i n;cases z;refine⟨k,N,r,_,X,ai,t,λu UD UQ UA o q s=>?_⟩;let⟨U6,@b3,v,U5⟩:=o.put (b:=b) q n;exact p _ UD U6 (c3.set i) v (s.less U5)
 ·cases z
abbrev fi:=ak->a0->Option a0
def zD(UU:List Nat)(J:fi):gP:=(λu x h A=>∃k N v UA UO,bA h k x N/\cE h v u UA/\(N++UA).Nodup/\J v k=Z UO/\∀a P U8,c3 UU x a->bA P UO a U8->bk h (N++UA) P U8->A a P)
def hD(a:aK)(UU:List Nat)(d:bj)(J:fi):Prop:=(∀ ⦃o⦄,AO a d (zD UU J) o)
def wX{I Va:gP}(e:km a d I)(b:∀u x h A,Va u x h A->I u x h A):km a d Va:=λG j x h f u A c r g=>e G j x h f u A c r (b f x h A g)
@[simp] def bb(b:Nat):fi:=λv k=>if b<k.length then Z (k.set b<|Z v) else Y
def n2(d:a.N.Nodup)(Uw:a.N[b]?=Z f)(e:jb a.env.scope f)(g:b∉UU)(i:a.fn f=aa\/a.env.scope.names.lookup f=Z .local:=by first|exact .inl rfl|exact .inr rfl|assumption):hD a UU (.Name f UM) (bb b):=by
 refine wX (Qe d Uw e i) λu x h A j=>?_;let⟨k,N,v,UA,@UO,X,l,ai,c,p⟩:=j;unfold bb at c;split at c
 ·rename_i m;cases c;let⟨U6,@b3,n,U5⟩:=X.put (b:=b) l m;exact p _ h U6 (c3.set g) n ((bk.perm ai<|List.Perm.refl _).less U5)
 ·cases c
def S6(UU:List Nat)(J:List ak->a0->Option a0):kG:=(λS x h A=>∃k N B UA UO,bA h k x N/\eh h B S UA/\(N++UA).Nodup/\J B k=Z UO/\∀a P U8,c3 UU x a->bA P UO a U8->bk h (N++UA) P U8->A a P)
def vz(a:aK)(UU:List Nat)(T:List bj)(J:List ak->a0->Option a0):Prop:=(∀ ⦃o⦄,E7 a T (S6 UU J) o)
@[simp] def eb:List ak->a0->Option a0
 |[],k=>Z k
 |_,_=>Y
@[simp] def cc(J:fi)(e:List ak->a0->Option a0):List ak->a0->Option a0
 |v::B,k=>(J v k).bind (e B)
 |_,_=>Y
def DI{I Va:kG}(e:p0 a T I)(b:∀u x h A,Va u x h A->I u x h A):p0 a T Va:=λG j x h y S A c r d=>e G j x h y S A c r (b y x h A d)
def Lq:vz a UU [] eb:=by
 refine DI Kx λS x h A c=>?_;let⟨k,N,B,UA,@UO,X,d,ai,b,p⟩:=c;cases B with
 |cons v B=>cases b
 |nil=>
  cases b;exact⟨d.1,p x h N c3.refl X<|(bk.perm ai<|List.Perm.refl _).less<|List.Perm.refl _⟩
def AM{J:fi}(t:hD a UU d J)(z:vz a UU T e)(UH:(hr (d::T) a.env).map (·.2)=ja d a.env::(hr T a.env).map (·.2):=by rfl):vz a UU (d::T) (cc J e):=by
 refine DI (QG t z UH) λS x h A s=>?_;let⟨k,N,B,UA,@UO,X,w,ai,n,p⟩:=s;cases B with
 |nil=>cases n
 |cons v B=>
  let⟨u,r,i,@b3,rfl,dC,dc,rfl⟩:=w;let⟨@UE,y,C⟩:=bE.mp (show (J v k).bind (e B)=Z UO from n);have l:((N++i)++b3).Nodup:=by rw[bu];exact ai
  refine⟨u,r,rfl,k,N,v,i,UE,X,dC,(dz.mp l).1,y,λVZ UD UQ Vm D f=>?_⟩;have o:∀g∈b3,g∉N++i:=λg b j=>(dz.mp l).2.2 g j g b rfl;have E:eh UD B r b3:=dc.mono f.tup λg b m d=>f.keep g m d (o g b);have q:bk h (N++(i++b3)) UD (UQ++b3):=by
   refine⟨λg m d b=>f.keep g m d λe=>b ?_,λg b=>?_,dz.mpr ⟨f.ai,(dz.mp l).2.1,λg b c j d=>?_⟩,f.tup,f.grow⟩
   ·rw[<-bu];exact eG _ e
   ·rcases dv.mp b with b|b
    ·rcases f.sub g b with e|e
     ·left;rw[<-bu];exact eG _ e
     ·exact .inr e
    ·left;rw[<-bu];exact ei _ b
   ·subst d;rcases f.sub g b with e|e
    ·exact o g j e
    ·let⟨@m,d,W⟩:=dc.chg g j;rw[d]at e;cases e
  exact⟨UE,UQ,B,b3,UO,D,E,q.ai,C,λF UT U6 G H I=>p F UT U6 (Vm.trans G) H<|q.seq I⟩
@[simp] def d6(s:Nat)(e:List ak->a0->Option a0):fi:=λv k=>match v with
 |.im (.tup is)=>if is.length=s then e (is.map .im) k else Y
 |.pB B=>if B.length=s then e B k else Y
 |_=>Y
theorem AW{h:az}:∀{is:List ab}{S:List av},bP h is S->eh h (is.map .im) S []
 |[],S,e=>⟨e,rfl⟩
 |v::is,S,e=>by
  let⟨u,@r,rfl,t,z⟩:=e;exact⟨u,r,[],[],rfl,⟨t,rfl⟩,AW z,rfl⟩
def I4(f:a.calm=aa)(UH:vz a UU T e)(i:(hr T a.env).length=s:=by rfl)(j:(hr T a.env).findIdx? (·.1)=Y:=by rfl):hD a UU (.Tuple T q UM) (d6 s e):=by
 refine wX (LW f UH i j) λu x h A l=>?_;let⟨k,N,v,UA,@UO,X,d,ai,b,p⟩:=l;unfold d6 at b;split at b
 ·rename_i is;split at b
  ·rename_i c;let@⟨⟨g,@y,rfl,t,z⟩,rfl⟩:=d;exact⟨g,y,rfl,cp.of t,by rw[<-z.length];exact c,k,N,_,[],UO,X,AW z,ai,b,p⟩
  ·cases b
 ·rename_i B;split at b
  ·rename_i c;let⟨g,@y,rfl,t,z⟩:=d;exact⟨g,y,rfl,cp.of t,by rw[<-z.length];exact c,k,N,_,UA,UO,X,z,ai,b,p⟩
  ·cases b
 ·cases b
@[simp] def fE(J:aE ak)(e:fi):bt:=λk=>(J k).bind λo=>(e o.1 o.2).map λUO=>(.aM,UO)
def i5{e:fi}(c:cv a d J)(f:hD a UU Vc e)(UH:tR [Vc] d UM.line a.env=pure aq:=by rfl)(g:wj [Vc] d a.env=pure Y:=by rfl)(t:(hr [Vc] a.env).map (·.2)=[ja Vc a.env]:=by rfl):gG a UU (.Assign [Vc] d UM) (fE J e):=by
 refine ke (J3 c f UH g t) λUv x h i=>?_;let⟨k,N,aU,@UO,X,ai,j,p⟩:=i;let⟨@⟨r,UE⟩,g1,g2⟩:=bE.mp j;let⟨@Vd,l,m⟩:=cx.mp g2;cases m;exact⟨k,N,r,UE,X,ai,g1,λu UD UQ UA n o b=>⟨UE,UQ,r,UA,_,n,o,b.ai,l,λq P U8 Vm s v=>p q P U8 Vm s<|b.seq v⟩⟩
@[simp] def q0(b w:Nat)(J:aE (List bN)):bt:=λk=>(J k).bind λo=>(ec o.1 o.2).bind λp=>match p.1 with
 |[U_,Vi]=>if b<p.2.length/\w<p.2.length then Z (.aM,(p.2.set b<|Z U_).set w<|Z Vi) else Y
 |_=>Y
def JH{l:aF}{J:aE (List bN)}{jR i pt UM:Pos}{Vr U9 j}(o:a.calm=aa)(q:a.N.Nodup)(Uw:a.N[b]?=Z f)(s:a.N[w]?=Z l)(v:b≠w)(y:a.env.scope.names.lookup f=Z .local)(A:a.env.scope.names.lookup l=Z .local)(C:fm a [g,c] J)(D:b∉UU)(E:w∉UU)(F:wj [.Tuple [.Name f jR,.Name l i] Vr pt] (.Tuple [g,c] U9 j) a.env=pure (Z [f,l]))(UH:tR [.Tuple [.Name f jR,.Name l i] Vr pt] (.Tuple [g,c] U9 j) UM.line a.env=pure aq:=by rfl):
  gG a UU (.Assign [.Tuple [.Name f jR,.Name l i] Vr pt] (.Tuple [g,c] U9 j) UM) (q0 b w J):=by
 refine ke (Kf o q Uw s v y A C F UH) λUv x h G=>?_;let⟨k,N,aU,@UO,X,ai,I,p⟩:=G;let⟨@⟨UN,UE⟩,t,z⟩:=bE.mp I;let⟨@⟨B,Vd⟩,L,e⟩:=bE.mp z;refine⟨k,N,UN,UE,X,ai,t,λS UD UQ a2 M U0 P=>?_⟩;let⟨U6,@b3,Q,R,U5⟩:=lN M U0 L;dsimp only at e;split at e
 ·rename_i U_ Vi d;split at e
  ·rename_i m;cases e;let⟨u,r,O,@UY,rfl,dC,dc,rfl⟩:=R;let⟨H,Vs,bd,@be,rfl,fo,@⟨rfl,rfl⟩,rfl⟩:=dc;let⟨T,@n,al,am⟩:=Q.put (b:=b) dC m.1;let⟨an,@ap,as,a1⟩:=al.put (b:=w) fo (by rw[wm];exact m.2);refine⟨u,H,rfl,p _ UD an ((c3.set D).trans<|c3.set E) as<|(P.jw U5.symm).less (aH:=ap++n) ?_⟩;rw[<-bu,b_,<-bu];refine (fg n a1).trans ?_;rw[bu];refine (ed T dy).trans ?_;rw[<-bu];exact fg _ am
  ·cases e
 ·cases e
def jV(n:aE Bool)(c:bt):Nat->bt
 |0=>λ_=>Y
 |s+1=>λk=>(n k).bind λo=>if o.1=aa then (c o.2).bind λp=>match p.1 with
  |.aM=>jV n c s p.2
  |.cG=>jV n c s p.2
  |.dI=>Z (.aM,p.2)
  |.dR v=>Z (.dR v,p.2) else Z (.aM,o.2)
def yO(s:Nat)(m:oW (aS a.prog a.w) a.A a.env a.cL)(o:hP a n VD)(q:hX a UU VN Vp):gG a UU (.While n VN [] UM) (jV VD Vp s):=by
 refine ke (M4 m o q) λUv x h r=>?_;let⟨k,N,aU,@UO,X,ai,t,p⟩:=r;refine⟨λE b P=>∃g U8,bA P g b U8/\c3 UU x b/\bk h N P U8/\jV VD Vp E g=Z (aU,UO),⟨s,k,N,X,c3.refl,bk.perm ai<|List.Perm.refl _,t⟩,?_⟩;rintro E VZ UD ⟨UE,UQ,y,i,d,C⟩;cases E with
 |zero=>cases C
 |succ E=>
  rw[jV]at C;let⟨@⟨I,Vd⟩,dC,dc⟩:=bE.mp C;refine⟨UE,UQ,I,Vd,y,d.ai,dC,λUT U6 l f=>?_⟩;cases I with
  |false=>
   rw[aO ek]at dc ⊢;cases dc;exact p VZ UT U6 i l (d.seq f)
  |true=>
   rw[aJ rfl]at dc ⊢;let⟨@⟨L,F⟩,fo,j⟩:=bE.mp dc;refine⟨λb P=>∃g U8,bA P g b U8/\c3 UU x b/\bk h N P U8/\jV VD Vp E g=Z (aU,UO),λb P e=>⟨E,qQ E,e⟩,Vd,U6,L,F,l,f.ai,fo,?_⟩;cases L with
   |aM=>exact λb P U8 Vm c Ux=>⟨F,U8,c,i.trans Vm,(d.seq f).seq Ux,j⟩
   |cG=>exact λb P U8 Vm c Ux=>⟨F,U8,c,i.trans Vm,(d.seq f).seq Ux,j⟩
   |dI=>
    cases j;exact λb P U8 Vm c Ux=>p b P U8 (i.trans Vm) c ((d.seq f).seq Ux)
   |dR v=>
    cases j;exact λu b P U8 UA Vm c z Ux=>p u b P U8 UA (i.trans Vm) c z ((d.seq f).seq Ux)
structure kz(Vh:fj)(h:az)(UA:List ae)(B:List ab):Prop where
 go:∀P,eL h P->(∀g∈UA,∀m,h g=Z m->P g=Z m)->∀(b:Nat) (v:ab),B[b]?=Z v->Vh.go b P/\∀f xI,Vh.qz b P f xI->c1 P xI/\cO xI v f
 stop:∀P,eL h P->(∀g∈UA,∀m,h g=Z m->P g=Z m)->Vh.stop B.length P
def q1(h:az)(x:a5)(UA:List ae):Option (Nat×ak)->Prop
 |none=>True
 |some (b,v)=>∃u,x[b]?=Z (Z u)/\cE h v u UA
def y3(J:aE (List ab×Option (Nat×ak))):bX:=(λx h a=>∃k N r UO,bA h k x N/\N.Nodup/\J k=Z (r,UO)/\∀Vh P U8 UA,bA P UO x U8->kz Vh P UA r.1->q1 P x UA r.2->(∀g∈UA,fS P g)->bk h N P (U8++UA)->a Vh P)
def mi(a:aK)(Vc Vy:bj)(J:aE (List ab×Option (Nat×ak))):Prop:=(∀ ⦃o⦄,Fg a Vc Vy (y3 J) o)
def we{I Va:bX}(e:kB a Vc Vy I)(b:∀x h UA,Va x h UA->I x h UA):kB a Vc Vy Va:=λG j x h UA c d=>e G j x h UA c (b x h UA d)
def dK(Vc:fi)(c:bt):List ab->bt
 |[]=>λk=>Z (.aM,k)
 |f::r=>λk=>(Vc (.im f) k).bind λUE=>(c UE).bind λp=>match p.1 with
  |.aM=>dK Vc c r p.2
  |.cG=>dK Vc c r p.2
  |.dI=>Z (.aM,p.2)
  |.dR v=>Z (.dR v,p.2)
@[simp] def lM:Option (Nat×ak)->a0->a0
 |none,k=>k
 |some (b,v),k=>match k[b]? with
  |some (Z .dd)=>k.set b (Z v)
  |_=>k
@[simp] def gv(J:aE (List ab×Option (Nat×ak)))(Vc:fi)(c:bt):bt:=λk=>(J k).bind λo=>(dK Vc c o.1.1 o.2).map λp=>(p.1,lM o.1.2 p.2)
def wU{m:Option (Nat×ak)}(X:bA h k x N)(e:q1 h x UA m):∃UQ R,bA h (lM m k) x UQ/\(UQ++R).Perm (N++UA):=by
 cases m with
 |none=>exact⟨N,UA,X,List.Perm.refl _⟩
 |some o=>
  let⟨b,v⟩:=o;let⟨@u,t,z⟩:=e;unfold lM;dsimp only;split
  ·exact X.back z t
  ·exact⟨N,UA,X,List.Perm.refl _⟩
def k2(Vm:List Nat):Option (Nat×ak)->Prop
 |none=>True
 |some (b,_)=>b∈Vm
def IK{J:aE (List ab×Option (Nat×ak))}{l:fi}(g3:oW (aS a.prog a.w) a.A a.env a.cL)(hd:a.calm=aa)(Uw:mi a Vc Vy J)(he:hD a Vm Vc l)(hf:hX a Vm VN Vp)(cs:∀b∈UU,b∈Vm)(UH:∀k r UO,J k=Z (r,UO)->k2 Vm r.2)(db:hx a (.For Vc Vy VN [] UM) (Bi (y3 J) (zD Vm l)<|oc Vm Vp)):gG a UU (.For Vc Vy VN [] UM) (gv J l Vp):=by
 refine ke db λUv x h ds=>?_;let⟨k,N,aU,@UO,X,ai,dL,p⟩:=ds;let⟨@⟨⟨B,m⟩,UE⟩,t,z⟩:=bE.mp dL;let⟨@⟨L,Vd⟩,eq,ev⟩:=cx.mp z;cases ev;refine⟨k,N,(B,m),UE,X,ai,t,λVh UD UQ UA ex Uz fd bi an=>?_⟩;have fn:k2 Vm m:=UH k _ _ t;have bm:=dz.mp an.ai;have ap:∀{UT:az}{U6:List ae},bk UD UQ UT U6->∀g∈UA,∀H,UD g=Z H->UT g=Z H:=λj g fr H d=>j.keep g H d λe=>bm.2.2 g e g fr rfl;have bn:∀{UT:az}{U6:List ae}{c:a5},bk UD UQ UT U6->c3 Vm x c->q1 UT c UA m:=λ{UT U6 c} j L=>by
  cases m with
  |none=>trivial
  |some o=>
   let⟨b,v⟩:=o;let⟨@u,f0,f1⟩:=fd;exact⟨u,(L.2 b fn).trans f0,f1.mono j.tup<|ap j⟩
 have bs:∀{c:a5},c3 Vm x c->c3 UU x c:=λL=>⟨L.1,λb Uw=>L.2 b<|cs b Uw⟩;have bv:∀{c:a5}{UT:az}{U6:List ae}{Vd:a0},ra UU Uv x h N (lM m Vd) .aM->c3 Vm x c->bA UT Vd c U6->bk UD UQ UT U6->Uv.aM c UT:=λ{c UT U6 Vd} p L as y=>by
  let⟨M,@R,a1,U5⟩:=wU as (bn y L);exact p c UT M (bs L) a1 ((an.trans y bi).less U5)
 refine⟨λb E a2 P=>E+b=B.length/\∃i U8,c3 Vm x a2/\bA P i a2 U8/\bk UD UQ P U8/\dK l Vp (B.drop b) i=Z (L,Vd),⟨B.length,rfl,UE,UQ,c3.refl,ex,bk.perm bm.1<|List.Perm.refl _,eq⟩,?_⟩;rintro b E a2 P ⟨hm,i,U8,D,ca,Ux,Q⟩;by_cases cd:b<B.length
 ·let@⟨f2,f4⟩:=Uz.go P Ux.tup (ap Ux) b B[b] (by simp[cd]);rw[jK cd,dK]at Q;let⟨@F,dC,dc⟩:=bE.mp Q;let⟨@⟨ce,bd⟩,fo,S⟩:=bE.mp dc;refine .inr ⟨f2,λc UT=>(E-1)+(b+1)=B.length/\∃i U8,c3 Vm x c/\bA UT i c U8/\bk UD UQ UT U8/\dK l Vp (B.drop<|b+1) i=Z (L,Vd),λc UT e=>⟨E-1,⋯,e⟩,λf UT f8=>?_⟩;let@⟨be,ga⟩:=f4 f UT f8;have as:=ca.mono be.tupS λg W m d=>be g m d;have y:=Ux.same be;refine⟨i,U8,.im B[b],[],F,as,⟨ga,rfl⟩,by rw[b_];exact y.ai,dC,λhw ge M T a1 ch=>?_⟩;have G:bk UD UQ ge M:=y.seq (by rw[b_]at ch;exact ch);refine⟨F,M,ce,bd,a1,G.ai,fo,?_⟩;cases ce with
  |aM=>exact λal am I n q s=>⟨⋯,bd,I,(D.trans T).trans n,q,G.seq s,S⟩
  |cG=>exact λal am I n q s=>⟨⋯,bd,I,(D.trans T).trans n,q,G.seq s,S⟩
  |dI=>
   cases S;exact λal am I n q s=>bv p ((D.trans T).trans n) q (G.seq s)
  |dR v=>
   cases S;intro u al am I ci n q gl s;have cl:=G.seq s;have co:=(D.trans T).trans n;let⟨cr,@gt,g1,g2⟩:=wU (UA:=UA) q (bn cl co);refine p u al am cr ci (bs co) g1 gl ((an.trans cl bi).less (aH:=gt) ?_);rw[bu];refine (ed cr dy).trans ?_;rw[<-bu];refine (fg ci g2).trans ?_;rw[bu,bu];exact ed _ dy
 ·have Uw:b=B.length:=⋯
  subst Uw;refine .inl ⟨Uz.stop P Ux.tup<|ap Ux,?_⟩;rw[m2 (bT _)]at Q;cases Q;exact bv p D ca Ux
end
section
variable{a:aK}
variable{l:fi}
def kh{J:aE (List ab×Option (Nat×ak))}{Vp:bt}(c:oW (aS a.prog a.w) a.A a.env a.cL)(d:a.calm=aa)(Uw:mi a Vc Vy J)(e:hD a Vm Vc l)(g:hX a Vm VN Vp)(h:∀b∈UU,b∈Vm)(UH:∀k r UO,J k=Z (r,UO)->k2 Vm r.2)(i:∀f,lS Vy a.env f=pure f:=by intro W;rfl):gG a UU (.For Vc Vy VN [] UM) (gv J l Vp):=
 IK c d Uw e g h UH (BD c d Uw e g i)
def Pj(Q:Φ)(U:cf):bX:=(λx h UA=>U x h λf UD=>∃g,f=.ref g/\(((∃y,dm Q UD g y)/\UA (rI Q g) UD)\/((∃y,cp Q UD g y)/\UA (tj Q g) UD)))
variable{M:bj}
def FH{U:cf}(n:bU a M U):kB a Vc M (Pj a.K U):=by
 intro G j x h UA q e;refine bW (n G j x h _ q e) λu b r=>?_;let⟨f,@UD,i,s,t⟩:=r;let⟨@g,d,p⟩:=t;subst d;cases s;rcases p with ⟨⟨y,k⟩,p⟩|⟨⟨y,k⟩,p⟩
 ·let⟨@UI,v,o,w⟩:=i.list k;refine wpAny_pyIter_list o.isList ?_;refine⟨b.heap.objs.size,[b.heap.objs.size],_,_,UD,rfl,i.kept (Va:=b.toks) λc m d=>b5 _ d,RR g _,⟨_,dr _ rfl,rfl,rfl⟩,λc l=>?_,p⟩;have d:c=b.heap.objs.size:=by simpa using l
  subst d;exact i.ry (bT _) (i.aT.fresh<|bT _)
 ·let⟨@UI,v,o,w⟩:=i.tuple k;refine wpAny_pyIter_tuple (show b.heap.IsTuple g UI.toArray from o) ?_;refine⟨b.heap.objs.size,[b.heap.objs.size],_,_,UD,rfl,i.kept (Va:=b.toks) λc m d=>b5 _ d,Qm g _,⟨_,dr _ rfl,rfl,rfl⟩,λc l=>?_,p⟩;have d:c=b.heap.objs.size:=by simpa using l
  subst d;exact i.ry (bT _) (i.aT.fresh<|bT _)
theorem bP.get{h:az}:∀{B:List ab}{S:List av}{b:Nat}{v:ab},bP h B S->B[b]?=Z v->∃u,S[b]?=Z u/\cO h v u
 |[],_,_,_,_,d=>by simp at d
 |v::B,_,0,_,e,d=>by
  let⟨u,@r,rfl,t,z⟩:=e;simp at d;subst d;exact⟨u,rfl,t⟩
 |v::B,_,b+1,_,e,d=>by
  let⟨u,@r,rfl,t,z⟩:=e;let⟨@H,a,c⟩:=bP.get (b:=b) z ⇑d;exact⟨H,by simpa using a,c⟩
variable{g:ae}
theorem Ah(e:h g=Z (.lst y))(hd:bP h B y):kz (rI Q g) h [g] B where
 go:=λP I q b v d=>by
  let⟨@u,a,c⟩:=hd.get d;have Uu:=dm.of (Q:=Q) (q g (.head _) _ e);refine⟨⟨y,u,Uu,a⟩,λf k ⟨i,j⟩=>?_⟩;subst i;rw[j y Uu]at a;cases a;exact⟨c1.refl _,c.mono I.tup⟩
 stop:=λP I q=>⟨y,dm.of<|q g (.head _) _ e,by rw[<-hd.length];exact bT _⟩
theorem Lf{m:a7}(e:h g=Z (.dx m<|.lst y))(hd:bP h B y):kz (rI Q g) h [] B where
 go:=λP I q b v d=>by
  let⟨@u,a,c⟩:=hd.get d;have Uu:dm Q P g y:=.inl (.inr ⟨m,I.dx _ _ _ e⟩);refine⟨⟨y,u,Uu,a⟩,λf k ⟨i,j⟩=>?_⟩;subst i;rw[j y Uu]at a;cases a;exact⟨c1.refl _,c.mono I.tup⟩
 stop:=λP I q=>⟨y,.inl<|.inr ⟨m,I.dx _ _ _ e⟩,by rw[<-hd.length];exact bT _⟩
theorem Tt(e:h g=Z (.tup y))(hd:bP h B y):kz (tj Q g) h [] B where
 go:=λP I q b v d=>by
  let⟨@u,a,c⟩:=hd.get d;have Uu:=cp.of (Q:=Q) (I.tup g _ e);refine⟨⟨y,u,Uu,a⟩,λf k ⟨i,j⟩=>?_⟩;subst i;rw[j y Uu]at a;cases a;exact⟨c1.refl _,c.mono I.tup⟩
 stop:=λP I q=>⟨y,cp.of<|I.tup g _ e,by rw[<-hd.length];exact bT _⟩
abbrev jm:=aE (List ab×Option (Nat×ak))
@[simp] def gq(v:ak):Option (List ab):=match v with
 |.im (.tup B)=>Z B
 |.lst B=>Z B
 |.cF B=>Z B
 |_=>Y
@[simp] def dD(J:aE bN):jm:=λk=>(J k).bind λo=>match o.1 with
 |.cB v=>(gq v).map λB=>((B,Y),o.2)
 |.aY b=>(fO b o.2).bind λp=>(gq p.1).map λB=>((B,if p.1.dA=aa then Y else Z (b,p.1)),p.2)
def CD(C:cE h v u UA)(d:gq v=Z B):
  ∃g,u=.ref g/\(((∃y,dm Q h g y)/\kz (rI Q g) h UA B)\/((∃y,cp Q h g y)/\kz (tj Q g) h UA B)):=by
 unfold gq at d;split at d
 ·cases d;let@⟨⟨g,@y,rfl,t,z⟩,rfl⟩:=C;exact⟨g,rfl,.inr ⟨⟨y,cp.of t⟩,Tt t z⟩⟩
 ·cases d;let⟨g,@y,rfl,t,z,rfl⟩:=C;exact⟨g,rfl,.inl ⟨⟨y,dm.of t⟩,Ah t z⟩⟩
 ·cases d;let⟨g,y,@m,rfl,t,z,rfl⟩:=C;exact⟨g,rfl,.inl ⟨⟨y,.inl<|.inr ⟨m,t⟩⟩,Lf t z⟩⟩
 ·cases d
def gU{J:aE bN}(e:dH a M J):mi a Vc M (dD J):=by
 refine we (FH e) λx h F y=>?_;let⟨k,N,r,@UO,X,ai,A,p⟩:=y;let⟨@⟨f,UE⟩,t,z⟩:=bE.mp A;refine⟨k,N,f,UE,X,ai,t,λu UD UQ UA j U0 d=>?_⟩;cases f with
 |cB v=>
  let⟨@B,l,m⟩:=cx.mp z;cases m;let⟨@g,rfl,n⟩:=CD (Q:=a.K) U0 l;refine⟨g,rfl,?_⟩;rcases n with ⟨c,Uz⟩|⟨c,Uz⟩
  ·exact .inl ⟨c,p _ UD UQ UA j Uz trivial (cE.chg U0) d⟩
  ·exact .inr ⟨c,p _ UD UQ UA j Uz trivial (cE.chg U0) d⟩
 |aY b=>
  let⟨@⟨v,Vd⟩,l,m⟩:=bE.mp z;let⟨@B,C,D⟩:=cx.mp m;cases D;let⟨G,U6,@b3,o,i,q,E⟩:=AE j l;let@⟨U0,rfl⟩:=U0;rw[U0]at o;cases o;rw[b_]at d;have s:=d.jw E.symm;let⟨@g,rfl,n⟩:=CD (Q:=a.K) i C;have w:q1 UD x b3 (if v.dA=aa then Y else Z (b,v)):=by
   split
   ·trivial
   ·exact⟨_,U0,i⟩
  refine⟨g,rfl,?_⟩;rcases n with ⟨c,Uz⟩|⟨c,Uz⟩
  ·exact .inl ⟨c,p _ UD U6 b3 q Uz w i.chg s⟩
  ·exact .inr ⟨c,p _ UD U6 b3 q Uz w i.chg s⟩
def Tf{J:aE ak}:∀k r UO,dD (V J) k=Z (r,UO)->k2 Vm r.2:=by
 intro k r UO e;let⟨@⟨f,UE⟩,t,z⟩:=bE.mp e;unfold V at t;let⟨@o,c,a⟩:=cx.mp t;cases a;let⟨@B,d,b⟩:=cx.mp z;cases b
 trivial
variable{b:Nat}
def pO(Uw:b∈Vm):∀k r UO,dD (ag b) k=Z (r,UO)->k2 Vm r.2:=by
 intro k r UO e;let⟨@⟨f,UE⟩,t,z⟩:=bE.mp e;unfold ag at t;split at t
 ·cases t;let⟨@⟨v,Vd⟩,d,a⟩:=bE.mp z;let⟨@B,g,c⟩:=cx.mp a;cases c;show k2 Vm (if v.dA=aa then Y else Z (b,v));split
  ·trivial
  ·exact Uw
 ·cases t
def iF(D:Int)(s:Nat):List ab:=((range s).map λ(q:Nat)=>ab.int (D+(q:Int)))
theorem KZ{D:Int}:kz (vt D s) h [] (iF D s) where
 go:=λP I q b v d=>by
  have Uw:b<s:=by
   have:=(gp.mp d).1
   rwa [iF,bS,i0]at this
  refine⟨Uw,λf e ⟨a,c⟩=>?_⟩;subst a;rw[iF,gy,yV Uw]at d;cases d;exact⟨c1.refl _,c⟩
 stop:=λP I q=>by
  show s<=_;rw[iF,bS,i0];exact bT _
def sA(b:Int):Prop :=( -1000000<=b/\b<=1000000)
noncomputable instance (b:Int):Decidable (sA b):=inferInstanceAs (Decidable<|_/\_)
@[simp] def nc(J:aE (List bN)):jm:=λk=>(J k).bind λo=>(h4 o.2 o.1).bind λB=>match B with
 |[.im (.int w)]=>if sA w then Z ((iF 0 w.toNat,Y),o.2) else Y
 |_=>Y
def Cy{v:ab}(e:mS h [.im v] S):∃u,S=[u]/\cO h v u:=by
 let⟨u,@r,rfl,⟨@UA,t,W⟩,z⟩:=e;cases (show r=[] from z);exact⟨u,rfl,t⟩
def w6{v d:ab}(e:mS h [.im v,.im d] S):∃u H,S=[u,H]/\cO h v u/\cO h d H:=by
 let⟨u,@r,rfl,⟨@UA,t,W⟩,z⟩:=e;let⟨@H,rfl,a⟩:=Cy z;exact⟨u,H,rfl,t,a⟩
def GY{g:bj}(i:ey a "range")(j:a.ay "range" = Y)(c:fm a [g] J)(UH:bK [g] a.env=[(aq,b6 g a.env)]:=by rfl):mi a Vc (.Call (.Name "range" o) [g] [] UM) (nc J):=by
 refine we (QR i j c UH) λx h v l=>?_;let⟨k,N,r,@UO,X,ai,m,p⟩:=l;let⟨@⟨UN,UE⟩,t,z⟩:=bE.mp m;let⟨@B,n,b⟩:=bE.mp z;refine⟨k,N,UN,UE,X,ai,t,λS UD UQ y e U0 q=>?_⟩;have s:=U0.read e n;split at b
 ·rename_i w;split at b
  ·rename_i f;cases b;let⟨@u,rfl,d⟩:=Cy s;cases (show u=.int w from d);exact⟨w,rfl,by have:=f.1;lia,by have:=f.2;lia,p _ UD UQ [] e KZ trivial (λg c=>nomatch c) (by rw[b_];exact q.less (List.Perm.refl _))⟩
  ·cases b
 ·cases b
def DV:∀k r UO,nc J k=Z (r,UO)->k2 Vm r.2:=by
 intro k r UO e;let⟨@⟨UN,UE⟩,t,z⟩:=bE.mp e;let⟨@B,b,a⟩:=bE.mp z;split at a
 ·split at a
  ·cases a;trivial
  ·cases a
 ·cases a
def th(a:aK)(VO:List bj)(J:aE Bool):Prop:=(∀ ⦃o⦄,FR a VO (ju J) o)
def d5:aE Bool:=(λk=>Z (aa,k))
def FX:th a [] d5:=by
 intro G j x h A b d;let⟨k,N,c,@UO,X,ai,e,p⟩:=d;cases e;exact Qz G j x h A b (p h N X<|bk.perm ai<|List.Perm.refl _)
def wu{J:aE Bool}(e:hP a n J):th a [n] J:=QP e
@[simp] def lz(Ve:List Nat)(k:a0):a0:=Ve.map λb=>k.getD b Y
def lj:List Nat->a0->a0
 |[],k=>k
 |b::r,k=>lj r (match k[b]? with|some (Z _)=>k.set b (Z .dd)|_=>k)
@[simp] def ji:List Nat->a0->a0->a0
 |b::r,m::aH,k=>ji r aH (k.set b m)
 |_,_,k=>k
def hG(own:Nat)(Vc:fi)(n:aE Bool)(d:aE ak): List ab -> List ab -> a0 -> Option (List ab × a0)
  |[],a,aH => Z (a,aH)
  |f :: r,a,aH => (Vc (.im f)<|replicate own Y ++ aH).bind λUE => (n UE).bind λo => if o.1=aa then (d o.2).bind λp => match p.1 with
      |.im v => if a.length<100000 then hG own Vc n d r (a ++ [v]) (p.2.drop own) else Y
      |_ => Y
    else hG own Vc n d r a (o.2.drop own)
@[simp] def de(own:Nat)(Ve:List Nat)(VU:jm)(Vc:fi)(n:aE Bool)(d:aE ak):aE ak:=λk=>(VU k).bind λo=>(hG own Vc n d o.1.1 []<|lz Ve o.2).map λp=>(.lst p.1,lM o.1.2<|ji Ve p.2 o.2)
def qx(own s:Nat):List Nat:=((range s).map (·+own))
def L8(e:k[b]?=Z m):k.getD b Y=m:=by rw[cT,e];rfl
def bA.void(X:bA h k x N)(b:Nat):∃UQ U6,bA h (match k[b]? with|some (Z _)=>k.set b (Z .dd)|_=>k) x UQ/\mW h (k.getD b Y) (x.getD b Y) U6/\(UQ++U6).Perm N:=by
 split
 ·rename_i v hd;let⟨u,UQ,@U6,t,z,a,c⟩:=X.out hd;refine⟨U6,UQ,a,?_,c⟩;rw[L8 hd,cT,t];exact⟨u,rfl,z⟩
 ·rename_i e;refine⟨N,[],X,?_,by rw[b_]⟩;have:k.getD b Y=Y:=by
   rw[cT];cases d:k[b]? with
   |none=>rfl
   |some m=>
    cases m with
    |none=>rfl
    |some v=>exact absurd d (e v)
  rw[this];exact rfl
theorem F0{h:az}{x:a5}:∀{Ve:List Nat}{k:a0}{N:List ae},Ve.Nodup->bA h k x N->∃UQ U6,bA h (lj Ve k) x UQ/\bA h (lz Ve k) (Ve.map λb=>x.getD b Y) U6/\(UQ++U6).Perm N
 |[],k,N,_,X=>⟨N,[],X,⟨rfl,rfl⟩,by rw[b_]⟩
 |b::r,k,N,ai,X=>by
  let⟨UQ,@U6,t,z,f⟩:=X.void b;have a:=iI.mp ai;let⟨g,@c,i,e,j⟩:=F0 (Ve:=r) a.2 t;refine⟨g,U6++c,i,⟨_,_,U6,c,rfl,z,?_,rfl⟩,lr.trans<|(ed _ j).trans<|dy.trans f⟩;have d:lz r (match k[b]? with|some (Z _)=>k.set b (Z .dd)|_=>k)=lz r k:=by
   unfold lz;refine q2 λw l=>?_;split
   ·rw[cT,cT,nY];rintro rfl;exact a.1 l
   ·rfl
  rw[d]at e;exact e
def bA.Ss(X:bA h k x N)(e:mW h m (x.getD b Y) R):∃UQ U6,bA h (k.set b m) x UQ/\(UQ++U6).Perm (N++R):=by
 cases m with
 |some v=>
  let⟨@u,d,C⟩:=e;refine X.back C ?_;rw[cT]at d;cases p:x[b]? with
  |none=>rw[p]at d;cases d
  |some f=>rw[p]at d;rw[show f=Z u from d]
 |none=>
  cases (show R=[] from e);rw[b_];by_cases Uw:b<k.length
  ·cases p:k[b]? with
   |none=>exact absurd (List.getElem?_eq_none_iff.mp p) ⋯
   |some f=>
    cases f with
    |none=>
     refine⟨N,[],?_,by rw[b_]⟩;have:k.set b Y=k:=by
      refine qm λw=>?_;by_cases d:b=w
      ·subst d;rw[p,tB Uw]
      ·rw[nY d]
     rw[this];exact X
    |some v=>
     let⟨u,UQ,@U6,t,z,l,n⟩:=X.out p;have gen:∀{k:a0}{x:a5}{N:List ae}{b:Nat},bA h k x N->∃UQ U6,bA h (k.set b Y) x UQ/\(UQ++U6).Perm N:=by
      intro k;induction k with
      |nil=>intro x N b X;exact⟨N,[],by simpa using X,by rw[b_]⟩
      |cons m k c=>
       intro x N b X;let⟨f,r,O,@UY,rfl,g,a,rfl⟩:=X;cases b with
       |zero=>exact⟨UY,O,⟨f,r,[],UY,rfl,rfl,a,rfl⟩,dy⟩
       |succ b=>
        let⟨aH,@Uv,i,j⟩:=c (b:=b) a;refine⟨O++aH,Uv,⟨f,r,O,aH,rfl,g,i,rfl⟩,?_⟩;rw[bu];exact ed _ j
     exact gen X
  ·refine⟨N,[],?_,by rw[b_]⟩;rw[List.set_eq_of_length_le ⋯];exact X
theorem CY{h:az}{x:a5}:∀{Ve:List Nat}{aH k:a0}{N R:List ae},bA h k x N->bA h aH (Ve.map λb=>x.getD b Y) R->∃UQ U6,bA h (ji Ve aH k) x UQ/\(UQ++U6).Perm (N++R)
 |[],aH,k,N,R,X,_=>⟨N,R,by cases aH<;>exact X,List.Perm.refl _⟩
 |b::r,[],k,N,R,X,e=>⟨N,R,X,List.Perm.refl _⟩
 |b::r,m::aH,k,N,R,X,e=>by
  let⟨f,I,g,@i,d,t,z,rfl⟩:=e;cases d;let⟨UQ,@O,a,c⟩:=X.Ss t;let⟨U6,@UY,U3,U9⟩:=CY (Ve:=r) (aH:=aH) a z;refine⟨U6,UY++O,U3,?_⟩;rw[<-bu,<-bu];refine (fg O U9).trans ?_;rw[bu];refine (ed UQ dy).trans ?_;rw[<-bu];exact fg _ c
def KI:∀{Ve:List Nat}{aH k:a0},Ve.length=aH.length->Ve.Nodup->ji Ve aH (lj Ve k)=ji Ve aH k:=by
 have l:∀{r:List Nat}{aH k:a0}{b:Nat}{m:Option ak},b∉r->ji r aH (k.set b m)=(ji r aH k).set b m:=by
  intro r;induction r with
  |nil=>intro aH k b m W;cases aH<;>rfl
  |cons w r a=>
   intro aH k b m e;cases aH with
   |nil=>rfl
   |cons n aH=>
    have f:b≠w:=λd=>e (by rw[d];exact .head _);show ji r aH ((k.set b m).set w n)=(ji r aH<|k.set w n).set b m;rw[x3 _ _ f,a λi=>e<|.tail _ i]
 have g:∀{r:List Nat}{k:a0}{b:Nat}{m:Option ak},b∉r->lj r (k.set b m)=(lj r k).set b m:=by
  intro r;induction r with
  |nil=>intro k b m W;rfl
  |cons w r a=>
   intro k b m e;have f:b≠w:=λd=>e (by rw[d];exact .head _);show lj r (match (k.set b m)[w]? with|some (Z _)=>(k.set b m).set w (Z .dd)|_=>k.set b m)=(lj r (match k[w]? with|some (Z _)=>k.set w (Z .dd)|_=>k)).set b m;rw[nY f];cases k[w]? with
   |none=>exact a λi=>e (.tail _ i)
   |some p=>
    cases p with
    |none=>exact a λi=>e (.tail _ i)
    |some v=>
     show lj r ((k.set b m).set w<|Z .dd)=_;rw[x3 _ _ f];exact a λi=>e (.tail _ i)
 intro Ve;induction Ve with
 |nil=>intro aH k W W;cases aH<;>rfl
 |cons b r a=>
  intro aH k h ai;have c:=iI.mp ai;cases aH with
  |nil=>cases h
  |cons n aH=>
   have j:r.length=aH.length:=by simpa using h
   show ji r aH ((lj r (match k[b]? with|some (Z _)=>k.set b (Z .dd)|_=>k)).set b n)=ji r aH (k.set b n);split
   ·rw[g c.1,wK,<-g c.1,a j c.2]
   ·rw[<-g c.1,a j c.2]
theorem Dz{h:az}{k:a0}{r:a5}{N:List ae}(e:bA h k r N):∀{own:List aF},bA h (replicate own.length Y++k) (own.map (λ_=>Y)++r) N
 |[]=>e
 |f::own=>⟨Y,_,[],N,rfl,rfl,Dz e (own:=own),rfl⟩
theorem y4{h:az}:∀{s:Nat}{k:a0}{x:a5}{N:List ae},bA h k x N->∃UQ U6,bA h (k.drop s) (x.drop s) UQ/\(UQ++U6).Perm N
 |0,k,x,N,e=>⟨N,[],e,by rw[b_]⟩
 |s+1,[],x,N,e=>by
  cases e.1;exact⟨[],N,⟨rfl,rfl⟩,List.Perm.refl _⟩
 |s+1,m::k,x,N,e=>by
  let⟨f,r,O,@UY,rfl,t,z,rfl⟩:=e;let⟨UQ,@U6,a,b⟩:=y4 (s:=s) z;exact⟨UQ,U6++O,a,by rw[<-bu];exact (fg O b).trans dy⟩
def bk.both(g:bk h N UD (UQ++UA)):bk h N UD UQ:=g.less (List.Perm.refl _)
theorem bP.snoc:∀{B:List ab}{S:List av}{v:ab}{u:av},bP h B S->cO h v u->bP h (B++[v]) (S++[u])
 |[],S,v,u,e,C=>by cases (show S=[] from e);exact⟨u,[],rfl,C,rfl⟩
 |d::B,S,v,u,e,C=>by
  let⟨H,@r,rfl,t,z⟩:=e;exact⟨H,r++[u],rfl,t,z.snoc C⟩
variable{VU:jm}
def GC(ai:Ve.Nodup)(e:ni (de own.length Ve VU l VD VV) x h A):
  vW own Ve (y3 VU) (λ_=>zD (qx own.length Ve.length) l) (λ_=>ju VD) (λ_=>ni VV) x h A:=by
 let⟨k,N,r,@UO,X,fr,f0,p⟩:=e;let⟨@⟨⟨y,m⟩,UE⟩,t,z⟩:=bE.mp f0;let⟨@⟨B,bn⟩,f1,f2⟩:=cx.mp z;cases f2;refine⟨k,N,(y,m),UE,X,fr,t,λVh UD UQ UA f4 Uz f8 ga ge lf=>?_⟩;let⟨gb,@L,bs,D,U5⟩:=F0 ai f4;have bv:bk h N UD (L++(gb++UA)):=ge.jw (by
  refine (fg UA U5.symm).trans ?_;rw[bu];exact lr)
 have ca:=dz.mp bv.ai;have gl:∀f∈gb++UA,fS UD f:=λf I=>by
  rcases dv.mp I with I|I
  ·exact bs.chg f I
  ·exact ga f I
 have T:∀{UT:az}{U6:List ae},bk UD L UT U6->∀g∈gb++UA,∀H,UD g=Z H->UT g=Z H:=λj g a H d=>j.keep g H d λe=>ca.2.2 g e g a rfl;refine⟨λb E UL P=>E+b=y.length/\∃q aH J,bA P aH (Ve.map λb=>x.getD b Y) J/\aH.length=Ve.length/\bk UD L P J/\bP P q UL/\hG own.length l VD VV (y.drop b) q aH=Z (B,bn),
  ⟨y.length,rfl,[],lz Ve UE,L,D,by rw[lz,bS],bk.perm ca.1<|List.Perm.refl _,rfl,f1⟩,?_⟩;rintro b E UL P ⟨U,q,aH,J,cd,gt,Ux,ce,al⟩;by_cases ch:b<y.length
 ·let@⟨g1,g2⟩:=Uz.go P Ux.tup (λg a=>T Ux g<|ei _ a) b y[b] (by simp[ch]);rw[jK ch,hG]at al;let⟨@F,dC,dc⟩:=bE.mp al;let⟨@⟨c,ap⟩,fo,Q⟩:=bE.mp dc;refine .inr ⟨g1,λci UT=>(E-1)+(b+1)=y.length/\∃q aH J,bA UT aH (Ve.map λb=>x.getD b Y) J/\aH.length=Ve.length/\bk UD L UT J/\bP UT q ci/\hG own.length l VD VV (y.drop<|b+1) q aH=Z (B,bn),λci UT e=>⟨E-1,⋯,e⟩,λf UT I=>?_⟩;let@⟨C,g3⟩:=g2 f UT I;have hd:=cd.mono C.tupS λg W m d=>C g m d;have cl:=Ux.same C;have am:=ce.mono C.tupS.tup;refine⟨replicate own.length Y++aH,J,.im y[b],[],F,Dz hd,⟨g3,rfl⟩,by rw[b_];exact cl.ai,dC,λas he co an cr a1=>⟨λw u n=>?_,?_⟩⟩
  ·
   have li:own.length<=w:=by
    by_cases hf:w<own.length
    ·rw[jS,pU ⇑hf,gy]at n;cases d:own[w]? with
     |none=>rw[d]at n;cases n
     |some i=>rw[d]at n;cases n
    ·lia
   have lm:w<own.length+Ve.length:=by
    have:=(gp.mp n).1
    rwa [jS,d7,bS,bS]at this
   have U:w∈qx own.length Ve.length:=ew.mpr ⟨w-own.length,ip.mpr ⋯,⋯⟩;exact (an.2 w U).trans n
  ·have cs:bk UD L he co:=cl.seq (by rw[b_]at a1;exact a1);have am:=am.mono a1.tup.tup;have db:as.drop own.length=Ve.map λb=>x.getD b Y:=by
    have ln:=cr.len;refine qm λw=>?_;by_cases n:w<Ve.length
    ·have U:w+own.length∈qx own.length Ve.length:=ew.mpr ⟨w,ip.mpr n,rfl⟩;have:=an.2 _ U;rw[nq,tf,this,jS,o4 ↥0,bS,Nat.add_sub_cancel]
    ·have ls:as.length<=own.length+Ve.length:=by
      rw[an.1,jS,d7,bS,bS];exact bT _
     rw[yW (by rw[gQ];lia),yW (by rw[bS];lia)]
   have ds:as.length=own.length+Ve.length:=by rw[an.1,jS,d7,bS,bS]
   refine⟨F,co,c,ap,cr,cs.ai,fo,λlv a2 M bd=>?_⟩;have R:=cs.seq bd;dsimp only at Q ⊢;cases c with
   |false=>
    rw[aO ek]at Q ⊢;let⟨S,@dL,G,be⟩:=y4 (s:=own.length) M;rw[db]at G;exact⟨⋯,q,ap.drop own.length,S,G,by rw[gQ,M.len,ds];lia,R.less be,am.mono bd.tup.tup,Q⟩
   |true=>
    rw[aJ rfl]at Q ⊢;let⟨@⟨u,eq⟩,hm,O⟩:=bE.mp Q;dsimp only at O;split at O
    ·rename_i v;split at O
     ·rename_i lw;refine⟨ap,a2,.im v,eq,M,R.ai,hm,λH mb S mo G hw bi=>?_⟩;let@⟨h0,rfl⟩:=hw;rw[b_]at bi;have ev:=(am.mono bd.tup.tup).mono bi.tup.tup;refine⟨AD (show UL.length<=100000 by rw[<-ev.length];lia) ∅,?_⟩;let⟨ii,@ms,ex,io⟩:=y4 (s:=own.length) G;rw[db]at ex;exact⟨⋯,q++[v],eq.drop own.length,ii,ex,by rw[gQ,G.len,ds];lia,(R.seq bi).less io,ev.snoc h0,O⟩
     ·cases O
    ·cases O
 ·have Uw:b=y.length:=⋯
  subst Uw;refine .inl ⟨Uz.stop P Ux.tup<|λg a=>T Ux g<|ei _ a,λbm fd=>?_⟩;rw[m2 (bT _),hG]at al;cases al;have it:bA P (lj Ve UE) x gb:=bs.mono Ux.tup λg a=>T Ux g (eG _ a);let⟨a2,@fn,M,jp⟩:=CY it cd;rw[KI (by rw[gt]) ai]at M;have kt:q1 P x UA m:=by
   cases m with
   |none=>trivial
   |some o=>
    let⟨b,v⟩:=o;let⟨@u,kw,lc⟩:=f8;exact⟨u,kw,lc.mono Ux.tup λg a=>T Ux g<|ei _ a⟩
  let⟨S,@dL,G,be⟩:=wU (UA:=UA) M kt;have C:c1 P (upd P bm<|.lst UL):=(c1.refl P).upd fd;have R:bk h N P S:=(bv.trans Ux gl).less (aH:=dL++fn) (by
   rw[<-bu];refine (fg fn be).trans ?_;rw[bu];refine (ed a2 dy).trans ?_;rw[<-bu];refine (fg UA jp).trans ?_;rw[bu];exact lr)
  exact p _ _ S [bm] (G.mono C.tupS λg W m d=>C g m d) ⟨bm,UL,rfl,eS,ce.mono C.tupS.tup,rfl⟩ (R.add fd G.chg)
def vB{VS:bj}{VO:List bj}{US:ha}(c:a.calm=aa)(UW:iC a US own Ve)(ai:Ve.Nodup)(Uw:mi a Vc Vy VU)(d:∀b,hD (a.fX (fV a own Ve) US b) (qx own.length Ve.length) Vc l)(g:∀b,th (a.fX (fV a own Ve) US b) VO VD)(i:∀b,cv (a.fX (fV a own Ve) US b) VS VV)(UH:∀f,lS Vy a.env f=pure f:=by intro W;rfl):cv a (.ListComp VS [⟨Vc,Vy,VO,0⟩] US UM) (de own.length Ve VU l VD VV):=
 en (Ky c UW Uw d g i UH) λx h A e=>GC ai e
end
@[simp] def jM(UU:List Nat):List ak->a0->Nat->List ak
 |v::B,m::k,w=>(if v.dA=aa then v else if w∈UU then m.getD .dd else .dd)::jM UU B k (w+1)
 |v::B,[],w=>(if v.dA=aa then v else .dd)::jM UU B [] (w+1)
 |[],_,_=>[]
@[simp] def c5(s E:Nat)(UU:List Nat)(J:bt):cP:=λB=>if B.length=s then match J (B.map Z++replicate (E-s) Y) with
 |some (.dR r,k)=>Z (r,jM UU B k 0)
 |some (.aM,k)=>Z (.im .a6,jM UU B k 0)
 |_=>Y else Y
theorem yZ{h:az}:∀{B:List ak}{S:List av}{N:List ae}{E:Nat},eh h B S N->bA h (B.map Z++replicate E Y) (S.map Z++replicate E Y) N
 |[],S,N,E,e=>by
  let@⟨rfl,rfl⟩:=e;show bA h (replicate E Y) (replicate E Y) [];induction E with
  |zero=>exact⟨rfl,rfl⟩
  |succ E a=>exact⟨Y,_,[],[],rfl,rfl,a,rfl⟩
 |v::B,S,N,E,e=>by
  let⟨u,r,UQ,@U6,rfl,t,z,rfl⟩:=e;exact⟨Z u,_,UQ,U6,rfl,⟨u,rfl,t⟩,yZ z,rfl⟩
theorem xp{h P:az}{UU:List Nat}(I:eL h P):∀{B:List ak}{S:List av}{n:List ae}{k:a0}{x:a5}{N:List ae}{a:Nat},eh h B S n->bA P k x N->(∀(w:Nat) (u:av),(a+w)∈UU->S[w]?=Z u->x[w]?=Z (Z u))->
  ∃UA R,eh P (jM UU B k a) S UA/\(UA++R).Perm N
 |[],S,n,k,x,N,a,e,X,_=>⟨[],N,by unfold jM;exact⟨e.1,rfl⟩,List.Perm.refl _⟩
 |v::B,S,n,[],x,N,a,e,X,q=>by
  let⟨u,r,O,@UY,rfl,t,z,rfl⟩:=e;let@⟨rfl,rfl⟩:=X;let⟨UA,@R,b,c⟩:=xp (k:=[]) (x:=[]) (N:=[]) (a:=a+1) I z ⟨rfl,rfl⟩ λw u o p=>by
   have:=q (w+1) u (by rw[show a+(w+1)=a+1+w by lia];exact o) ⇑p;simp at this
  rw[jM];refine⟨UA,R,⟨u,r,[],UA,rfl,?_,b,rfl⟩,c⟩;split
  ·rename_i i;have:=t.mono I λg l=>by rw[t.dA i]at l;cases l
   rw[t.dA i]at this;exact this
  ·exact rfl
 |v::B,S,n,m::k,x,N,a,e,X,q=>by
  let⟨u,r,O,@UY,rfl,t,z,rfl⟩:=e;let⟨f,j,aH,@Uv,rfl,y,A,rfl⟩:=X;let⟨UA,@R,b,c⟩:=xp (k:=k) (x:=j) (a:=a+1) I z A λw u o p=>by
   have:=q (w+1) u (by rw[show a+(w+1)=a+1+w by lia];exact o) ⇑p;simpa using this
  rw[jM];split
  ·rename_i i;have s:=t.mono I λg l=>by rw[t.dA i]at l;cases l
   rw[t.dA i]at s;refine⟨UA,R++aH,⟨u,r,[],UA,rfl,s,b,rfl⟩,?_⟩;rw[<-bu];exact (fg aH c).trans dy
  ·split
   ·rename_i D;have E:f=Z u:=by
     have:=q 0 u D rfl;simpa using this
    subst E;cases m with
    |none=>
     refine⟨UA,R++aH,⟨u,r,[],UA,rfl,rfl,b,rfl⟩,?_⟩;rw[<-bu];exact (fg aH c).trans dy
    |some d=>
     let⟨@G,F,C⟩:=y;cases F;refine⟨aH++UA,R,⟨u,r,aH,UA,rfl,C,b,rfl⟩,?_⟩;rw[bu];exact ed _ c
   ·refine⟨UA,R++aH,⟨u,r,[],UA,rfl,rfl,b,rfl⟩,?_⟩;rw[<-bu];exact (fg aH c).trans dy
section
variable{UB:bC}{C:bg}{Q:Φ}{ay:aF->Option af}{UC:aZ}
def PU{VA:aF}{X:bz}{L:ae}{UZ:List aF}{q:Nat}{J:bt}(N:gV Q f VA X L fd)(UW:kb UZ UJ (dU X))(v:UJ.length=s)(G:∀b∈UU,b<s)(x:∀(Vg:af) (O:bB) (U7:List d0) (j:ao) (h:az) (Uv:fF),ea q (O.deeper<|iD VA (dU X) j.heap.objs.size L Vg)->hX (h7 il UB C Q ay UC UZ VA (dU X) L Vg O U7 j h Uv).oA UU (g4 X) J):
  gL UB C Q ay UC il (q+1) L fd UJ (jX s<|c5 s UZ.length UU J):=by
 refine N.ok UW (λS h A Uv e=>e.1.trans v.symm) (λVg O U7 j h S A Uv y e=>⟨_,x Vg O U7 j h Uv y,?_⟩);let@⟨m,⟨B,i,r,@I,k,ai,a,p⟩⟩:=e;have z:B.length=s:=k.length.trans m;unfold c5 at a;rw[aJ z]at a;have X:=yZ (E:=UZ.length-s) k;have T:start UZ S=S.map Z++replicate (UZ.length-s) Y:=by unfold start;rw[m]
 rw[T];have fin:∀{c:a5}{P:az}{U8:List ae}{UO:a0}{u:av}{UA:List ae},jM UU B UO 0=I->c3 UU (S.map Z++replicate (UZ.length-s) Y) c->bA P UO c U8->cE P r u UA->bk h i P (U8++UA)->A u P:=λ{c P U8 UO u UA} D Vm g l Ux=>by
  let⟨b3,@R,n,F⟩:=xp (UU:=UU) (a:=0) Ux.tup k g λw u o t=>by
   rw[AK]at o;rw[Vm.2 w o,pU (by rw[bS];exact (gp.mp t).1),gy,t];rfl
  rw[D]at n;refine p u P UA b3 l n (Ux.less (aH:=R) ?_);rw[bu];exact (ed UA F).trans dy
 split at a
 ·rename_i Vs UO d;cases a;exact⟨_,i,.dR r,UO,X,ai,d,λu c P U8 UA Vm g l Ux=>fin rfl Vm g l Ux⟩
 ·rename_i UO d;cases a;exact⟨_,i,.aM,UO,X,ai,d,λc P U8 Vm g Ux=>fin rfl Vm g ⟨rfl,rfl⟩ (by rw[b_];exact Ux)⟩
 ·cases a
end
def b7(h:az)(v:ak)(A:cJ):Prop:=(∀u P UA,c1 h P->cE P v u UA->UA.Nodup->(∀g∈UA,h g=Y)->A u P)
def b7.Cx{v:ab}(p:b7 h (.im v) A)(j:c1 h P)(e:cO P v u):A u P:=p u P [] j ⟨e,rfl⟩ my (λg a=>nomatch a)
def b7.i{h:az}{v:ab}{A:cJ}{u:av}(p:b7 h (.im v) A)(e:cO h v u):A u h:=p.Cx (c1.refl h) e
def b7.l{h:az}{B:List ab}{y:List av}{A:cJ}{o:ae}(p:b7 h (.lst B) A)(a:h o=Y)(e:bP h B y):A (.ref o) (upd h o<|.lst y):=by
 have j:c1 h (upd h o<|.lst y):=(c1.refl h).upd a;exact p _ _ [o] j ⟨o,y,rfl,eS,e.mono j.tupS.tup,rfl⟩ (fJ _ _) λg b=>by rw[cD.mp b];exact a
def b7.t{h:az}{B:List ab}{y:List av}{A:cJ}{o:ae}(p:b7 h (.im<|.tup B) A)(a:h o=Y)(e:bP h B y):A (.ref o) (upd h o<|.tup y):=by
 have j:c1 h (upd h o<|.tup y):=(c1.refl h).upd a;exact p.Cx j ⟨o,y,rfl,eS,e.mono j.tupS.tup⟩
section
variable{a:aK}
def dV.imp{L:af->af->ef af}{r:b3}(e:dV a L r)(b:∀f l h A,Vs f l h A->r f l h A):dV a L Vs:=λG j x h f l u H A c d g i=>e G j x h f l u H A c d g (b f l h A i)
def eY.imp{L:af}{r Vs:List av->az->cJ->Prop}(e:eY a L r)(b:∀y h A,Vs y h A->r y h A):eY a L Vs:=λG j x h y UR A c d f=>e G j x h y UR A c d (b y h A f)
def iq.imp{r:b3}(e:iq a r)(b:∀f l h A,Vs f l h A->r f l h A):iq a Vs:=λc d G j x h f l u H A g i k m=>e c d G j x h f l u H A g i k (b f l h A m)
def e8.i{h:az}{v:ab}{u:av}(e:e8 h (.im v) u):cO h v u:=e.elim λ_ C=>C.1
end
abbrev fM:=ak->ak->Option ak
@[simp] def jk(aH:Int->Int->Bool)(J:Int->Int->ab):fM:=λg c=>match g,c with
 |.im (.int b),.im (.int w)=>if aH b w=aa then Z (.im<|J b w) else Y
 |_,_=>Y
def Ee{aH:Int->Int->Bool}{J:Int->Int->ab}{g c:ak}(e:jk aH J g c=Z v):∃b w,g=.im (.int b)/\c=.im (.int w)/\aH b w=aa/\v=.im (J b w):=by
 unfold jk at e;split at e
 ·rename_i b w;split at e
  ·rename_i a;cases e;exact⟨b,w,rfl,rfl,a,rfl⟩
  ·cases e
 ·cases e
section
variable{a:aK}
variable{L:af->af->ef af}{J:Int->Int->av}{e:Int->Int->ab}
def uG{aH:Int->Int->Prop}{UY:Int->Int->Bool}(m:dV a L (p4 aH J))(c:∀b w,UY b w=aa->aH b w)(g:∀h b w,cO h (e b w)<|J b w):fa a L (jk UY e):=
 m.imp λf l h A ⟨U_,Vi,v,j,k,d,p⟩=>by
  let⟨b,@w,rfl,rfl,n,rfl⟩:=Ee d;exact⟨b,w,j.i,k.i,c b w n,b7.i p<|g h b w⟩
def rT(m:dV a L (lZ J))(c:∀h b w,cO h (e b w)<|J b w):fa a L (jk (λ_ W=>aa) e):=
 m.imp λf l h A ⟨U_,Vi,v,g,j,d,p⟩=>by
  let⟨b,@w,rfl,rfl,k,rfl⟩:=Ee d;exact⟨b,w,g.i,j.i,b7.i p<|c h b w⟩
@[simp] def iy:fM:=jk (λ_ W=>aa) λb w=>.int (b-w)
def gx(b w:Int):Bool:=(!(decide (bw.Int.intBits b>uP)&&decide (bw.Int.intBits w>uP)&&bw.Int.intTooBig (bw.Int.intBits b+bw.Int.intBits w)))
@[simp] def el:fM:=jk gx λb w=>.int (b*w)
@[simp] def om:fM:=jk (λ_ w=>decide (0<w/\w<1073741824)) λb w=>.int (b/w)
@[simp] def fN:fM:=jk (λ_ w=>decide (0<w)) λb w=>.int (b%w)
@[simp] def nJ:fM:=jk (λb w=>decide (0<=w/\w<=1000000/\b.natAbs<2^64)) λb w=>.int (b^w.toNat)
@[simp] def ny:fM:=jk (λ_ W=>aa) λb w=>.aC (decide (b<w))
@[simp] def e5:fM:=jk (λ_ W=>aa) λb w=>.aC (decide (b<=w))
@[simp] def p6:fM:=jk (λ_ W=>aa) λb w=>.aC (decide (w<b))
@[simp] def Dr:fM:=jk (λ_ W=>aa) λb w=>.aC (decide (w<=b))
def k9:fa a (gk .Sub) iy:=rT Jb λ_ W W=>rfl
def hT:fa a (gk .Mult) el:=uG Mr (λb w e=>by unfold gx at e;unfold IntMulOk;rw[vK]at e;rw[e];exact ek) λ_ W W=>rfl
def B9:fa a (gk .FloorDiv) om:=uG L9 (λb w e=>show 0<w/\w<1073741824 from eR e) λ_ W W=>rfl
def l5:fa a (gk .Mod) fN:=uG KC (λb w e=>eR e) λ_ W W=>rfl
def vm:fa a (gk .Pow) nJ:=uG Sm (λb w e=>show 0<=w/\w<=1000000/\b.natAbs<2^64 from eR e) λ_ W W=>rfl
def zc:fa a (dW .Lt) ny:=rT N1 λ_ W W=>rfl
def m4:fa a (dW .LtE) e5:=rT O_ λ_ W W=>rfl
def Pq:fa a (dW .Gt) p6:=rT Ox λ_ W W=>rfl
def Ni:fa a (dW .GtE) Dr:=rT Oq λ_ W W=>rfl
def N3:dV a (gk .Add) (λf l h A=>∃g c UL,f=.ref g/\l=.ref c/\cp a.K h g []/\cp a.K h c UL/\A (.ref c) h):=by
 intro G j x h f l u H A b q r e;let⟨g,c,@UL,rfl,rfl,t,v,p⟩:=e;cases q;cases r;let⟨@UI,w,y,W⟩:=b.tuple t;let⟨@E,F,Vj,W⟩:=b.tuple v;have d:UI=[]:=w.uS.mpr rfl;subst d;let⟨@⟨cls,z,data,aY⟩,i,k,⟨@s,hd⟩⟩:=id y;let⟨@⟨I,B,data2,C⟩,m,n,⟨@D,o⟩⟩:=id Vj;simp only at k hd n o;subst k hd n o;exact w1 ⟨_,i,rfl⟩ ⟨_,m,rfl⟩ yx yy zE z0 (ya _ _) (tuple_addW0 g c _ _ s D z B aY C rfl) ⟨i,m,.ref c,h,b,rfl,p⟩
@[simp] def dg:fM:=λg c=>match g,c with
 |.im (.int b),.im (.int w)=>Z (.im<|.int<|b+w)
 |.im (.tup f),.im (.tup l)=>if f.length+l.length<=100000 then Z (.im<|.tup<|f++l) else Y
 |.lst f,.lst l=>if f.length+l.length<=100000 then Z (.lst<|f++l) else Y
 |.im (.str f),.im (.str l)=>if f.length+l.length<=100000 then Z (.im<|.str<|f++l) else Y
 |_,_=>Y
theorem bP.app:∀{g c:List ab}{f l:List av},bP h g f->bP h c l->bP h (g++c) (f++l)
 |[],c,f,l,e,q=>by cases (show f=[] from e);exact q
 |v::g,c,f,l,e,q=>by
  let⟨u,@r,rfl,t,z⟩:=e;exact⟨u,r++l,rfl,t,z.app q⟩
def bP.nil{h:az}{g:List ab}(e:bP h g []):g=[]:=by
 cases g with
 |nil=>rfl
 |cons v g=>let⟨W,@W,d,W⟩:=e;cases d
def ft:fa a (gk .Add) dg:=by
 refine (Jy.or<|N3.or<|KP.or<|Rj.or NU).imp λf l h A x=>?_;let⟨U_,Vi,@v,n,q,d,p⟩:=x;unfold dg at d;split at d
 ·cases d;exact .inl ⟨_,_,n.i,q.i,b7.i p rfl⟩
 ·rename_i g c;split at d
  ·rename_i j;cases d;let⟨o,@y,rfl,t,z⟩:=n.i;let⟨k,@UL,rfl,m,e⟩:=q.i;refine .inr ?_;by_cases u:y=[]
   ·subst u;cases z.nil;exact .inl ⟨o,k,UL,rfl,rfl,cp.of t,cp.of m,b7.i p ⟨k,UL,rfl,m,e⟩⟩
   ·refine .inr (.inl ⟨o,k,y,UL,rfl,rfl,cp.of t,cp.of m,u,mQ (by rw[<-z.length,<-e.length];exact j),λw=>?_,λw s r=>b7.t p r<|z.app e⟩);subst w;cases e.nil;rw[b_]at p;exact b7.i p ⟨o,y,rfl,t,z⟩
  ·cases d
 ·rename_i g c;split at d
  ·rename_i j;cases d;let⟨W,o,@y,rfl,t,z,W⟩:=n;let⟨W,k,@UL,rfl,m,e,W⟩:=q;exact .inr (.inr (.inr (.inl ⟨o,k,y,UL,rfl,rfl,t,m,mQ (by rw[<-z.length,<-e.length];exact j),λs r=>b7.l p r<|z.app e⟩)))
  ·cases d
 ·rename_i g c;split at d
  ·rename_i j;cases d;exact .inr (.inr<|.inr<|.inr ⟨g,c,n.i,q.i,mQ j,b7.i p rfl⟩)
  ·cases d
 ·cases d
def Ts(s:Nat){O:bB}{f l:ab}{H u:af}(k:ab.bF s f=aa)(a8:ab.bF s l=aa)(R:O.units+s+2<b9)(o:dB j.heap f H)(a:dB j.heap l u):SeqAt.RcAt O j H u (cu f l):=by
 cases f with
 |a6=>
  cases (show H=.none from o);cases l with
  |a6=>cases (show u=.none from a);exact KO
  |aC c=>cases (show u=.bool c from a);exact KG c
  |int w=>let⟨@I,rfl⟩:=a;exact Qi w I
  |str i=>let⟨@I,rfl⟩:=a;exact Po i I
  |tup B=>let⟨g,m,U4,@E,rfl,t,z,h,W⟩:=a;exact QC ⟨m,t,z,E,h⟩ ⋯
  |fn g=>cases s<;>cases a8
  |aU g=>cases s<;>cases a8
  |fd=>cases s<;>cases a8
 |aC c=>
  cases (show H=.bool c from o);cases l with
  |a6=>cases (show u=.none from a);exact Qk c
  |aC n=>cases (show u=.bool n from a);exact P0 c n
  |int w=>let⟨@I,rfl⟩:=a;exact Ja c w I
  |str i=>let⟨@I,rfl⟩:=a;exact LL c i I
  |tup B=>let⟨g,m,U4,@E,rfl,t,z,h,W⟩:=a;exact Ji c ⟨m,t,z,E,h⟩ ⋯
  |fn g=>cases s<;>cases a8
  |aU g=>cases s<;>cases a8
  |fd=>cases s<;>cases a8
 |int b=>
  let⟨@e,rfl⟩:=o;cases l with
  |a6=>cases (show u=.none from a);exact Nt b e
  |aC n=>cases (show u=.bool n from a);exact Kl b e n
  |int w=>let⟨@I,rfl⟩:=a;exact Jf b e w I
  |str i=>let⟨@I,rfl⟩:=a;exact Q5 b e i I
  |tup B=>let⟨g,m,U4,@E,rfl,t,z,h,W⟩:=a;exact PS b e ⟨m,t,z,E,h⟩ ⋯
  |fn g=>cases s<;>cases a8
  |aU g=>cases s<;>cases a8
  |fd=>cases s<;>cases a8
 |str b=>
  let⟨@e,rfl⟩:=o;cases l with
  |a6=>cases (show u=.none from a);exact Nr b e
  |aC n=>cases (show u=.bool n from a);exact Rw b e n
  |int w=>let⟨@I,rfl⟩:=a;exact TO b e w I
  |str i=>let⟨@I,rfl⟩:=a;exact RQ b e i I
  |tup B=>let⟨g,m,U4,@E,rfl,t,z,h,W⟩:=a;exact M0 b e ⟨m,t,z,E,h⟩ ⋯
  |fn g=>cases s<;>cases a8
  |aU g=>cases s<;>cases a8
  |fd=>cases s<;>cases a8
 |fn g=>cases s<;>cases k
 |aU g=>cases s<;>cases k
 |fd=>cases s<;>cases k
 |tup B=>
  cases s with
  |zero=>cases k
  |succ s=>
  let⟨g,m,U4,@E,rfl,t,z,h,r⟩:=o;have Vo:j.heap.IsTuple g U4:=⟨m,t,z,E,h⟩;cases l with
  |a6=>cases (show u=.none from a);exact Lc Vo ⋯
  |aC n=>cases (show u=.bool n from a);exact Ra n Vo ⋯
  |int w=>let⟨@I,rfl⟩:=a;exact S5 w I Vo ⋯
  |str i=>let⟨@I,rfl⟩:=a;exact I7 i I Vo ⋯
  |fn g=>cases a8
  |aU g=>cases a8
  |fd=>cases a8
  |tup T=>
   let⟨c,Vb,q,@D,rfl,F,G,J,v⟩:=a;have VE:j.heap.IsTuple c q:=⟨Vb,F,G,D,J⟩;have x:=r.length;have y:=v.length;have L:U4.toList.length=U4.size:=by simp
   have M:q.toList.length=q.size:=by simp
   rw[L]at x;rw[M]at y;have p:=DD (A:=O) (e:=λw=>cu (B.getD w .a6)<|T.getD w .a6) Vo VE ⋯ λw bG N=>by
    let⟨@U_,A,P⟩:=r.get (w:=w) (u:=U4[w]) (by rw[hq];simp[bG]);let⟨@Vi,C,Q⟩:=v.get (w:=w) (u:=q[w]) (by rw[hq];simp[N]);rw[cT,A,cT,C];exact i6 s (j8 k A) (j8 a8 C) (by show O.units+1+s+1<b9;lia) P Q
   rw[<-x,<-y,sM (B:=B) (T:=T) (λw f l g c=>by rw[cT,g,cT,c];rfl)]at p;rw[cu];exact p
@[simp] def es:fM:=λg c=>match g,c with
 |.im f,.im l=>if (ab.bF 8 f&&ab.bF 8 l)=aa then Z (.im<|.aC<|cu f l) else Y
 |.lst f,.lst l=>if (ab.cQ 8 f&&ab.cQ 8 l)=aa then Z (.im<|.aC<|eP f l) else Y
 |_,_=>Y
theorem w8:∀{f l:List ab},f.length≠l.length->eP f l=aq
 |[],[],e=>absurd rfl e
 |[],_::_,_=>rfl
 |_::_,[],_=>rfl
 |g::f,c::l,e=>by
  rw[eP,w8 (λd=>e (by rw[dT,dT,d])),Hz]
def pe{G:List (ae×a7)}(b:aG a G x h j){g:ae}{y:List av}{B:List ab}(t:h g=Z (.lst y))(z:bP h B y):∃UI:List af,j.heap.IsList g UI.toArray/\d4 j.heap B UI/\UI.length=B.length:=by
 let@⟨i,⟨UI,@s,c,d⟩⟩:=b.aT g _ t;have:=z.fp b.aT c;exact⟨UI,⟨_,d,rfl,s,rfl⟩,this,this.length.symm⟩
def jn(an:a.A.units+20<b9):fa a (dW .Eq) es:=by
 intro G j x h f l u H A e s D P;let⟨U_,Vi,@v,m,n,d,p⟩:=P;unfold es at d;split at d
 ·rename_i g c;split at d
  ·rename_i k;cases d;rw[cV]at k;exact Ts 8 k.1 k.2 ⋯ (m.i.fp e.aT s) (n.i.fp e.aT D) a.prog a.w _ _ ⟨.aC _,h,e,rfl,b7.i p rfl⟩
  ·cases d
 ·rename_i g c;split at d
  ·rename_i k;cases d;rw[cV]at k;let⟨W,o,@y,rfl,t,z,W⟩:=m;let⟨W,ap,@UL,rfl,Q,R,W⟩:=n;cases s;cases D;let⟨@S,E,U,r⟩:=pe e t z;let⟨@al,F,am,I⟩:=pe e Q R;by_cases q:g.length=c.length
   ·have:=NN (A:=a.A) (e:=λw=>cu (g.getD w .a6)<|c.getD w .a6) E F (by rw[cX,cX,r,I];exact q) ⋯ λw bG J=>by
     let⟨@U_,L,m⟩:=U.get (w:=w) (u:=S.toArray[w]) (by simp at bG;simp[bG]);let⟨@Vi,M,n⟩:=am.get (w:=w) (u:=al.toArray[w]) (by simp at J;simp[J]);rw[cT,L,cT,M];exact i6 8 (j8 k.1 L) (j8 k.2 M) (by show a.A.units+1+8+1<b9;lia) m n
    refine this a.prog a.w _ _ ⟨.aC _,h,e,rfl,?_⟩;have N:=sM (B:=g) (T:=c) (d:=λw=>cu (g.getD w .a6)<|c.getD w .a6) (λw f l g c=>by rw[cT,g,cT,c];rfl);rw[<-q,Hb,kS,xg]at N;rw[cX,r,N];exact b7.i p rfl
   ·refine Ln (A:=a.A) E F (by rw[cX,cX,r,I];simpa using q) ⋯ a.prog a.w _ _ ⟨.aC _,h,e,rfl,?_⟩;rw[w8 q]at p;exact b7.i p rfl
  ·cases d
 ·cases d
end
section
variable{a:aK}
def IP(s:Nat){O:bB}{f l:ab}{H u:af}(k:ab.bF s f=aa)(a8:ab.bF s l=aa)(R:O.units+s+2<b9)(o:dB j.heap f H)(a:dB j.heap l u):SeqAt.RcNeAt O j H u (!cu f l):=by
 cases f with
 |a6=>
  cases (show H=.none from o);cases l with
  |a6=>cases (show u=.none from a);exact Sv
  |aC c=>cases (show u=.bool c from a);exact QZ c
  |int w=>let⟨@I,rfl⟩:=a;exact Mg w I
  |str i=>let⟨@I,rfl⟩:=a;exact IJ i I
  |tup B=>let⟨g,m,U4,@E,rfl,t,z,h,W⟩:=a;exact J8 ⟨m,t,z,E,h⟩ ⋯
  |fn g=>cases s<;>cases a8
  |aU g=>cases s<;>cases a8
  |fd=>cases s<;>cases a8
 |aC c=>
  cases (show H=.bool c from o);cases l with
  |a6=>cases (show u=.none from a);exact Se c
  |aC n=>cases (show u=.bool n from a);exact N9 c n
  |int w=>let⟨@I,rfl⟩:=a;exact JG c w I
  |str i=>let⟨@I,rfl⟩:=a;exact LS c i I
  |tup B=>let⟨g,m,U4,@E,rfl,t,z,h,W⟩:=a;exact RZ c ⟨m,t,z,E,h⟩ ⋯
  |fn g=>cases s<;>cases a8
  |aU g=>cases s<;>cases a8
  |fd=>cases s<;>cases a8
 |int b=>
  let⟨@e,rfl⟩:=o;cases l with
  |a6=>cases (show u=.none from a);exact Rx b e
  |aC n=>cases (show u=.bool n from a);exact QT b e n
  |int w=>let⟨@I,rfl⟩:=a;exact OL b e w I
  |str i=>let⟨@I,rfl⟩:=a;exact Li b e i I
  |tup B=>let⟨g,m,U4,@E,rfl,t,z,h,W⟩:=a;exact PC b e ⟨m,t,z,E,h⟩ ⋯
  |fn g=>cases s<;>cases a8
  |aU g=>cases s<;>cases a8
  |fd=>cases s<;>cases a8
 |str b=>
  let⟨@e,rfl⟩:=o;cases l with
  |a6=>cases (show u=.none from a);exact Nn b e
  |aC n=>cases (show u=.bool n from a);exact O4 b e n
  |int w=>let⟨@I,rfl⟩:=a;exact Pk b e w I
  |str i=>let⟨@I,rfl⟩:=a;exact IW b e i I
  |tup B=>let⟨g,m,U4,@E,rfl,t,z,h,W⟩:=a;exact Jn b e ⟨m,t,z,E,h⟩ ⋯
  |fn g=>cases s<;>cases a8
  |aU g=>cases s<;>cases a8
  |fd=>cases s<;>cases a8
 |fn g=>cases s<;>cases k
 |aU g=>cases s<;>cases k
 |fd=>cases s<;>cases k
 |tup B=>
  cases s with
  |zero=>cases k
  |succ s=>
  let⟨g,m,U4,@E,rfl,t,z,h,r⟩:=o;have Vo:j.heap.IsTuple g U4:=⟨m,t,z,E,h⟩;cases l with
  |a6=>cases (show u=.none from a);exact J2 Vo ⋯
  |aC n=>cases (show u=.bool n from a);exact Qt n Vo ⋯
  |int w=>let⟨@I,rfl⟩:=a;exact Rh w I Vo ⋯
  |str i=>let⟨@I,rfl⟩:=a;exact O0 i I Vo ⋯
  |fn g=>cases a8
  |aU g=>cases a8
  |fd=>cases a8
  |tup T=>
   let⟨c,Vb,q,@D,rfl,F,G,J,v⟩:=a;have VE:j.heap.IsTuple c q:=⟨Vb,F,G,D,J⟩;have x:=r.length;have y:=v.length;have L:U4.toList.length=U4.size:=by simp
   have M:q.toList.length=q.size:=by simp
   rw[L]at x;rw[M]at y;have p:=QX (A:=O) (e:=λw=>cu (B.getD w .a6)<|T.getD w .a6) Vo VE ⋯ λw bG N=>by
    let⟨@U_,A,P⟩:=r.get (w:=w) (u:=U4[w]) (by rw[hq];simp[bG]);let⟨@Vi,C,Q⟩:=v.get (w:=w) (u:=q[w]) (by rw[hq];simp[N]);rw[cT,A,cT,C];exact i6 s (j8 k A) (j8 a8 C) (by show O.units+1+s+1<b9;lia) P Q
   rw[<-x,<-y,sM (B:=B) (T:=T) (λw f l g c=>by rw[cT,g,cT,c];rfl)]at p;rw[cu];exact p
@[simp] def eV:fM:=λg c=>match g,c with
 |.im f,.im l=>if (ab.bF 8 f&&ab.bF 8 l)=aa then Z (.im<|.aC<|!cu f l) else Y
 |.lst f,.lst l=>if (ab.cQ 8 f&&ab.cQ 8 l)=aa then Z (.im<|.aC<|!eP f l) else Y
 |_,_=>Y
def ki(an:a.A.units+20<b9):fa a (dW .NotEq) eV:=by
 intro G j x h f l u H A e s D P;let⟨U_,Vi,@v,m,n,d,p⟩:=P;unfold eV at d;split at d
 ·rename_i g c;split at d
  ·rename_i k;cases d;rw[cV]at k;exact IP 8 k.1 k.2 ⋯ (m.i.fp e.aT s) (n.i.fp e.aT D) a.prog a.w _ _ ⟨.aC _,h,e,rfl,b7.i p rfl⟩
  ·cases d
 ·rename_i g c;split at d
  ·rename_i k;cases d;rw[cV]at k;let⟨W,o,@y,rfl,t,z,W⟩:=m;let⟨W,ap,@UL,rfl,Q,R,W⟩:=n;cases s;cases D;let⟨@S,E,U,r⟩:=pe e t z;let⟨@al,F,am,I⟩:=pe e Q R;by_cases q:g.length=c.length
   ·have:=NG (A:=a.A) (e:=λw=>cu (g.getD w .a6)<|c.getD w .a6) E F (by rw[cX,cX,r,I];exact q) ⋯ λw bG J=>by
     let⟨@U_,L,m⟩:=U.get (w:=w) (u:=S.toArray[w]) (by simp at bG;simp[bG]);let⟨@Vi,M,n⟩:=am.get (w:=w) (u:=al.toArray[w]) (by simp at J;simp[J]);rw[cT,L,cT,M];exact i6 8 (j8 k.1 L) (j8 k.2 M) (by show a.A.units+1+8+1<b9;lia) m n
    refine this a.prog a.w _ _ ⟨.aC _,h,e,rfl,?_⟩;have N:=sM (B:=g) (T:=c) (d:=λw=>cu (g.getD w .a6)<|c.getD w .a6) (λw f l g c=>by rw[cT,g,cT,c];rfl);rw[<-q,Hb,kS,xg]at N;rw[cX,r,N];exact b7.i p rfl
   ·refine MQ (A:=a.A) E F (by rw[cX,cX,r,I];simpa using q) ⋯ a.prog a.w _ _ ⟨.aC _,h,e,rfl,?_⟩;rw[w8 q]at p;exact b7.i p rfl
  ·cases d
 ·cases d
@[simp] def pP(s:Bool):fM:=λg c=>match g,c with
 |.im f,.im .a6=>Z (.im<|.aC<|s != decide (f=.a6))
 |.im (.aC f),.im (.aC l)=>Z (.im<|.aC<|s != (f==l))
 |_,_=>Y
def QD{v:ab}(e:cO h v u):decide (u=.a6)=decide (v=.a6):=by
 cases v with
 |a6=>cases (show u=.a6 from e);rfl
 |aC c=>cases (show u=.aC c from e);rfl
 |int c=>cases (show u=.int c from e);rfl
 |str c=>cases (show u=.str c from e);rfl
 |fn c=>cases (show u=.ref c from e);rfl
 |tup B=>let⟨g,@y,rfl,W⟩:=e;rfl
 |aU B=>let⟨g,y,@m,rfl,W⟩:=e;rfl
 |fd=>let⟨g,@m,rfl,W⟩:=e;rfl
def MO:dV a (dW .IsNot) (λf l h A=>∃g c,f=.aC g/\l=.aC c/\A (.aC<|!(g==c)) h):=by
 intro G j x h f l u H A b d e i;let⟨g,@c,k,m,p⟩:=i;subst k m;cases d;cases e;refine wpAny_isNot_plain (by cases g<;>cases c<;>rfl) ⟨.aC<|!(g==c),h,b,?_,p⟩;cases g<;>cases c<;>rfl
def Dl:fa a (dW .IsNot) (pP aa):=by
 refine (JV.or MO).imp λf l h A j=>?_;let⟨U_,Vi,@v,c,e,d,p⟩:=j;unfold pP at d;split at d
 ·rename_i g;cases d;refine .inl ⟨e.i,?_⟩;rw[QD c.i];refine b7.i p ?_;show _=_;rw[E_]
 ·cases d;refine .inr ⟨_,_,c.i,e.i,b7.i p ?_⟩;show _=_;rw[E_]
 ·cases d
def eU{UX:Type}[DecidableEq UX](UK:List (UX×ab))(q:UX):Option ab:=((UK.find? λo=>decide (o.1=q)).map (·.2))
theorem n8{UX:Type}[DecidableEq UX]{h:az}{q:UX}:∀{UK:List (UX×ab)}{U:List (UX×av)},e1 h UK U->(∀v,eU UK q=Z v->∃u,iz U q=Z u/\cO h v u)/\(eU UK q=Y->iz U q=Y)
 |_,_,.nil=>⟨(λv d=>by cases d),(λ_=>rfl)⟩
 |_,_,.cons (a:=o) (b:=p) e I=>by
  let@⟨t,z⟩:=n8 (q:=q) I;by_cases d:o.1=q
  ·have a:p.1=q:=e.1.symm.trans d;refine⟨λv hd=>?_,λb=>?_⟩
   ·have:∀r,eU (o::r) q=Z o.2:=λr=>by simp[eU,jl,d]
    rw[this]at hd;cases hd;exact⟨p.2,vr a,e.2⟩
   ·have:∀r,eU (o::r) q=Z o.2:=λr=>by simp[eU,jl,d]
    rw[this]at b;cases b
  ·have a:¬ p.1=q:=λi=>d (e.1.trans i);have:∀r,eU (o::r) q=eU r q:=λr=>by simp[eU,jl,d]
   rw[this,vJ a];exact⟨t,z⟩
@[simp] def a4:fM:=λg c=>match g,c with
 |.im (.tup B),.im (.int b)=>(eH B b).map .im
 |.lst B,.im (.int b)=>(eH B b).map .im
 |.cF B,.im (.int b)=>(eH B b).map .im
 |.aQ UK,.im (.tup q)=>if ab.keys 7 q=aa then (eU UK q).map .im else Y
 |.dJ UK,.im (.int b)=>(eU UK<|.inl b).map .im
 |.dJ UK,.im (.str b)=>(eU UK<|.inr b).map .im
 |.oj UK,.im (.tup q)=>if ab.keys 7 q=aa then (eU UK q).map .im else Y
 |_,_=>Y
def I9(c:a.A.units+20<b9):iq a (λf l h A=>∃g u,f=.ref g/\hg h g l (Z u)/\A u h):=by
 intro D o G j x h f l u H A b e k ⟨g,i,d,J,p⟩ UH;subst d;cases e;exact x4 (Rl b J) Dv.lookup (TN c b J k λq r m n=>⟨i,h,m,n,p⟩) UH
def wi{b:Int}{v:ab}(e:bP h B y)(d:eH B b=Z v):∃u,eH y b=Z u/\cO h v u:=by
 unfold eH at d ⊢;rw[<-e.length];let⟨@w,a,c⟩:=bE.mp d;let⟨@u,f,g⟩:=e.get c;exact⟨u,by rw[a];exact f,g⟩
def EX(C:a.A.units+20<b9):iq a (λf l h A=>∃U_ Vi v,e8 h U_ f/\e8 h Vi l/\a4 U_ Vi=Z v/\∀u P UA,c1 h P->cE P v u UA->UA.Nodup->(∀g∈UA,h g=Y)->A u P):=by
 refine (IZ.or<|EH.or<|I9 C).imp λf l h A D=>?_;let⟨U_,Vi,@v,w,x,d,p⟩:=D;unfold a4 at d;split at d
 ·let⟨@s,e,j⟩:=cx.mp d;cases j;let⟨o,@y,rfl,t,z⟩:=w.i;let⟨@u,n,r⟩:=wi z e;exact .inr (.inl ⟨o,y,_,u,rfl,x.i,cp.of t,n,b7.i p r⟩)
 ·let⟨@s,e,j⟩:=cx.mp d;cases j;let⟨W,o,@y,rfl,t,z,W⟩:=w;let⟨@u,n,r⟩:=wi z e;exact .inl ⟨o,y,_,u,rfl,x.i,dm.of t,n,b7.i p r⟩
 ·let⟨@s,e,j⟩:=cx.mp d;cases j;let⟨W,o,y,@m,rfl,t,z,W⟩:=w;let⟨@u,n,r⟩:=wi z e;exact .inl ⟨o,y,_,u,rfl,x.i,.inl<|.inr ⟨m,t⟩,n,b7.i p r⟩
 ·rename_i UK q;split at d
  ·rename_i B;let⟨@s,e,j⟩:=cx.mp d;cases j;let⟨W,o,@U,rfl,t,z,W⟩:=w;let⟨@u,n,r⟩:=(n8 z).1 s e;let⟨c,@y,rfl,U3,U9⟩:=x.i;exact .inr (.inr ⟨o,u,rfl,by rw[<-n];exact hg.t t ⟨B,c,y,rfl,U3,U9⟩,b7.i p r⟩)
  ·cases d
 ·rename_i UK b;let⟨@s,e,j⟩:=cx.mp d;cases j;let⟨W,o,@U,rfl,t,z,W⟩:=w;let⟨@u,n,r⟩:=(n8 z).1 s e;refine .inr (.inr ⟨o,u,rfl,?_,b7.i p r⟩);rw[show l=cM (.inl b) from x.i,<-n];exact hg.k t
 ·rename_i UK b;let⟨@s,e,j⟩:=cx.mp d;cases j;let⟨W,o,@U,rfl,t,z,W⟩:=w;let⟨@u,n,r⟩:=(n8 z).1 s e;refine .inr (.inr ⟨o,u,rfl,?_,b7.i p r⟩);rw[show l=cM (.inr b) from x.i,<-n];exact hg.k t
 ·rename_i UK q;split at d
  ·rename_i B;let⟨@s,e,j⟩:=cx.mp d;cases j;let⟨W,o,U,@Vt,rfl,t,z,W⟩:=w;let⟨@u,n,r⟩:=(n8 z).1 s e;let⟨c,@y,rfl,U3,U9⟩:=x.i;exact .inr (.inr ⟨o,u,rfl,.inr ⟨U,q,c,.inr ⟨Vt,t⟩,rfl,⟨B,c,y,rfl,U3,U9⟩,n.symm⟩,b7.i p r⟩)
  ·cases d
 ·cases d
end
end L2
namespace dw
open Spec PyProof.Rows
section
variable{UG:bC}{C:bg}{O:bB}{Uv:af->ao->Prop}{j:ao}
def QQ{I aY:ae}{UI:Array af}{cB i:af}{D Uw:Option Int}{A:af->ao->Prop}(o:nW j.heap I UI)(UH:j.heap.IsSliceOf aY cB i .none)(bF:kP cB D)(a:kP i Uw)(Vx:cw UI.size 0 D=0)(t:cw UI.size UI.size Uw=UI.size)(p:A (.ref I) j):wpAny (aS UG C) O (nj (.ref I)<|.ref aY) A Uv j:=by
 let⟨@UN,b,c,hd⟩:=id UH;have ty:j.TypeIs (.ref aY) "slice" := ⟨UN,b,c⟩;unfold nj;try with_reducible refine iR ?_
 first|refine aB (a_ ?_)|skip
 refine aB (De o.typeIs ∅ ?_);refine aB (kr (name:=aF.ofString "__getitem__") o.typeIs qv<|iS qv o.typeIs Co ?_<|C3 _ _);show wpAny _ _ (bw.Tuple.tupleItemsOf (.ref I) >>= _) _ _ j;refine aB (HS o ?_);refine aB (r3 ty ?_);rw[aJ ∅];refine aB (HP UH bF a ?_);rw[Vx,t];show wpAny _ _ (if (((0:Nat):Int)==0&&(1:Int)==1&&(UI.size-0)==UI.size)=aa then _ else _) _ _ j;rw[aJ ↥0];refine aB (m:=bw.Tuple.tupleIsExact _) (aB<|r3 o.typeIs<|a_ ?_);show wpAny _ _ (if (af.type "tuple" == af.type "tuple")=aa then _ else _) _ _ j;rw[aJ ∅];exact aB (iA<|a_ ⟨_,rfl,a_ p⟩)
end
end dw
namespace L2
open Spec PyProof.Rows
section
variable{a:aK}
@[simp] def kV(J:aE ak):aE ak:=λk=>(J k).bind λo=>match o.1 with
 |.im (.int b)=>Z (.im<|.int<|-b,o.2)
 |_=>Y
variable{J:aE ak}{UM:Pos}
def vO{g:bj}(e:cv a g J):cv a (.UnaryOp .USub g UM) (kV J):=by
 refine en (RF P5 e) λx h A c=>?_;let⟨k,N,r,@UO,X,ai,d,p⟩:=c;let⟨@⟨f,UE⟩,t,z⟩:=bE.mp d;refine⟨k,N,f,UE,X,ai,t,λu UD UQ UA i j l=>?_⟩;dsimp only at z;split at z
 ·rename_i b;cases z;exact⟨b,j.1,p _ UD UQ [] i ⟨rfl,rfl⟩ (by rw[b_];exact l.both)⟩
 ·cases z
def NT(J:aE (Option Int)):bO:=(λx h A=>∃k N M UO,bA h k x N/\N.Nodup/\J k=Z (M,UO)/\∀P U8,bA P UO x U8->bk h N P U8->A M P)
def tn(a:aK)(d:Option bj)(J:aE (Option Int)):Prop:=(∀ ⦃o⦄,Ck a d (NT J) o)
def F9{d:Option bj}{I Va:bO}(e:qE a d I)(b:∀x h A,Va x h A->I x h A):qE a d Va:=λG j x h A c f=>e G j x h A c (b x h A f)
def gX:aE (Option Int):=(λk=>Z (Y,k))
@[simp] def ht(J:aE ak):aE (Option Int):=λk=>(J k).bind λo=>match o.1 with
 |.im (.int b)=>Z (Z b,o.2)
 |_=>Y
def k_:tn a Y gX:=by
 refine F9 MG λx h A b=>?_;let⟨k,N,r,@UO,X,ai,c,p⟩:=b;cases c;exact p h N X (bk.perm ai<|List.Perm.refl _)
variable{d:bj}
def k3(e:cv a d J):tn a (Z d) (ht J):=by
 refine F9 (PM e) λx h A c=>?_;let⟨k,N,r,@UO,X,ai,g,p⟩:=c;let⟨@⟨f,UE⟩,t,z⟩:=bE.mp g;refine⟨k,N,f,UE,X,ai,t,λu UD UQ UA i j l=>?_⟩;dsimp only at z;split at z
 ·rename_i b;cases z;exact⟨b,j.1,p UD UQ i l.both⟩
 ·cases z
def fy{U1:Type}(y:List U1)(D Uw:Option Int):List U1:=((y.drop<|dw.cw y.length 0 D).take (dw.cw y.length y.length Uw-dw.cw y.length 0 D))
variable{h:az}
theorem bP.drop:∀{B:List ab}{y:List av} (s:Nat),bP h B y->bP h (B.drop s) (y.drop s)
 |B,y,0,e=>e
 |[],y,s+1,e=>by cases (show y=[] from e);exact rfl
 |v::B,y,s+1,e=>by
  let⟨u,@r,rfl,t,z⟩:=e;exact z.drop s
theorem bP.take:∀{B:List ab}{y:List av} (s:Nat),bP h B y->bP h (B.take s) (y.take s)
 |B,y,0,e=>rfl
 |[],y,s+1,e=>by cases (show y=[] from e);exact rfl
 |v::B,y,s+1,e=>by
  let⟨u,@r,rfl,t,z⟩:=e;exact⟨u,_,rfl,t,z.take s⟩
def bP.cut{B:List ab}{y:List av}(D Uw:Option Int)(e:bP h B y):bP h (fy B D Uw) (mX y D Uw):=by
 unfold fy mX;rw[e.length];exact (e.drop _).take _
@[simp] def i_(v:ak)(D Uw:Option Int):Option ak:=match v with
 |.im (.tup B)=>Z (.im<|.tup<|fy B D Uw)
 |.lst B=>Z (.lst<|fy B D Uw)
 |.cF B=>Z (.lst<|fy B D Uw)
 |_=>Y
def S9(Q:Φ):av->Option Int->Option Int->az->cJ->Prop:=(λf D Uw h A=>∃g y,f=.ref g/\cp Q h g y/\dw.cw y.length 0 D=0/\dw.cw y.length y.length Uw=y.length/\A (.ref g) h)
def Qy:rD a (λf D Uw h A=>∃v r,e8 h v f/\i_ v D Uw=Z r/\b7 h r A):=by
 have all:rD a (S9 a.K):=by
  intro G j x h f u cB i D Uw aY A c k UH bF n e;let⟨g,@y,rfl,H,Vx,t,p⟩:=e;cases k;let⟨@UI,r,E,L⟩:=c.tuple H;have F:UI.toArray.size=y.length:=by rw[cX];exact r.length.symm
  exact⟨"tuple",_,qv.lookup,E.typeIs,dw.QQ E UH bF n (by rw[F];exact Vx) (by rw[F];exact t) ⟨.ref g,h,c,rfl,p⟩⟩
 intro G j x h f u cB i D Uw aY A c k UH bF n J;let⟨v,@r,C,d,p⟩:=J;unfold i_ at d;split at d
 ·rename_i B;cases d;let⟨o,@y,rfl,t,z⟩:=C.i;by_cases q:dw.cw y.length 0 D=0/\dw.cw y.length y.length Uw=y.length
  ·refine all G j x h _ u cB i D Uw aY A c k UH bF n ⟨o,y,rfl,cp.of t,q.1,q.2,b7.i p ⟨o,y,rfl,t,?_⟩⟩;have:fy B D Uw=B:=by
    unfold fy;rw[z.length,q.1,q.2,lY,x6,<-z.length,p9]
   rw[this];exact z
  ·exact Kh G j x h _ u cB i D Uw aY A c k UH bF n ⟨o,y,rfl,cp.of t,q,λs w=>b7.t p w<|z.cut D Uw⟩
 ·cases d;let⟨W,o,@y,rfl,t,z,W⟩:=C;exact HC G j x h _ u cB i D Uw aY A c k UH bF n ⟨o,y,rfl,dm.of t,λs w=>b7.l p w<|z.cut D Uw⟩
 ·cases d;let⟨W,o,y,@m,rfl,t,z,W⟩:=C;exact HC G j x h _ u cB i D Uw aY A c k UH bF n ⟨o,y,rfl,.inl<|.inr ⟨m,t⟩,λs w=>b7.l p w<|z.cut D Uw⟩
 ·cases d
@[simp] def gj(J:aE bN)(M e:aE (Option Int)):aE ak:=λk=>(J k).bind λo=>(M o.2).bind λp=>(e p.2).bind λr=>(dn r.2 o.1).bind λv=>(i_ v p.1 r.1).map λa=>(a,r.2)
def kJ{D Uw:Option bj}{J:aE bN}{l n:aE (Option Int)}{Vj:Pos}(q:dH a d J)(s:tn a D l)(w:tn a Uw n):cv a (.Subscript d (.Slice D Uw Y Vj) UM) (gj J l n):=by
 refine en (Tw Qy q s w) λx h A y=>?_;let⟨k,N,r,@UO,X,ai,B,p⟩:=y;let⟨@⟨f,UE⟩,t,z⟩:=bE.mp B;let⟨@⟨M,Vd⟩,E,G⟩:=bE.mp z;let⟨@⟨H,F⟩,I,L⟩:=bE.mp G;let⟨@v,O,P⟩:=bE.mp L;let⟨@bm,Q,R⟩:=cx.mp P;cases R;refine⟨k,N,f,UE,X,ai,t,λu UD UQ UA S U0 b=>⟨UE,UQ,M,Vd,S,(dz.mp b.ai).1,E,λUT U6 T o=>⟨Vd,U6,H,F,T,o.ai,I,λU al c am=>?_⟩⟩⟩;have i:=o.seq am;have an:iV U x f u UA:=U0.mono i.tup λg ap m d=>i.keep g m d λe=>(dz.mp b.ai).2.2 g e g ap rfl;have as:=b.trans i U0.chg;exact⟨v,_,an.read c O,Q,λC a1 a2 j bd be bi=>p C a1 al a2 (c.mono j.tupS λg W m d=>j g m d) bd<|as.new j be bi c.chg⟩
abbrev hN:=List ak->Option ak
@[simp] def eo:hN:=λB=>match B with
 |[.im (.tup f)]=>Z (.im<|.int f.length)
 |[.lst f]=>Z (.im<|.int f.length)
 |[.cF f]=>Z (.im<|.int f.length)
 |[.hM f]=>Z (.im<|.int f.length)
 |[.dJ f]=>Z (.im<|.int f.length)
 |[.im (.str f)]=>if f.length<=100000 then Z (.im<|.int f.length) else Y
 |_=>Y
variable{S:List av}
def gw{v:ak}(e:mS h [v] S):∃u,S=[u]/\e8 h v u:=by
 let⟨u,@r,rfl,t,z⟩:=e;cases (show r=[] from z);exact⟨u,rfl,t⟩
def Dn{v d:ak}(e:mS h [v,d] S):∃u H,S=[u,H]/\e8 h v u/\e8 h d H:=by
 let⟨u,@r,rfl,t,z⟩:=e;let⟨@H,rfl,a⟩:=gw z;exact⟨u,H,rfl,t,a⟩
def e1.length{UX:Type}{M:List (UX×ab)}{E:List (UX×av)}(e:e1 h M E):M.length=E.length:=er.length e
def h8:hn a (.builtin "len") eo:=by
 refine (Sf.or<|R8.or RP).imp λy h A f=>?_;let⟨B,@v,c,d,p⟩:=f;unfold eo at d;split at d
 ·cases d;let⟨@u,rfl,e⟩:=gw c;let⟨o,@y,rfl,t,z⟩:=e.i;exact .inl ⟨o,y,rfl,.inr<|cp.of t,by rw[<-z.length];exact b7.i p rfl⟩
 ·cases d;let⟨@u,rfl,⟨W,o,@y,rfl,t,z,W⟩⟩:=gw c;exact .inl ⟨o,y,rfl,.inl<|dm.of t,by rw[<-z.length];exact b7.i p rfl⟩
 ·cases d;let⟨@u,rfl,⟨W,o,y,@m,rfl,t,z,W⟩⟩:=gw c;exact .inl ⟨o,y,rfl,.inl<|.inl<|.inr ⟨m,t⟩,by rw[<-z.length];exact b7.i p rfl⟩
 ·cases d;let⟨@u,rfl,⟨W,o,y,@R,rfl,t,z,W⟩⟩:=gw c;exact .inl ⟨o,y,rfl,.inl<|dm.of t,by rw[<-z.length];exact b7.i p rfl⟩
 ·cases d;let⟨@u,rfl,⟨W,o,@U,rfl,t,z,W⟩⟩:=gw c;exact .inr (.inr ⟨o,U,rfl,t,by rw[<-z.length];exact b7.i p rfl⟩)
 ·split at d
  ·rename_i g;cases d;let⟨@u,rfl,e⟩:=gw c;cases (show u=_ from e.i);exact .inr (.inl ⟨_,rfl,mQ g,b7.i p rfl⟩)
  ·cases d
 ·cases d
@[simp] def jv:hN:=λB=>match B with
 |[v]=>(gq v).map λf=>.im (.tup f)
 |_=>Y
@[simp] def r9:hN:=λB=>match B with
 |[v]=>(gq v).map .lst
 |_=>Y
def n6:hn a (.type "tuple") jv:=by
 refine Rg.imp λy h A j=>?_;let⟨B,@v,k,d,p⟩:=j;unfold jv at d;split at d
 ·let⟨@f,c,l⟩:=cx.mp d;cases l;let⟨@u,rfl,e⟩:=gw k;unfold gq at c;split at c
  ·cases c;let⟨o,@y,rfl,t,z⟩:=e.i;exact⟨o,y,rfl,.inr ⟨cp.of t,b7.i p ⟨o,y,rfl,t,z⟩⟩⟩
  ·cases c;let⟨W,o,@y,rfl,t,z,W⟩:=e;exact⟨o,y,rfl,.inl ⟨dm.of t,λM g=>b7.t p g z⟩⟩
  ·cases c;let⟨W,o,y,@m,rfl,t,z,W⟩:=e;exact⟨o,y,rfl,.inl ⟨.inl<|.inr ⟨m,t⟩,λM g=>b7.t p g z⟩⟩
  ·cases c
 ·cases d
def C6:hn a (.type "list") r9:=by
 refine Qb.imp λy h A j=>?_;let⟨B,@v,k,d,p⟩:=j;unfold r9 at d;split at d
 ·let⟨@f,c,n⟩:=cx.mp d;cases n;let⟨@u,rfl,e⟩:=gw k;unfold gq at c;split at c
  ·cases c;let⟨o,@y,rfl,t,z⟩:=e.i;exact⟨o,y,rfl,.inr<|cp.of t,λM g=>b7.l p g z⟩
  ·cases c;let⟨W,o,@y,rfl,t,z,W⟩:=e;exact⟨o,y,rfl,.inl<|dm.of t,λM g=>b7.l p g z⟩
  ·cases c;let⟨W,o,y,@m,rfl,t,z,W⟩:=e;exact⟨o,y,rfl,.inl<|.inl<|.inr ⟨m,t⟩,λM g=>b7.l p g z⟩
  ·cases c
 ·cases d
@[simp] def vInt:hN:=λB=>match B with
 |[.im (.int b)]=>Z (.im<|.int b)
 |[.im (.aC c)]=>Z (.im<|.int<|if c then 1 else 0)
 |_=>Y
def Sn:hn a (.type "int") vInt:=by
 refine Nf.imp λy h A f=>?_;let⟨B,@v,c,d,p⟩:=f;unfold vInt at d;split at d
 ·cases d;let⟨@u,rfl,e⟩:=gw c;cases (show u=_ from e.i);exact .inl ⟨_,rfl,b7.i p rfl⟩
 ·cases d;let⟨@u,rfl,e⟩:=gw c;cases (show u=_ from e.i);exact .inr ⟨_,rfl,b7.i p rfl⟩
 ·cases d
@[simp] def rV:hN:=λB=>match B with
 |[.im (.int b),.im<|.int w]=>Z (.im<|.int<|if w>b then w else b)
 |_=>Y
@[simp] def sQ:hN:=λB=>match B with
 |[.im (.int b),.im<|.int w]=>Z (.im<|.int<|if w<b then w else b)
 |_=>Y
def D2(c:a.calm=aa):hn a (.builtin "max") rV:=by
 refine (NS c).imp λy h A f=>?_;let⟨B,@v,g,d,p⟩:=f;unfold rV at d;split at d
 ·cases d;let⟨u,@H,rfl,e,q⟩:=Dn g;cases (show u=_ from e.i);cases (show H=_ from q.i);exact⟨_,_,rfl,b7.i p rfl⟩
 ·cases d
def Av(c:a.calm=aa):hn a (.builtin "min") sQ:=by
 refine (R7 c).imp λy h A f=>?_;let⟨B,@v,g,d,p⟩:=f;unfold sQ at d;split at d
 ·cases d;let⟨u,@H,rfl,e,q⟩:=Dn g;cases (show u=_ from e.i);cases (show H=_ from q.i);exact⟨_,_,rfl,b7.i p rfl⟩
 ·cases d
@[simp] def oy:List ab->Option (List Bool)
 |[]=>Z []
 |.aC c::B=>(oy B).map λr=>c::r
 |_::_=>Y
theorem Dp{h:az}:∀{B:List ab}{y:List av}{D:List Bool},bP h B y->oy B=Z D->y=D.map av.aC
 |[],y,D,e,d=>by cases d;exact e
 |.aC c::B,y,D,e,d=>by
  let⟨u,@r,rfl,t,z⟩:=e;rw[oy]at d;let⟨@o,a,b⟩:=cx.mp d;cases b;cases (show u=.aC c from t);rw[Dp z a];rfl
 |.a6::_,_,_,_,d=>by cases d
 |.int _::_,_,_,_,d=>by cases d
 |.str _::_,_,_,_,d=>by cases d
 |.tup _::_,_,_,_,d=>by cases d
 |.fn _::_,_,_,_,d=>by cases d
 |.aU _::_,_,_,_,d=>by cases d
 |.fd::_,_,_,_,d=>by cases d
@[simp] def hZ:hN:=λB=>match B with
 |[.lst f]=>(oy f).map λD=>.im (.aC<|D.all id)
 |_=>Y
def mE(c:a.calm=aa):hn a (.builtin "all") hZ:=by
 refine (Mk c).imp λy h A e=>?_;let⟨B,@v,g,d,p⟩:=e;unfold hZ at d;split at d
 ·let⟨@f,j,k⟩:=cx.mp d;cases k;let⟨@u,rfl,⟨W,o,@y,rfl,t,z,W⟩⟩:=gw g;rw[Dp z j]at t;exact⟨o,f,rfl,t,b7.i p rfl⟩
 ·cases d
end
section
variable{a:aK}
def yd:ak->Option Nat
 |.im (.int _)=>Z 0
 |.im (.aC _)=>Z 1
 |.im (.str _)=>Z 2
 |.im (.tup _)=>Z 3
 |.im .a6=>Z 4
 |.lst _=>Z 4
 |.im (.aU _)=>Z 4
 |.im .fd=>Z 4
 |.aQ _=>Z 4
 |.dJ _=>Z 4
 |_=>Y
@[simp] def yn(F:String)(v:ak):Option Bool:=
 (yd v).bind λq=>if F = "int" then Z (q==0 || q==1) else if F = "bool" then Z (q==1) else if F = "str" then Z (q==2) else if F = "tuple" then Z (q==3) else Y
variable{F:String}{c:Bool}
def LV{v:ak}(e:yn F v=Z c):∃q,yd v=Z q/\((F = "int" /\ c=(q==0 || q==1))\/(F = "bool" /\ c=(q==1))\/(F = "str" /\ c=(q==2))\/(F = "tuple" /\ c=(q==3))):=by
 let⟨@q,d,e⟩:=bE.mp e;refine⟨q,d,?_⟩;by_cases t:F = "int"
 ·rw[aJ t]at e;cases e;exact .inl ⟨t,rfl⟩
 rw[aO t]at e;by_cases z:F = "bool"
 ·rw[aJ z]at e;cases e;exact .inr (.inl ⟨z,rfl⟩)
 rw[aO z]at e;by_cases a:F = "str"
 ·rw[aJ a]at e;cases e;exact .inr (.inr<|.inl ⟨a,rfl⟩)
 rw[aO a]at e;by_cases b:F = "tuple"
 ·rw[aJ b]at e;cases e;exact .inr (.inr<|.inr ⟨b,rfl⟩)
 rw[aO b]at e;cases e
def oa{O UY aH k UB:Prop}(e:O\/UY\/aH\/k)(g:O->UB)(c:UY->UB)(n:aH->UB)(v:k->UB):UB:=e.elim g λe=>e.elim c λe=>e.elim n v
variable{G:List (ae×a7)}{h:az}{j:ao}
def EY{x:a5}(b:aG a G x h j){g:ae}(e:(∃q,h g=Z (.aQ q))\/∃q,h g=Z (.dJ q)):∃m,j.heap.get? g=Z m/\m.cls=.type "dict" := by
 rcases e with ⟨q,e⟩|⟨q,e⟩
 ·let@⟨_,_,⟨@y,_,⟨m,T,@Vu,t,z,_⟩⟩⟩:=(show ff a.prog a.w h j.heap g (.aQ q) from b.aT g _ e);exact⟨m,t,z.1⟩
 ·let@⟨_,_,⟨@S,_,⟨m,T,@Vu,t,z,_⟩⟩⟩:=(show ff a.prog a.w h j.heap g (.dJ q) from b.aT g _ e);exact⟨m,t,z.1⟩
def Sw{x:a5}(b:aG a G x h j){g:ae}{o:a7}(e:h g=Z (.dx o<|.aQ [])):∃m,j.heap.get? g=Z m/\m.cls=.type "dict" := by
 let@⟨_,_,_,⟨@y,_,⟨m,T,@Vu,t,z,_⟩⟩⟩:=(show ff a.prog a.w h j.heap g (.dx o<|.aQ []) from b.aT g _ e);exact⟨m,t,z.1⟩
def IQ:eY a (.builtin "isinstance") (λy h A=>∃f F v c,y=[f,.ty F]/\e8 h v f/\yn F v=Z c/\A (.aC c) h):=by
 intro G j x h y UR A u r e;let⟨f,F,v,@c,rfl,l,Uw,p⟩:=e;have N:=r;cases r with
 |cons r H=>
  cases H with
  |cons Vs H=>
   cases H;cases Vs;have n:∀{c:Bool},A (.aC c) h->eN a G x A (.bool c) {j with toks:=j.toks+1}:=λ{c} p=>⟨.aC c,h,u.tok _,rfl,p⟩;let⟨@q,k,s⟩:=LV Uw;have o:c=aq->A (.aC aq) h:=λd=>d ▸ p;have I:∀{g:ae},q=4->(∃m,j.heap.get? g=Z m/\m.cls=.type "dict")->wpAny (aS a.prog a.w) a.A (call (.builtin "isinstance") [.ref g,.type F]) (eN a G x A) a.cL j:=by
    rintro g rfl ⟨m,D,E⟩;refine oa s (λ⟨d,L⟩=>d ▸ IsiPair.dict_int D E (n<|o L)) (λ⟨d,L⟩=>d ▸ IsiPair.dict_bool D E (n<|o L)) (λ⟨d,L⟩=>d ▸ IsiPair.dict_str D E (n<|o L)) λJ=>?_;let@⟨d,L⟩:=J;exact d ▸ IsiPair.dict_tuple D E (n<|o L)
   have B:CN a.K h f F c->wpAny (aS a.prog a.w) a.A (call (.builtin "isinstance") [_,.type F]) (eN a G x A) a.cL j:=λP=>Og G j x h _ _ A u N ⟨f,F,c,rfl,P,p⟩;have M:∀{g:ae}{y:List av},q=4->f=.ref g->dm a.K h g y->wpAny (aS a.prog a.w) a.A (call (.builtin "isinstance") [_,.type F]) (eN a G x A) a.cL j:=λ{g y} k d i=>by
    subst k;exact B (.inr<|.inr<|.inr<|.inr ⟨g,y,d,i,oa s (λe=>.inr<|.inl e) (λe=>.inr<|.inr<|.inr<|.inl e) (λe=>.inr<|.inr<|.inl e) λe=>.inr<|.inr<|.inr<|.inr e⟩)
   unfold yd at k;split at k
   ·cases k;exact B (.inl ⟨_,l.i,oa s .inl (λe=>.inr<|.inr<|.inr<|.inl e) (λe=>.inr<|.inr<|.inl e) λe=>.inr<|.inl e⟩)
   ·cases k;exact B (.inr<|.inl ⟨_,l.i,oa s (λe=>.inr<|.inl e) .inl (λe=>.inr<|.inr<|.inr<|.inl e) λe=>.inr<|.inr<|.inl e⟩)
   ·cases k;exact B (.inr<|.inr<|.inl ⟨_,l.i,oa s (λe=>.inr<|.inl e) (λe=>.inr<|.inr<|.inr<|.inl e) .inl λe=>.inr<|.inr<|.inl e⟩)
   ·cases k;let⟨g,@y,d,t,z⟩:=l.i;exact B (.inr<|.inr<|.inr<|.inl ⟨g,y,d,cp.of t,oa s (λe=>.inr<|.inl e) (λe=>.inr<|.inr<|.inr<|.inl e) (λe=>.inr<|.inr<|.inl e) .inl⟩)
   ·cases k;cases (show f=.a6 from l.i);cases r;refine oa s (λ⟨d,L⟩=>d ▸ IsiPair.NoneType_int (n<|o L)) (λ⟨d,L⟩=>d ▸ IsiPair.NoneType_bool (n<|o L)) (λ⟨d,L⟩=>d ▸ IsiPair.NoneType_str (n<|o L)) λJ=>?_;let@⟨d,L⟩:=J;exact d ▸ IsiPair.NoneType_tuple (n<|o L)
   ·cases k;let⟨W,g,@y,d,t,z,W⟩:=l;exact M rfl d (dm.of t)
   ·cases k;let⟨g,y,@m,d,t,z⟩:=l.i;exact M rfl d (.inl<|.inr ⟨m,t⟩)
   ·cases k;let⟨g,@m,rfl,t⟩:=l.i;cases r;exact I rfl (Sw u t)
   ·cases k;let⟨W,g,@y,rfl,t,z,W⟩:=l;cases r;exact I rfl (EY u<|.inl ⟨_,t⟩)
   ·cases k;let⟨W,g,@y,rfl,t,z,W⟩:=l;cases r;exact I rfl (EY u<|.inr ⟨_,t⟩)
   ·cases k
@[simp] def mT(F:String)(J:aE bN):aE ak:=λk=>(J k).bind λo=>(dn o.2 o.1).bind λv=>(yn F v).map λc=>(.im<|.aC c,o.2)
variable{f:aF}{d:bj}{J:aE bN}{UM:Pos}
def n4{o Vj:Pos}(i:ey a "isinstance")(j:a.ay "isinstance" = Y)(l:fw "isinstance" = Z (.builtin "isinstance"))(n:ey a f)(q:a.ay f=Y)(s:fw f=Z (.type F))(e:dH a d J)(w:f ≠ "__name__" := by decide)(hd:(f==("__debug__" : aF))=aq:=by decide)(b:bK [d,.Name f Vj] a.env=(aq,b6 d a.env)::bK [.Name f Vj] a.env:=by rfl)(y:bK [.Name f Vj] a.env=(aq,b6 (.Name f Vj) a.env)::bK [] a.env:=by rfl)(B:(fG UM<|bK [.Name f Vj] a.env).any (·.1)=aq:=by rfl):cv a (.Call (.Name "isinstance" o) [d,.Name f Vj] [] UM) (mT F J):=by
 refine en (ES IQ i j l (so e (so (JR (u:=.ty F) n q s rfl w hd) xv y) b) ∅ ∅ b B) λx h A C=>?_;let⟨k,N,r,@UO,X,ai,D,p⟩:=C;let⟨@⟨m,UE⟩,t,z⟩:=bE.mp D;let⟨@v,E,G⟩:=bE.mp z;let⟨@c,H,I⟩:=cx.mp G;cases I;exact⟨k,N,m,UE,X,ai,t,λu UD UQ UA g U0 L=>⟨u,F,v,c,rfl,U0.read g E,H,p _ UD UQ [] g ⟨rfl,rfl⟩ (by rw[b_];exact L.both)⟩⟩
@[simp] def qb:ak->Option Bool
 |.im .a6=>Z aq
 |.im (.aC c)=>Z c
 |.im (.int b)=>Z (b != 0)
 |.im (.str f)=>if f.length<=100000 then Z ((f.length:Int) != 0) else Y
 |.im (.tup B)=>Z (!B.isEmpty)
 |.lst B=>Z (!B.isEmpty)
 |.cF B=>Z (!B.isEmpty)
 |.dJ UK=>Z (!UK.isEmpty)
 |_=>Y
def bP.emp{B:List ab}{y:List av}(e:bP h B y):(!y.isEmpty)=!B.isEmpty:=by
 cases B with
 |nil=>cases (show y=[] from e);rfl
 |cons v B=>let⟨u,@r,rfl,W⟩:=e;rfl
def L5{v:ak}{u:av}(e:e8 h v u)(d:qb v=Z c):Aa a.K u h c:=by
 unfold qb at d;split at d
 ·cases d;cases (show u=_ from e.i);rfl
 ·cases d;cases (show u=_ from e.i);rfl
 ·cases d;cases (show u=_ from e.i);rfl
 ·split at d
  ·rename_i f;cases d;cases (show u=_ from e.i);exact⟨mQ f,rfl⟩
  ·cases d
 ·cases d;let⟨o,@y,rfl,t,z⟩:=e.i;exact .inr (.inl ⟨y,cp.of t,z.emp.symm⟩)
 ·cases d;let⟨W,o,@y,rfl,t,z,W⟩:=e;exact .inl ⟨y,dm.of t,z.emp.symm⟩
 ·cases d;let⟨W,o,y,@m,rfl,t,z,W⟩:=e;exact .inl ⟨y,.inl<|.inr ⟨m,t⟩,z.emp.symm⟩
 ·cases d;let⟨W,o,@U,rfl,t,z,W⟩:=e;refine .inr (.inr ⟨U,t,?_⟩);cases z<;>rfl
 ·cases d
@[simp] def f5(J:aE bN):aE Bool:=λk=>(J k).bind λo=>(dn o.2 o.1).bind λv=>(qb v).map λc=>(c,o.2)
def jq(e:dH a d J)(g:∀b,o8 d a.env b=(do let u <-b;standAt d.pos;holding [u] (truthy u)):=by intro W;rfl):hP a d (f5 J):=by
 refine tM (ML e g) λx h A i=>?_;let⟨k,N,c,@UO,X,ai,j,p⟩:=i;let⟨@⟨m,UE⟩,t,z⟩:=bE.mp j;let⟨@v,l,n⟩:=bE.mp z;let⟨@s,o,q⟩:=cx.mp n;cases q;exact⟨k,N,m,UE,X,ai,t,λu UD UQ UA f U0 r=>⟨_,L5 (U0.read f l) o,p UD UQ f r.both⟩⟩
def kf{b:Int}{I:ib}(c:ey a f)(d:a.ay f=Z (.int b I))(hd:(f==("__debug__" : aF))=aq:=by decide):cv a (.Name f UM) (au<|.int b):=uY (wx (u:=.int b) c d ⟨I,rfl⟩ hd) λ_=>rfl
def w_{L:ae}(b:ey a f)(c:a.ay f=Z (.ref L))(hd:(f==("__debug__" : aF))=aq:=by decide):cv a (.Name f UM) (au<|.fn L):=uY (wx (u:=.ref L) b c rfl hd) λ_=>rfl
end
variable{VR M:Pos}{m:bj}{id F:String}{name:aF}{J:aE (List bN)}{b:Nat}{ty:ak->Bool}{Q:Φ}{Vb:gi}{g:ae}{h:az}
def bk.chg{N UQ:List ae}(b:g∈N)(n:fS h g)(ai:UQ.Nodup)(b8:∀f∈UQ,f∈N):bk h N (upd h g Vb) UQ:=by
 let⟨@m,d,c,e⟩:=n;refine⟨λf H Vl a=>?_,λf a=>.inl<|b8 f a,ai,eL.of (λf y Vl=>?_)<|λf o H Vl=>?_,λf H Vl=>?_⟩
 ·rw[cW (λi=>a (by rw[i];exact b))];exact Vl
 ·rw[cW]
  ·exact Vl
  ·rintro rfl;rw[d]at Vl;exact c y (Option.some.inj Vl)
 ·rw[cW]
  ·exact Vl
  ·rintro rfl;rw[d]at Vl;exact e o H (Option.some.inj Vl)
 ·by_cases a:f=g
  ·subst a;exact⟨Vb,eS⟩
  ·exact⟨H,(cW a).trans Vl⟩
theorem cO.lP(n:fS h g):oX h (upd h g Vb):=(bk.chg (N:=[g]) (UQ:=[]) (.head _) n my<|λf a=>nomatch a).tup.tup
def pE(a:aK)(id:String)(bD:ak->List ak->Option (ak×ak)):Prop:=(
 zl a id λf S h A=>∃n B r b UA UW,cE h n f UA/\eh h B S UW/\(UA++UW).Nodup/\bD n B=Z (r,b)/\∀u P c b3,cE P r u c->cE P b f b3->bk h (UA++UW) P (c++b3)->A u P)
@[simp] def iP:ak->Bool
 |.lst _=>aa
 |.hM _=>aa
 |_=>aq
@[simp] def gu(ty:ak->Bool)(b:Nat)(bD:ak->List ak->Option (ak×ak))(J:aE (List bN)):aE ak:=λk=>match k[b]? with
 |some (Z a)=>if ty a=aa then (J k).bind λo=>(ec o.1 o.2).bind λp=>match p.2[b]? with
   |some (Z n)=>(bD n p.1).map λr=>(r.1,p.2.set b<|Z r.2)
   |_=>Y
  else Y
 |_=>Y
def Cg{bD:ak->List ak->Option (ak×ak)}{x:a5}{A:cJ}(E:∀h n f UA,cE h n f UA->ty n=aa->nu Q F f h)(e:ni (gu ty b bD J) x h A):∃f,x[b]?=Z (Z f)/\nu Q F f h/\gz J x h λS UT=>∃n B r c UA UW,cE UT n f UA/\eh UT B S UW/\(UA++UW).Nodup/\bD n B=Z (r,c)/\∀u P j b3,cE P r u j->cE P c f b3->bk UT (UA++UW) P (j++b3)->A u P:=by
 let⟨k,N,r,@UO,X,ai,a,p⟩:=e;unfold gu at a;split at a
 ·rename_i G H;split at a
  ·rename_i I;let⟨f,be,@bi,l,iN,W,W⟩:=X.out H;refine⟨f,l,E h G f _ iN I,?_⟩;let⟨@⟨UN,UE⟩,t,z⟩:=bE.mp a;let⟨@⟨B,Vd⟩,L,i⟩:=bE.mp z;refine⟨k,N,UN,UE,X,ai,t,λS UD UQ j M U0 T=>?_⟩;let⟨U6,@UW,U,al,U5⟩:=lN M U0 L;dsimp only at i;split at i
   ·rename_i n am;let⟨@⟨Vs,c⟩,an,ap⟩:=cx.mp i;cases ap;let⟨bm,UA,@q,s,dC,v,as⟩:=U.out am;rw[l]at s;cases s;have w:bk h N UD ((UA++UW)++q):=T.jw (U5.symm.trans ((fg UW as.symm).trans (by
     rw[bu];exact dy)))
    have y:=dz.mp w.ai;refine⟨n,B,_,c,UA,UW,dC,al,y.1,an,λu P O UY gB gW o=>?_⟩;have a1:bA P (Vd.set b<|Z .dd) x q:=v.mono o.tup λg a2 m d=>o.keep g m d λe=>y.2.2 g e g a2 rfl;let⟨C,@R,D,bd⟩:=a1.back gW l;rw[wK]at D;refine p u P C O D gB ((w.trans o v.chg).less (aH:=R) ?_);rw[bu];refine (ed C dy).trans ?_;rw[<-bu];refine (fg O bd).trans ?_;rw[bu];refine dy.trans ?_;rw[bu];refine dy.trans ?_;rw[bu,bu];refine (ed O ?_);exact dy
   ·cases i
  ·cases a
 ·cases a
section
variable{a:aK}
def k5:∀(h:az) (n:ak) (f:av) (UA:List ae),cE h n f UA->iP n=aa->nu Q "list" f h:=by
 intro h n f UA e d;cases n with
 |lst B=>let⟨g,@y,rfl,t,W⟩:=e;exact .inl ⟨rfl,y,dm.of t⟩
 |hM B=>let⟨g,y,@R,rfl,t,W⟩:=e;exact .inl ⟨rfl,y,dm.of t⟩
 |_=>cases d
def mx{bD:ak->List ak->Option (ak×ak)}{d:bj}{T:List bj}(c:∀h n f UA,cE h n f UA->ty n=aa->nu a.K F f h)(bQ:tQ F)(g:Slot F name id)(i:p3 (.builtin id)=pure (.type "method_descriptor"))(j:pE a id bD)(k:bU a m (lU b))(l:fm a (d::T) J)(o:vk m name a.env (b6 m a.env)=b6 m a.env:=by rfl)(p:((fG VR<|bK (d::T) a.env).all (λf=>!f.1)&&(backToKw VR<|keywordEach [] a.env).all (λf=>f.1.isSome)
   && decide ((d::T).length+([]:List ru).length+(if ([]:List ru).isEmpty then 0 else 1)<30))=aa:=by rfl)(q:(M.endLine==VR.line)=aa:=by rfl)(UH:bK (d::T) a.env=(aq,b6 d a.env)::bK T a.env:=by rfl)(r:(fG VR<|bK T a.env).any (·.1)=aq:=by rfl):
  cv a (.Call (.Attribute m name M) (d::T) [] VR) (gu ty b bD J):=
 en (Td bQ g i j k l o p q UH r) λx h A e=>by
  let⟨@f,s,t,z⟩:=Cg c e;exact⟨f,s,t,z⟩
def OB{bD:ak->List ak->Option (ak×ak)}(c:∀h n f UA,cE h n f UA->ty n=aa->nu a.K F f h)(bQ:tQ F)(d:Slot F name id)(g:p3 (.builtin id)=pure (.type "method_descriptor"))(i:pE a id bD)(j:bU a m (lU b))(l:vk m name a.env (b6 m a.env)=b6 m a.env:=by rfl)(o:(M.endLine==VR.line)=aa:=by rfl):
  cv a (.Call (.Attribute m name M) [] [] VR) (gu ty b bD aA):=
 en (N_ bQ d g i j l o) λx h A e=>by
  let⟨@f,q,t,z⟩:=Cg c e;refine⟨f,q,t,?_⟩;let⟨k,N,r,@UO,X,ai,s,p⟩:=z;cases s;exact p [] h N [] X ⟨rfl,rfl⟩ (by rw[b_];exact bk.perm ai (List.Perm.refl _))
@[simp] def hW:ak->List ak->Option (ak×ak):=λn B=>match n,B with
 |.lst y,[.im v]=>if y.length<100000 then Z (.im .a6,.lst<|y++[v]) else Y
 |_,_=>Y
def yL{s:Nat}(e:s<100000):s<sizeLine:=fe e ∅
def q4:pE a "list.append" hW:=by
 intro G j x h f S u UR A b c e i;let⟨n,B,r,s,UA,@UW,cZ,k,ai,d,p⟩:=i;unfold hW at d;split at d
 ·split at d
  ·rename_i m;cases d;let⟨g,@UL,rfl,t,z,rfl⟩:=cZ;let⟨l,I,v,@w,rfl,@⟨o,rfl⟩,@⟨rfl,rfl⟩,rfl⟩:=k;have n:fS h g:=⟨_,t,(λ_ d=>by cases d),(λ_ W d=>by cases d)⟩;refine Nj G j x h _ _ u UR A b c e ⟨g,UL,l,rfl,rfl,t,yL (by rw[<-z.length];exact m),p .a6 _ [] [g] ⟨rfl,rfl⟩ ?_ (bk.chg (.head _) n (fJ _ _) λf q=>by simpa using q)⟩;exact⟨g,_,rfl,eS,(z.snoc o).mono<|cO.lP n,rfl⟩
  ·cases d
 ·cases d
@[simp] def z2:ak->List ak->Option (ak×ak):=λn B=>match n,B with
 |.lst y,[]=>(y.getLast?).map λv=>(.im v,.lst y.dropLast)
 |_,_=>Y
def bP.last{B:List ab}{y:List av}{v:ab}(e:bP h B y)(d:B.getLast?=Z v):∃u,y[y.length-1]?=Z u/\cO h v u/\bP h B.dropLast y.dropLast:=by
 rw[El]at d;let⟨@u,a,b⟩:=e.get d;refine⟨u,by rw[<-e.length];exact a,b,?_⟩;rw[It,It,<-e.length];exact e.take _
def O2:pE a "list.pop" z2:=by
 intro G j x h f S u UR A b c e i;let⟨n,B,r,C,UA,@UW,cZ,k,ai,d,p⟩:=i;unfold z2 at d;split at d
 ·let⟨@v,m,o⟩:=cx.mp d;cases o;let⟨g,@UL,rfl,t,z,rfl⟩:=cZ;let@⟨rfl,rfl⟩:=k;let⟨@l,q,s,w⟩:=z.last m;have n:fS h g:=⟨_,t,(λ_ d=>by cases d),(λ_ W d=>by cases d)⟩;refine SF G j x h _ _ u UR A b c e ⟨g,UL,l,rfl,rfl,t,q,p l _ [] [g] ⟨s.mono<|cO.lP n,rfl⟩ ?_ (bk.chg (.head _) n (fJ _ _) λf y=>by simpa using y)⟩;exact⟨g,_,rfl,eS,w.mono<|cO.lP n,rfl⟩
 ·cases d
@[simp] def qa:ak->List ak->Option (ak×ak):=λn B=>match n,B with
 |.lst y,[.im (.int b)]=>if 0<=b/\b<y.length then (y[b.toNat]?).map λv=>(.im v,.lst<|y.eraseIdx b.toNat) else Y
 |_,_=>Y
theorem bP.erase:∀{B:List ab}{y:List av} (s:Nat),bP h B y->bP h (B.eraseIdx s) (y.eraseIdx s)
 |[],y,s,e=>by cases (show y=[] from e);exact rfl
 |v::B,y,0,e=>by let⟨u,@r,rfl,t,z⟩:=e;exact z
 |v::B,y,s+1,e=>by let⟨u,@r,rfl,t,z⟩:=e;exact⟨u,_,rfl,t,z.erase s⟩
def OQ:pE a "list.pop" qa:=by
 intro G j x h f S u UR A c e i k;let⟨n,B,r,D,UA,@UW,cZ,m,ai,d,p⟩:=k;unfold qa at d;split at d
 ·rename_i b;split at d
  ·rename_i Uw;let⟨@v,o,q⟩:=cx.mp d;cases q;let⟨g,@UL,rfl,t,z,rfl⟩:=cZ;let⟨l,I,E,@F,rfl,@⟨s,rfl⟩,@⟨rfl,rfl⟩,rfl⟩:=m;cases (show l=.int b from s);let⟨@l,w,y⟩:=z.get o;have n:fS h g:=⟨_,t,(λ_ d=>by cases d),(λ_ W d=>by cases d)⟩;have H:UL.length<=sizeLine:=(c.aT g _ t).1;have J:=oI;refine SJ G j x h _ _ u UR A c e i ⟨g,UL,b,b.toNat,l,rfl,rfl,t,⋯,by have:=z.length;lia,tm Uw.1 (by rw[<-z.length];exact Uw.2),w,p l _ [] [g] ⟨y.mono<|cO.lP n,rfl⟩ ?_ (bk.chg (.head _) n (fJ _ _) λf C=>by simpa using C)⟩;exact⟨g,_,rfl,eS,(z.erase _).mono<|cO.lP n,rfl⟩
  ·cases d
 ·cases d
@[simp] def nE:ak->List ak->Option (ak×ak):=λn B=>match n,B with
 |.lst y,[.lst UL]=>if y.length+UL.length<=100000 then Z (.im .a6,.lst<|y++UL) else Y
 |_,_=>Y
def yB:pE a "list.extend" nE:=by
 intro G j x h f S u UR A i k m o;let⟨n,B,r,w,UA,@UW,cZ,q,ai,d,p⟩:=o;unfold nE at d;split at d
 ·split at d
  ·rename_i s;cases d;let⟨g,@UL,rfl,t,z,rfl⟩:=cZ;let⟨l,I,y,@C,rfl,⟨c,@VJ,rfl,v,b,rfl⟩,@⟨rfl,rfl⟩,rfl⟩:=q;have n:fS h g:=⟨_,t,(λ_ d=>by cases d),(λ_ W d=>by cases d)⟩;refine JF G j x h _ _ u UR A i k m ⟨g,c,UL,VJ,rfl,rfl,t,v,mQ (by rw[<-z.length,<-b.length];exact s),p .a6 _ [] [g] ⟨rfl,rfl⟩ ?_ (bk.chg (.head _) n (fJ _ _) λf e=>by
    rw[lF]at e;exact eG _ e)⟩
   exact⟨g,_,rfl,eS,(z.app b).mono<|cO.lP n,rfl⟩
  ·cases d
 ·cases d
def sZ(a:aK)(pt:ak->ak->ak->Option ak):Prop:=(
 z3 a λm b u h A=>∃n q v c UA UW,cE h n m UA/\cE h q b []/\cE h v u UW/\(UA++UW).Nodup/\pt n q v=Z c/\∀P D,cE P c m D->bk h (UA++UW) P D->A P)
@[simp] def lK(n q v:ak):Option ak:=match n,q,v with
 |.lst y,.im<|.int b,.im v=>(mz y.length b).map λw=>.lst (y.set w v)
 |_,_,_=>Y
theorem bP.set{h:az}{v:ab}{u:av}(C:cO h v u):∀{B:List ab}{y:List av} (s:Nat),bP h B y->bP h (B.set s v) (y.set s u)
 |[],y,s,e=>by cases (show y=[] from e);exact rfl
 |d::B,y,0,e=>by let⟨H,@r,rfl,t,z⟩:=e;exact⟨u,r,rfl,C,z⟩
 |d::B,y,s+1,e=>by let⟨H,@r,rfl,t,z⟩:=e;exact⟨H,_,rfl,t,bP.set C s z⟩
def GN:sZ a lK:=by
 intro G j x h m b u c e H A i k l o r;let⟨n,q,v,D,UA,@UW,cZ,cI,s,ai,d,p⟩:=r;unfold lK at d;split at d
 ·let⟨@w,y,B⟩:=cx.mp d;cases B;let⟨g,@UL,rfl,t,z,rfl⟩:=cZ;let@⟨hd,rfl⟩:=s;have n:fS h g:=⟨_,t,(λ_ d=>by cases d),(λ_ W d=>by cases d)⟩;refine JY G j x h _ _ _ c e H A i k l o ⟨g,UL,_,w,rfl,cI.1,t,by rw[<-z.length];exact y,p _ [g] ?_ (bk.chg (.head _) n (fJ _ _) λf C=>by simpa using C)⟩;exact⟨g,_,rfl,eS,(bP.set hd w z).mono<|cO.lP n,rfl⟩
 ·cases d
@[simp] def jE(b:Nat)(a:aE ak)(pt:ak->ak->ak->Option ak):fi:=λv k=>match k[b]? with
 |some (Z _)=>(a k).bind λo=>if o.1.dA=aa then match o.2[b]? with
   |some (Z n)=>(pt n o.1 v).map λc=>o.2.set b (Z c)
   |_=>Y
  else Y
 |_=>Y
def oq{UU:List Nat}{q:bj}{w:aE ak}{pt:ak->ak->ak->Option ak}{UM:Pos}(J:bU a m (lU b))(L:cv a q w)(M:sZ a pt)(c:∀u,ja (.Subscript m q UM) a.env u=(do
   let i <-holding [u] (b6 m a.env)
   let o <-holding [u,i] (b6 q a.env)
   standAt UM
   holding [u,i,o] (u0 i o u)
   release [u,i,o] []):=by intro W;rfl):hD a UU (.Subscript m q UM) (jE b w pt):=by
 refine wX (JX J L M c) λu x h A O=>?_;let⟨k,N,v,UA,@UO,X,y,ai,j,p⟩:=O;unfold jE at j;split at j
 ·rename_i bs Q;let⟨f,bv,@ca,r,iN,W,W⟩:=X.out Q;let⟨@⟨cz,UE⟩,t,z⟩:=bE.mp j;split at z
  ·rename_i S;refine⟨f,r,k,N,cz,UE,X,(dz.mp ai).1,t,λcd UD UQ ce T cI l=>?_⟩;obtain rfl:=cI.dA S;rw[b_]at l;have al:=dz.mp ai;dsimp only at z;split at z
   ·rename_i n am;let⟨@an,ap,as⟩:=cx.mp z;cases as;let⟨ch,B,@C,E,dC,F,a1⟩:=T.out am;rw[r]at E;cases E;have a2:cE UD v u UA:=y.mono l.tup λg c m d=>l.keep g m d λe=>al.2.2 g e g c rfl;have G:bk h (N++UA) UD ((B++UA)++C):=by
     have bd:bk h (N++UA) h (N++UA):=bk.perm ai (List.Perm.refl _);have:=bk.trans (UQ:=N) (UA:=UA) bd l y.chg;refine this.jw ((fg UA a1.symm).trans ?_);rw[bu];exact dy
    have H:=dz.mp G.ai;refine⟨n,cz,v,an,B,UA,dC,cI,a2,H.1,ap,λP D be s=>?_⟩;have bi:bA P (UE.set b<|Z .dd) x C:=F.mono s.tup λg c m d=>s.keep g m d λe=>H.2.2 g e g c rfl;let⟨bm,@R,I,bn⟩:=bi.back be r;rw[wK]at I;exact p x P bm c3.refl I ((G.trans s F.chg).less<|bn.trans dy)
   ·cases z
  ·cases z
 ·cases j
end
end L2
namespace L2
open Spec PyProof.Rows PySem.W
variable{UP:List Int}{o:Array Nat}{U1:Type}
def QA(M:List U1)(v:U1):(range M.length).map (λb=>M.getD b v)=M:=by
 apply Aw
 ·simp
 ·intro b t z;simp[List.getD,z]
def Ab{M:List U1}{v:U1}(e:c6 M.length o):(o.toList.map λb=>M.getD b v).Perm M:=by
 have:=zB (λb=>M.getD b v) e;rw[QA]at this;exact this
theorem zw{U1 VH:Type}{N:U1->VH->Prop}:∀{a:List U1}{d:List VH},a.length=d.length->(∀(b:Nat) g c,a[b]?=Z g->d[b]?=Z c->N g c)->er N a d
 |[],[],_,_=>.nil
 |g::M,c::E,e,L=>.cons (L 0 g c rfl rfl) (zw ⇑e λb f l t z=>L (b+1) f l ⇑t ⇑z)
 |[],_::_,e,_=>by simp at e
 |_::_,[],e,_=>by simp at e
section
variable{UG:bC}{C:bg}{O:bB}{Uv:af->ao->Prop}{j:ao}{S:List af}
def E0{UY:ae}{VM:Nat}{UB:PySem.Fin->ao->Prop}(R:Nat->Int)(UX:gY)(h:j.heap.get? UY=Z (gA "list" S.toArray VM))(B:2<=S.length->∀f:aZ,(∀c m,c≠UY->j.heap.get? c=Z m->f.get? c=Z m)->∀A:gY->ao->Prop,A UX {j with heap:=f}->wpAny (aS UG C) O (xF S.toArray) A Uv {j with heap:=f})(D:∀f:aZ,(∀c m,c≠UY->j.heap.get? c=Z m->f.get? c=Z m)->fT S.length R (fq UG C O UX<|S.toArray.zip S.toArray) {j with heap:=f})(E:S.length<1001\/∀w,1<=w->w<S.length->R (w-1)<=R w)(F:S.length<=1000)(e:∀(o:Array Nat) (Uu:aZ),c6 S.length o->iB R o S.length->(∀c m,c≠UY->j.heap.get? c=Z m->Uu.get? c=Z m)->(∃d,Uu.get? UY=Z (gA "list" (o.toList.map λb=>S.getD b af.none).toArray d))->
   UB (.done<|.ret .none) {j with heap:=Uu}):wpAny (aS UG C) O (bw.«list.sort» ⟨[.ref UY],[]⟩) UB Uv j:=by
 have x:S.length<=sizeLine:=fl F ∅;rw[list_sort_plain];have P:UY<j.heap.objs.size:=cb h;refine aB (listItems_at h rfl (aB (Hg h rfl ?_ (hsz:=by rw[cX];exact x) (hsz2:=by show 0<=_;exact lB _))));have p:=CW h (λ_=>#[]);generalize Q:(if (#[]:Array af).size==S.toArray.size then VM else VM+1)=y at p;refine aB (seqEpoch_at p rfl (aB (zN (aB<|zR<|iR ?_) ⇑x)));have i:∀c m,c≠UY->j.heap.get? c=Z m->(((j.heap.update UY<|a7.mapSeq λ_=>#[]).push<|gA "tuple" S.toArray.toList.toArray 0).push<|gA "list" ([]:List af).toArray 0).get? c=Z m:=λc m k d=>
  b5 _ (b5 _<|(kH _ _<|f6 k).trans d);have a:(((j.heap.update UY<|a7.mapSeq λ_=>#[]).push<|gA "tuple" S.toArray.toList.toArray 0).push<|gA "list" ([]:List af).toArray 0).get? UY=Z (gA "list" #[] y):=
  b5 _ (b5 _ p);show wpAny (aS UG C) O _ UB Uv {j with heap:=((j.heap.update UY<|a7.mapSeq λ_=>#[]).push<|gA "tuple" S.toArray.toList.toArray 0).push (gA "list" ([]:List af).toArray 0)};generalize ((j.heap.update UY<|a7.mapSeq λ_=>#[]).push<|gA "tuple" S.toArray.toList.toArray 0).push (gA "list" ([]:List af).toArray 0)=f at i a ⊢;have fin:∀(X:bH) (o:Array Nat),c6 S.length o->iB R o S.length->arrOf X=o.map (bp<|S.toArray.zip S.toArray)->iu X=Y->
   wpAny (aS UG C) O (do
    let J:=(<-seqEpoch UY) != y
    bw.List.listUpdate (.ref UY) λ_=>(arrOf X).map (·.2)
    if let Z d:=iu X then rule "list.sort.comparison-raised";throw d
    if J then rule "list.sort.modified";raiseError "ValueError" "list modified during sort"
    ret .none) UB Uv {j with heap:=f}:=λX o l q s t=>by
  have out:=kat_snds (ks:=S) (vs:=S) rfl s;rw[out,t];refine aB (seqEpoch_at (s:={j with heap:=f}) a rfl (aB (Hg (s:={j with heap:=f}) a rfl ?_ (hsz:=lB _) (hsz2:=by
   show (List.toArray<|o.toList.map λb=>S.getD b af.none).size<=_;rw[cX,bS,fW,l.size];lia))))
  simp only[bne_self_eq_false,k7,ih];refine a_ (e o _ l q (λc m k d=>(kH _ _<|f6 k).trans<|i c m k d) ⟨_,CW a λ_=>_⟩)
 dsimp only;by_cases z:S.toArray.size<2
 ·rw[aJ z,aJ z];refine aB (a_ ?_);rw[StateT.run_pure];apply aB;apply a_;have u:S.length<2:=by simpa using z
  refine fin (bH.mk' general' (S.toArray.zip S.toArray) #[] 7 Y) (range S.length).toArray (List.Perm.refl _) (λb w T U=>?_) ?_ rfl
  ·have:b=w:=⋯
   subst this;exact lH _
  ·have:=kas_range (S.toArray.zip S.toArray);rw[show (S.toArray.zip S.toArray).size=S.length by simp]at this;exact this.symm
 ·rw[aO z,aO z];have u:2<=S.length:=by simpa using z
  refine aB (B u f i _ ?_)
  ·have L:=D f i;have gR:=kas_range (S.toArray.zip S.toArray);rw[show (S.toArray.zip S.toArray).size=S.length by simp]at gR;have run:=KA (Uv:=Uv) (A:=λ_ X Ux=>Ux={j with heap:=f}/\∃o,c6 S.length o/\iB R o S.length/\arrOf X=o.map (bp<|S.toArray.zip S.toArray)/\iu X=Y) L
    u E λM al g c n v=>⟨rfl,M,g,c,n,v⟩;unfold te at run;rw[gR]at run;refine aB (gS run (λr Ux N=>?_) λ_ W d=>d);let⟨H,X⟩:=r;let@⟨rfl,⟨@o,l,q,s,t⟩⟩:=N;exact fin X o l q s t
end
section
variable{a:aK}{G:List (ae×a7)}{x:L2.a5}{h:az}{j:ao}
def Eh(bi:a.calm=aa){g:ae}{UL:List av}{UI:List af}{s:Nat}{F:String}{m:a7}{A:cJ}(R:Nat->Int)(UX:gY)(Q:aG a G x h j)(D:bZ UL UI)(S:F = "list" \/ F = "tuple")(d:j.heap.get? g=Z m)(au:m.cls=.type F)(T:m.data=.seq UI.toArray s)(bm:UL.length<=1000)(U:2<=UI.length->∀(e:aZ) (Vn:Nat),(∀c m,j.heap.get? c=Z m->e.get? c=Z m)->∀(O:bB) (Uv:af->ao->Prop) (A:gY->ao->Prop),A UX {j with heap:=e,toks:=Vn}->wpAny (aS a.prog a.w) O (xF UI.toArray) A Uv {j with heap:=e,toks:=Vn})(al:∀(e:aZ) (Vn:Nat),(∀c m,j.heap.get? c=Z m->e.get? c=Z m)->fT UI.length R (fq a.prog a.w a.A.in1.in1 UX<|UI.toArray.zip UI.toArray) {j with heap:=e,toks:=Vn})(am:UI.length<1001\/∀w,1<=w->w<UI.length->R (w-1)<=R w)(p:∀(o:Array Nat) M,c6 UI.length o->iB R o UI.length->h M=Y->A (.ref M) (upd h M<|.lst<|o.toList.map λb=>UL.getD b .a6)):
  wpAny (aS a.prog a.w) a.A (call (.builtin "sorted") [.ref g]) (eN a G x A) a.cL j:=by
 have bn:UL.length=UI.length:=D.length;have I:UI.length<=sizeLine:=fl ⋯ (show 1000<=sizeLine by decide);refine xV kind_sorted G5 IE (Iz _) ?i
 case i=>
  unfold bw.«sorted»;refine aB (m:=checkCount "sorted" 1 1 _) (a_ (aB (wpAny_collect_seq g S d au T (λUu r=>?_) (by rw[cX];exact I))));show wpAny _ _ (tV UI >>= _) _ _ _;refine aB (zR ?_ I);have J:(Uu.push<|gA "list" UI.toArray 0).get? Uu.objs.size=Z (gA "list" UI.toArray 0):=dr _ rfl;have bx:∀c m,j.heap.get? c=Z m->(Uu.push<|gA "list" UI.toArray 0).get? c=Z m:=λc m d=>b5 _ (r c m d);have L:aG a G x h {j with heap:=Uu}:=Q.kept (Va:=j.toks) r;have N:∀c m,j.heap.get? c=Z m->c≠Uu.objs.size:=λc m d=>d8 (cb<|r c m d);refine aB (iR<|iS A6 ⟨_,J,rfl⟩ D3 ?l<|FV _)
  case l=>
   refine E0 (j:={j with heap:=Uu.push (gA "list" UI.toArray 0)}) R UX J (λz e v A an=>U z e j.toks (λc m k=>v c m (N c m k)<|bx c m k) _ _ A an) (λe v=>al e j.toks λc m k=>v c m (N c m k)<|bx c m k) am ⋯ λo z y ap U9 ⟨as,a1⟩=>⟨_,rfl,a_ ⟨_,rfl,?_⟩⟩;have a2:h Uu.objs.size=Y:=L.aT.fresh (bT _);have bd:∀c m,Uu.get? c=Z m->c≠Uu.objs.size:=λc m d=>d8 (cb d);refine⟨.ref Uu.objs.size,upd h Uu.objs.size<|.lst<|o.toList.map λb=>UL.getD b .a6,?_,rfl,p o _ y ap a2⟩;refine L.laid (Va:=j.toks) (λc H d=>U9 c H (bd c H d)<|b5 _ d) (bT _) ⟨?_,_,as,?_,a1⟩
   ·rw[bS,fW,y.size];lia
   ·refine zw ↥0 λb u H t z=>?_;rw[gy]at t z;cases B:o.toList[b]? with
    |none=>rw[B]at t;cases t
    |some q=>
     rw[B]at t z;cases t;cases z;have P:q<UI.length:=ip.mp (y.mem_iff.mp<|nF B);let⟨@H,n,be⟩:=D.get (b:=q) (f:=UL[q]'⋯) (by simp[show q<UL.length by lia]);rw[f3 P]at n;have n:=Option.some.inj n;simp only[List.getD,f3 P,f3 (show q<UL.length by lia),q7];rw[n];exact be
end
def pd(UP:List Int)(b:Nat):Int:=(UP.getD b 0)
def Lk(ai:UP.Nodup):∀b w,b<UP.length->w<UP.length->pd UP b=pd UP w->b=w:=λb w Uw a d=>by
 unfold pd at d;rw[cT,cT,f3 Uw,f3 a]at d;have c:UP[b]=UP[w]:=d;rcases Ey b w with e|e|e
 ·exact absurd c ((qo.mp ai) b w Uw a e)
 ·exact e
 ·exact absurd c.symm ((qo.mp ai) w b a Uw e)
def O5(a:c6 UP.length o)(f:iB (pd UP) o UP.length)(ai:UP.Nodup):(o.toList.map λb=>UP.getD b 0).Pairwise (· < ·):=by
 rw[qo];intro b w Uw c g;have UH:=a.size;have i:b<UP.length:=by simpa [UH] using Uw
 have d:w<UP.length:=by simpa [UH] using c
 have ne:=a.ne (Lk ai) g d;have le:=f b w ⋯ d;have J:∀q (e:q<(o.toList.map λb=>UP.getD b 0).length),(o.toList.map λb=>UP.getD b 0)[q]=bl (pd UP) o q:=λq e=>by
  have h:q<o.size:=by simpa using e
  rw[EC,FO];show _=UP.getD (o.getD q 0) 0;simp[Array.getD,h]
 rw[J b Uw,J w c];lia
section
variable{a:aK}
theorem uJ{h:az}:∀{UP:List Int}{UI:List af},bZ (UP.map av.int) UI->∀(b:Nat),b<UP.length->∃I,UI[b]?=Z (.int (UP.getD b 0) I)
 |s::r,_,.cons g c,0,e=>by let⟨@I,rfl⟩:=g;exact⟨I,rfl⟩
 |s::r,_,.cons g c,b+1,e=>by
  let⟨@I,d⟩:=uJ (h:=h) c b ⇑e;exact⟨I,by simpa using d⟩
def NQ(B:a.calm=aa):eY a (.builtin "sorted") (λy h A=>∃(g:ae) (UP:List Int),y=[.ref g]/\h g=Z (.lst<|UP.map av.int)/\UP.Nodup/\UP.length<=1000/\
  ∀M (k:List Int),h M=Y->k.Perm UP->k.Pairwise (· < ·)->A (.ref M) (upd h M<|.lst<|k.map av.int)):=by
 intro G j x h y UR A l r e;let⟨g,@UP,rfl,C,ai,D,p⟩:=e;let⟨@H,rfl,E⟩:=iM r;cases E;let@⟨i,⟨UI,@s,c,d⟩⟩:=l.aT g _ C;have m:UI.length=UP.length:=by rw[<-c.length,bS]
 refine Eh B (pd UP) oneType' l c (.inl rfl) d rfl rfl (by rw[bS];exact D) (λz J Vn q O Uv A L=>?_) (λJ Vn q=>?_) (.inl ⋯) λo M f n aU=>?_
 ·refine kas_kind (T:=af.type "int") z (λu N=>?_) ∅ ∅ L;let⟨@b,Uw⟩:=List.getElem?_of_mem N;let⟨@I,v⟩:=uJ (h:=h) c b (by rw[<-m];exact (gp.mp Uw).1);rw[Uw]at v;cases v;exact x7 rfl
 ·intro b w aH Uw S p;let⟨@I,t⟩:=uJ (h:=h) c b ⋯;let⟨@H,z⟩:=uJ (h:=h) c w ⋯;unfold fq;rw[tA rfl,tA rfl,cT,cT,t,z];show wpAny _ _ (keyLt' oneType' (.int _ I)<|.int _ H) _ _ _;rw[keyLt'_oneType];exact oneLt_int p
 ·rw[m]at f n;have P:(o.toList.map λb=>(UP.map av.int).getD b .a6)=(o.toList.map λb=>UP.getD b 0).map av.int:=by
   rw[gr];refine q2 λq Q=>?_;have R:q<UP.length:=ip.mp (f.mem_iff.mp Q);show (UP.map av.int).getD q .a6=av.int (UP.getD q 0);simp[List.getD,R]
  rw[P];exact p M _ aU (Ab f) (O5 f n ai)
end
end L2
namespace L2
open Spec PyProof.Rows
section
variable{a:aK}
def e3:List ab->List ab->List ab
 |f::y,l::UL=>.tup [f,l]::e3 y UL
 |_,_=>[]
theorem yp:∀(y UL:List ab),(e3 y UL).length=min y.length UL.length
 |[],UL=>by simp[e3]
 |f::y,[]=>by simp[e3]
 |f::y,l::UL=>by simp[e3,yp y UL]
theorem y2:∀(y UL:List ab) (b:Nat) (v:ab),(e3 y UL)[b]?=Z v->∃f l,y[b]?=Z f/\UL[b]?=Z l/\v=.tup [f,l]
 |[],UL,b,v,e=>by simp[e3]at e
 |f::y,[],b,v,e=>by simp[e3]at e
 |f::y,l::UL,0,v,e=>by simp[e3]at e;exact⟨f,l,rfl,rfl,e.symm⟩
 |f::y,l::UL,b+1,v,e=>by
  let⟨g,c,t,z,a⟩:=y2 y UL b v (by simpa [e3] using e);exact⟨g,c,by simpa using t,by simpa using z,a⟩
@[simp] def jW(J:aE (List bN)):jm:=λk=>(J k).bind λo=>(h4 o.2 o.1).bind λB=>match B with
 |[.im (.tup f),.im<|.tup l]=>Z ((e3 f l,Y),o.2)
 |_=>Y
theorem MA{Q:Φ}{h:az}{g c:ae}{y UL:List av}{B T:List ab}(e:h g=Z (.tup y))(hd:bP h B y)(Uu:h c=Z (.tup UL))(a:bP h T UL):kz (ua Q g c) h [] (e3 B T) where
 go:=λP I q b v d=>by
  let⟨f,l,r,s,rfl⟩:=y2 B T b v d;let⟨u,k,t⟩:=hd.get r;let⟨H,U3,U9⟩:=a.get s;have m:=cp.of (Q:=Q) (I.tup g _ e);have n:=cp.of (Q:=Q) (I.tup c _ Uu);refine⟨⟨y,UL,u,H,m,n,k,U3⟩,λi C ⟨F,D,E,L,w,x,z,A⟩=>?_⟩;subst w x;have o:=z y m;have p:=A UL n;rw[k]at o;rw[U3]at p;cases o;cases p;have j:c1 P (upd P F<|.tup [u,H]):=(c1.refl P).upd L;exact⟨j,F,[u,H],rfl,eS,⟨u,[H],rfl,(t.mono I.tup).mono j.tupS.tup,H,[],rfl,(U9.mono I.tup).mono j.tupS.tup,rfl⟩⟩
 stop:=λP I q=>⟨y,UL,cp.of<|I.tup g _ e,cp.of<|I.tup c _ Uu,by rw[yp,<-hd.length,<-a.length];lia⟩
variable{J:aE (List bN)}
def uo{g c:bj}{o UM:Pos}{T:List bj}{VX:Nat}{UJ:Pos}(j:ey a "zip")(l:a.ay "zip" = Y)(b:fm a [g,c] J)(UH:bK [g,c] a.env=[(aq,b6 g a.env),(aq,b6 c a.env)]:=by rfl)(m:bK [c] a.env=[(aq,b6 c a.env)]:=by rfl):
  mi a (.Tuple T VX UJ) (.Call (.Name "zip" o) [g,c] [] UM) (jW J):=by
 refine we (PD j l b UH m) λx h C ⟨k,N,r,UO,X,ai,n,p⟩=>?_;let⟨⟨UN,UE⟩,t,z⟩:=bE.mp n;let⟨B,q,e⟩:=bE.mp z;refine⟨k,N,UN,UE,X,ai,t,λS UD UQ D f U0 s=>?_⟩;have v:=U0.read f q;split at e
 ·cases e;let⟨u,H,rfl,d,w⟩:=w6 v;let⟨g,y,rfl,U3,U9⟩:=d;let⟨c,UL,rfl,i,A⟩:=w;exact⟨g,c,rfl,⟨y,cp.of U3⟩,⟨UL,cp.of i⟩,p _ UD UQ [] f (MA U3 U9 i A) trivial (λg b=>nomatch b) (by rw[b_];exact s.both)⟩
 ·cases e
def LN{Vm:List Nat}:∀k r UO,jW J k=Z (r,UO)->k2 Vm r.2:=by
 intro k r UO e;let⟨⟨UN,UE⟩,t,z⟩:=bE.mp e;let⟨B,b,a⟩:=bE.mp z;split at a
 ·cases a;trivial
 ·cases a
@[simp] def Up:hN:=λB=>match B with
 |[.im (.int b),.im<|.int w,.im<|.int q]=>Z (.im<|.int<|min (min b w) q)
 |_=>Y
def kY(lt:ab->ab->Bool)(f:ab):List ab->List ab
 |[]=>[f]
 |l::r=>if lt f l=aa then f::l::r else l::kY lt f r
def ij(lt:ab->ab->Bool):List ab->List ab
 |[]=>[]
 |f::r=>kY lt f (ij lt r)
def tU:ab->ab->Bool
 |.int b,.int w=>decide (b<w)
 |_,_=>aq
def l1:List ab->Option (List Int)
 |[]=>Z []
 |.int b::r=>(l1 r).map λj=>b::j
 |_::_=>Y
@[simp] def wz:hN:=λB=>match B with
 |[.lst f]=>(l1 f).bind λUP=>if UP.Nodup/\UP.length<=1000 then Z (.lst<|ij tU f) else Y
 |_=>Y
def OG(UP:List Int):l1 (UP.map .int)=Z UP:=by
 induction UP with
 |nil=>rfl
 |cons s r a=>rw[cK,l1,a];rfl
def nK(f:Int):List Int->List Int
 |[]=>[f]
 |l::r=>if f<l then f::l::r else l::nK f r
def pF:List Int->List Int
 |[]=>[]
 |f::r=>nK f (pF r)
theorem Gq(f:Int):∀M:List Int,kY tU (.int f) (M.map .int)=(nK f M).map .int
 |[]=>rfl
 |l::r=>by
  rw[cK,kY,nK,tU];by_cases e:f<l
  ·rw[aJ ⇑e,aJ e];rfl
  ·rw[aO ⇑e,aO e,Gq f r];rfl
theorem A8:∀M:List Int,ij tU (M.map .int)=(pF M).map .int
 |[]=>rfl
 |f::r=>by rw[cK,ij,A8 r,Gq];rfl
theorem yP(f:Int):∀M:List Int,(nK f M).Perm (f::M)
 |[]=>List.Perm.refl _
 |l::r=>by
  rw[nK];split
  ·exact List.Perm.refl _
  ·exact ((yP f r).cons l).trans (List.Perm.swap f l r)
theorem wR:∀M:List Int,(pF M).Perm M
 |[]=>List.Perm.refl _
 |f::r=>(yP f _).trans ((wR r).cons f)
theorem BA(f:Int):∀M:List Int,M.Pairwise (·<=·)->(nK f M).Pairwise (·<=·)
 |[],_=>fJ _ _
 |l::r,e=>by
  let⟨t,z⟩:=hb.mp e;rw[nK];split
  ·rename_i b;refine hb.mpr ⟨λi a=>?_,e⟩;rcases bI.mp a with rfl|a
   ·lia
   ·have:=t i a;lia
  ·rename_i b;refine hb.mpr ⟨λi a=>?_,BA f r z⟩;rcases bI.mp ((yP f r).mem_iff.mp a) with rfl|a
   ·lia
   ·exact t i a
theorem HE:∀M:List Int,(pF M).Pairwise (·<=·)
 |[]=>List.Pairwise.nil
 |f::r=>BA f _ (HE r)
def OJ{M:List Int}(e:M.Nodup):(pF M).Pairwise (· < ·):=by
 have t:=HE M;have z:(pF M).Nodup:=(wR M).nodup_iff.mpr e;exact PW (λg c f l=>⋯) t z
theorem CX:∀{M E:List Int},M.Perm E->M.Pairwise (· < ·)->E.Pairwise (· < ·)->M=E
 |[],E,e,_,_=>e.nil_eq
 |g::M,[],e,_,_=>absurd e.length_eq ↥0
 |g::M,c::E,e,f,h=>by
  have a:=hb.mp f;have b:=hb.mp h;have d:g=c:=by
   rcases bI.mp (e.mem_iff.mp<|.head _) with i|i
   ·exact i
   ·rcases bI.mp (e.mem_iff.mpr<|.head _) with l|l
    ·exact l.symm
    ·have t:=a.1 c l;have z:=b.1 g i;omega
  subst d;rw[CX e.cons_inv a.2 b.2]
theorem z_:∀{f:List ab}{UP:List Int},l1 f=Z UP->f=UP.map .int
 |[],UP,e=>by cases e;rfl
 |.int b::r,UP,e=>by
  rw[l1]at e;let⟨j,t,rfl⟩:=cx.mp e;rw[z_ t];rfl
 |.a6::_,_,e=>by cases e
 |.aC _::_,_,e=>by cases e
 |.str _::_,_,e=>by cases e
 |.tup _::_,_,e=>by cases e
 |.fn _::_,_,e=>by cases e
 |.aU _::_,_,e=>by cases e
 |.fd::_,_,e=>by cases e
theorem xh{h:az}:∀{UP:List Int}{S:List av},bP h (UP.map .int) S->S=UP.map av.int
 |[],S,e=>e
 |s::r,S,e=>by
  let⟨u,I,rfl,t,z⟩:=e;cases (show u=.int s from t);rw[xh z];rfl
theorem Gl{h:az}:∀UP:List Int,bP h (UP.map .int) (UP.map av.int)
 |[]=>rfl
 |s::r=>⟨.int s,_,rfl,rfl,Gl r⟩
def J1(e:a.calm=aa)(k:a.A.units+20<b9):hn a (.builtin "sorted") wz:=by
 refine (NQ e).imp λy h A ⟨B,v,g,d,p⟩=>?_;unfold wz at d;split at d
 ·rename_i f;let⟨UP,i,b⟩:=bE.mp d;split at b
  ·rename_i c;cases b;let⟨u,rfl,W,o,y,rfl,t,z,W⟩:=gw g;cases z_ i;cases xh z;refine⟨o,UP,rfl,t,c.1,c.2,λM m aU U5 j=>?_⟩;rw[A8]at p;rw[CX (U5.trans (wR UP).symm) j (OJ c.1)];exact b7.l p aU (Gl _)
  ·cases b
 ·cases d
def Aj(b:a.A.units+20<b9):sZ a lK:=GN
end
end L2
namespace L2
variable{g e J c:bt}{d:aE ak}{own E s:Nat}{B:List ak}{UU:List Nat}{m:Option (Nat×ak)}{y:List ab}{v:ak}{UE k:a0}{n:aE Bool}{Vc:fi}{U1:Type}{w b:Int}
@[simp] theorem Ur(v:ab)(k:a0):au v k=Z (.im v,k):=rfl
@[simp] theorem tv(k:a0):aA k=Z ([],k):=rfl
@[simp] theorem T4(k:a0):eX k=Z (.aM,k):=rfl
@[simp] theorem T6(k:a0):gX k=Z (Y,k):=rfl
@[simp] theorem Ul(k:a0):d5 k=Z (aa,k):=rfl
@[simp] theorem Ug(v:ab):(ak.im v).dA=aa:=rfl
@[simp] theorem Ud(v:List ab):(ak.cF v).dA=aa:=rfl
@[simp] theorem Ua(v:List ab):(ak.lst v).dA=aq:=rfl
@[simp] theorem Un(v:List (List ab×ab)):(ak.aQ v).dA=aq:=rfl
@[simp] theorem Uj(v:List (eQ×ab)):(ak.dJ v).dA=aq:=rfl
@[simp] theorem Fd(k:a0)(v:ak):dn k (.cB v)=Z v:=rfl
@[simp] theorem FK(k:a0)(b:Nat):dn k (.aY b)=(k[b]?).getD Y:=rfl
@[simp] theorem u6(k:a0):h4 k []=Z []:=rfl
@[simp] theorem vZ(k:a0)(m:bN)(UN:List bN):h4 k (m::UN)=(dn k m).bind λv=>(h4 k UN).map λB=>v::B:=rfl
@[simp] theorem T3(k:a0):ec [] k=Z ([],k):=rfl
@[simp] theorem Ui(v:ak)(UN:List bN)(k:a0):ec (.cB v::UN) k=(ec UN k).map λo=>(v::o.1,o.2):=rfl
@[simp] theorem T7(b:Nat)(UN:List bN)(k:a0):ec (.aY b::UN) k=(fO b k).bind λo=>(ec UN o.2).map λp=>(o.1::p.1,p.2):=rfl
@[simp] theorem Uq:hk []=Z []:=rfl
@[simp] theorem T8(v:ab)(B:List ak):hk (.im v::B)=(hk B).map λr=>v::r:=rfl
@[simp] theorem TZ(c:Bool):l0 (.im<|.aC c)=Z c:=rfl
def mr(t : -(2^64)<w)(z:w<2^64):gx b w=aa:=by
 have:bw.Int.intBits w<=64:=Ha t z;have Uu:¬ (bw.Int.intBits w>uP):=HG.mpr this;unfold gx;rw[ep Uu];simp
def zK(t : -(2^64)<b)(z:b<2^64):gx b w=aa:=by
 have:bw.Int.intBits b<=64:=Ha t z;have Uu:¬ (bw.Int.intBits b>uP):=HG.mpr this;unfold gx;rw[ep Uu];simp
def Bw{y:List U1}(e:y.length<=s):y.take s=y:=uR e
def oi(y:List U1)(q:Nat):fy y (Z (q:Int)) Y=y.drop q:=by
 unfold fy;rw[dw.Hp,dw.AB];by_cases e:q<=y.length
 ·rw[pb e,Bw (by rw[gQ];lia)]
 ·rw[Ew ⋯,Ec,yR,m2 ⋯]
def EK(y:List U1)(q:Nat):fy y Y (Z (q:Int))=y.take q:=by
 unfold fy;rw[dw.Hp,dw.AB,lY,x6];by_cases e:q<=y.length
 ·rw[pb e]
 ·rw[Ew ⋯,p9,Bw ⋯]
def xN{y:List U1}{v:U1}(Vx:0<=b)(e:y[b.toNat]?=Z v):eH y b=Z v:=by
 unfold eH mz;have Uw:b.toNat<y.length:=(gp.mp e).1;rw[aJ Vx,aJ ⋯];exact e
def HK{y:List U1}{v:U1}(e:y.getLast?=Z v):eH y (-1)=Z v:=by
 rw[El]at e;have Uw:y.length-1<y.length:=(gp.mp e).1;unfold eH mz;rw[aO ∅,aJ ⋯];show y[(-1+(y.length:Int)).toNat]?=Z v;rw[show (-1+(y.length:Int)).toNat=y.length-1 by lia];exact e
def JS(a:Nat->a0->Prop)(UA:ak->a0->Prop):∀{y:List ab}{k:a0},a 0 k->
  (∀(b:Nat) (f:ab) (k:a0),y[b]?=Z f->a b k->∃UE aU Vd,Vc (.im f) k=Z UE/\c UE=Z (aU,Vd)/\(((aU=.aM\/aU=.cG)/\a (b+1) Vd)\/∃v,aU=.dR v/\UA v Vd))->
  (∃UO,dK Vc c y k=Z (.aM,UO)/\a y.length UO)\/∃v UO,dK Vc c y k=Z (.dR v,UO)/\UA v UO:=by
 intro y;induction y generalizing a with
 |nil=>intro k Vx W;exact .inl ⟨k,rfl,Vx⟩
 |cons f r g=>
  intro k Vx e;let⟨UE,aU,@Vd,t,z,h⟩:=e 0 f k rfl Vx;rcases h with ⟨i,j⟩|⟨v,rfl,m⟩
  ·have:=g (λb=>a<|b+1) (k:=Vd) j λb l UO n o=>e (b+1) l UO ⇑n o;have d:dK Vc c (f::r) k=dK Vc c r Vd:=by
    rw[dK];dsimp only;rw[t];show (c UE).bind _=_;rw[z];rcases i with rfl|rfl<;>rfl
   rw[d];exact this
  ·refine .inr ⟨v,Vd,?_,m⟩;rw[dK];dsimp only;rw[t];show (c UE).bind _=_;rw[z];rfl
def Ii(a:Nat->a0->Prop){y:List ab}{k:a0}(Vx:a 0 k)(e:∀(b:Nat) (f:ab) (k:a0),y[b]?=Z f->a b k->∃UE aU Vd,Vc (.im f) k=Z UE/\c UE=Z (aU,Vd)/\(aU=.aM\/aU=.cG)/\a (b+1) Vd):
  ∃UO,dK Vc c y k=Z (.aM,UO)/\a y.length UO:=by
 rcases JS a (λ_ W=>False) Vx (λb f k d g=>by
  let⟨UE,aU,@Vd,t,z,h,i⟩:=e b f k d g;exact⟨UE,aU,Vd,t,z,.inl ⟨h,i⟩⟩) with e|⟨_,_,_,e⟩
 ·exact e
 ·exact e.elim
def yu(b:Nat->a0->Prop)(d:a0->Prop)(step:∀E k,b E k->∃I UE,n k=Z (I,UE)/\(I=aa->∃aU Vd,c UE=Z (aU,Vd)/\(aU=.aM\/aU=.cG)/\∃a,a<E/\b a Vd)/\(I=aq->d UE)):
  ∀(s E:Nat) (k:a0),b E k->E<s->∃UO,jV n c s k=Z (.aM,UO)/\d UO:=by
 intro s;induction s with
 |zero=>intro E k W e;lia
 |succ s f=>
  intro E k g o;let⟨I,@UE,t,z,h⟩:=step E k g;rw[jV];dsimp only;rw[t];cases I with
  |false=>exact⟨UE,rfl,h rfl⟩
  |true=>
   let⟨aU,@Vd,i,hf,⟨@a,p,j⟩⟩:=z rfl;let⟨@UO,l,m⟩:=f a Vd j ⋯;refine⟨UO,?_,m⟩;simp only[qq,hK,i];rcases hf with rfl|rfl<;>exact l
def SK(y:List U1):y.filter (λ_=>aa)=y:=List.filter_eq_self.mpr λ_ W=>rfl
def ee(d:J k=Z (.aM,UE)):bL J e k=e UE:=by unfold bL;rw[d];rfl
def rl(d:J k=Z (.dR v,UE)):bL J e k=Z (.dR v,UE):=by unfold bL;rw[d];rfl
def As{J:jm}{Vd:a0}{aU:nz}(d:J k=Z ((y,m),UE))(e:dK Vc c y UE=Z (aU,Vd)):gv J Vc c k=Z (aU,lM m Vd):=by
 unfold gv;rw[d];show (dK Vc c y UE).map _=_;rw[e];rfl
def Kg{r:ak}(a:B.length=s)(d:J (B.map Z++replicate (E-s) Y)=Z (.dR r,k)):c5 s E UU J B=Z (r,jM UU B k 0):=by
 unfold c5;rw[aJ a,d]
def nX{Ve:List Nat}{VU:jm}{a:a0}{B:List ab}(t:VU k=Z ((y,m),UE))(z:hG own Vc n d y [] (lz Ve UE)=Z (B,a)):de own Ve VU Vc n d k=Z (.lst B,lM m<|ji Ve a UE):=by
 unfold de;rw[t];show (hG own Vc n d y []<|lz Ve UE).map _=_;rw[z];rfl
def d_{J:aE ak}(d:J k=Z (v,UE)):cy J k=Z (.dR v,UE):=by unfold cy;rw[d];rfl
def sg{b:Nat}{J:aE ak}(d:J k=Z (v,UE))(e:b<UE.length):cj b J k=Z (.aM,UE.set b<|Z v):=by unfold cj;rw[d];show (if b<UE.length then _ else _)=_;rw[aJ e]
def pZ(d:n k=Z (aa,UE)):d3 n g c k=g UE:=by unfold d3;rw[d];rfl
def pW(d:n k=Z (aq,UE)):d3 n g c k=c UE:=by unfold d3;rw[d];rfl
def h_(k:a0){r:ak}{I:List ak}(a:B.length=s)(d:J (B.map Z++replicate (E-s) Y)=Z (.dR r,k))(b:jM UU B k 0=I):c5 s E UU J B=Z (r,I):=by
 rw[Kg a d,b]
theorem qy{U1:Type}{own:Nat}{Vc:fi}{n:aE Bool}{d:aE ak}{aH:a0}(b:U1->ab)(o:U1->Bool)(L:U1->ab):∀(y:List U1) (a:List ab),(∀f∈y,∃UE Vd,Vc (.im<|b f) (replicate own Y++aH)=Z UE/\n UE=Z (o f,Vd)/\(o f=aq->Vd.drop own=aH)/\(o f=aa->∃F,d Vd=Z (.im<|L f,F)/\F.drop own=aH))->
  a.length+y.length<=100000->hG own Vc n d (y.map b) a aH=Z (a++(y.filter o).map L,aH)
 |[],a,_,_=>by simp[hG]
 |f::r,a,e,h=>by
  let⟨UE,@Vd,t,z,i,j⟩:=e f (.head _);rw[dT]at h;rw[cK,hG,t];show (n UE).bind _=_;rw[z];show (if o f=aa then _ else _)=_;cases c:o f with
  |false=>
   rw[aO ek];show hG own Vc n d (r.map b) a (Vd.drop own)=_;rw[i c,qy b o L r a (λl g=>e l<|.tail _ g) ⋯,HM,c];rfl
  |true=>
   let⟨@F,k,m⟩:=j c;rw[aJ rfl];show (d Vd).bind _=_;rw[k];show (if a.length<100000 then hG own Vc n d (r.map b) (a++[L f]) (F.drop own) else Y)=_;rw[aJ ⋯,m,qy b o L r (a++[L f]) (λl g=>e l<|.tail _ g) (by rw[d7,kK];lia),HM,c];simp
def jr{aH:a0}(a:U1->ab)(L:U1->ab)(y:List U1)(e:∀f∈y,∃UE Vd F,Vc (.im<|a f) (replicate own Y++aH)=Z UE/\n UE=Z (aa,Vd)/\d Vd=Z (.im<|L f,F)/\F.drop own=aH)(h:y.length<=100000):hG own Vc n d (y.map a) [] aH=Z (y.map L,aH):=by
 have:=qy (own:=own) (Vc:=Vc) (n:=n) (d:=d) (aH:=aH) a (λ_=>aa) L y [] (λf b=>by
  let⟨UE,Vd,@F,t,z,c,g⟩:=e f b;exact⟨UE,Vd,t,z,(λi=>by cases i),(λ_=>⟨F,c,g⟩)⟩) (by rw[sX];lia)
 rw[SK]at this;exact this
end L2
namespace G
open L2
abbrev aI(b:Int):ak:=.im (.int b)
end G
namespace L2
open Spec PyProof.Rows
variable{fd:gC}{L Uz I g:ae}{q VX U9 U3 b:Nat}{d VS Vy Vc:bj}{Vt:a7}{H:gi}{Ve:List Nat}{own UJ:List aF}{US:ha}{VO T:List bj}{V8 VQ o UM:Pos}{VK:aF}{J:aE (List bN)}{B:List ab}{UA:List ae}{v:ak}{UX:Type}{u:av}{Q:Φ}{A:af->ao->Prop}{f:af}{U4 UL y:Array af}{j:ao}{h:az}{x:a5}{G:List (ae×a7)}{a:aK}{Uu e:aZ}{c:Bool}
def hi(c:Bool)(e:aZ)(Uz g:ae)(b:Nat):Prop:=(if c=aa then e.IsListIter Uz g b else e.IsTupleIter Uz g b)
def hl(c:Bool)(e:aZ)(g:ae)(y:Array af):Prop:=(if c=aa then e.IsList g y else e.IsTuple g y)
def g5(c:Bool)(Q:Φ)(h:az)(g:ae)(y:List av):Prop:=(if c=aa then dm Q h g y else cp Q h g y)
def g7(c:Bool):String:=(if c=aa then "list_iterator" else "tuple_iterator")
def jf(f:hi c e g I b)(q:∀m,e.get? g=Z m->Uu.get? g=Z m):hi c Uu g I b:=by
 cases c with
 |true=>let⟨@m,d,r⟩:=f;exact⟨m,q m d,r⟩
 |false=>let⟨@m,d,r⟩:=f;exact⟨m,q m d,r⟩
def pl(f:hl c e g y)(q:∀m,e.get? g=Z m->Uu.get? g=Z m):hl c Uu g y:=by
 cases c with
 |true=>let⟨@m,d,r⟩:=f;exact⟨m,q m d,r⟩
 |false=>let⟨@m,d,r⟩:=f;exact⟨m,q m d,r⟩
def vo(f:hi c e g I b):∃m,e.get? g=Z m/\∀u,m.data≠.cell u:=by
 cases c with
 |true=>let⟨@m,d,W,v⟩:=f;exact⟨m,d,λu i=>by rw[v]at i;cases i⟩
 |false=>let⟨@m,d,W,v⟩:=f;exact⟨m,d,λu i=>by rw[v]at i;cases i⟩
def Fl(f:hl c e g y):∃m,e.get? g=Z m:=by
 cases c with
 |true=>let⟨@m,d,W⟩:=f;exact⟨m,d⟩
 |false=>let⟨@m,d,W⟩:=f;exact⟨m,d⟩
def A4(d:e.get? g=Z {cls:=.type (g7 c),data:=.fields #[.ref I,.int 0 0]}):hi c e g I 0:=by
 cases c with
 |true=>exact⟨_,d,rfl,rfl⟩
 |false=>exact⟨_,d,rfl,rfl⟩
def aG.oZ{y:List av}(b:aG a G x h j)(e:g5 c a.K h g y):∃UI:List af,bZ y UI/\hl c j.heap g UI.toArray/\y.length<=sizeLine:=by
 cases c with
 |true=>
  let⟨@UI,r,o,i⟩:=b.list e;exact⟨UI,r,o.isList,i⟩
 |false=>
  let⟨@UI,r,o,i⟩:=b.tuple e;exact⟨UI,r,o,i⟩
def aG.HY{y UL:List av}(b:aG a G x h j)(e:g5 c a.K h g y)(Uu:g5 c a.K h g UL):y=UL:=by
 cases c with
 |true=>exact b.H9 e Uu
 |false=>exact b.v5 e Uu
section
variable{UG:bC}{C:bg}{O:bB}{Uv:af->ao->Prop}{j:ao}
def xT(a:hi c j.heap Uz I b)(d:hl c j.heap I U4)(e:U4[b]?=Z f)(p:∀Uu,hi c Uu Uz I (b+1)->aZ.SameBut Uz j.heap Uu->A f {j with heap:=Uu}):wpAny (aS UG C) O (bw.SmallTypes.nextOf<|.ref Uz) A Uv j:=by
 cases c with
 |true=>exact wpAny_nextOf_list_item a d e p
 |false=>exact tS a d e p
def BJ(a:O.handled=Y)(e:hi c j.heap Uz I b)(f:hl c j.heap I U4)(g:U4[b]?=Y)(p:∀Uu d,aZ.ExtBut Uz j.heap Uu->(∃m,Uu.get? d=Z m/\m.cls=.type "StopIteration")->Uv (.ref d) {j with heap:=Uu}):wpAny (aS UG C) O (bw.SmallTypes.nextOf<|.ref Uz) A Uv j:=by
 cases c with
 |true=>exact wpAny_nextOf_list_end a e f g p
 |false=>exact yA a e f g p
variable{c g:af}
def Th{aR aX:Bool}{i bX bO b e r s:ae}{l:af}(k:nr i bX bO b e r s)(v:fu j.heap i bX bO .none)(ap:eZ j.heap bX (.ref b) (.ref e))(as:eZ j.heap bO g c)(t:hi aR j.heap b r U3)(z:hi aX j.heap e s U9)(a1:hl aR j.heap r y)(a2:hl aX j.heap s UL)(bd:y[U3]?=Z f)(be:UL[U9]?=Z l)(bi:∀Uu,fu Uu i bX bO (i9 j.heap.objs.size)->eZ Uu bO f l->hi aR Uu b r (U3+1)->hi aX Uu e s (U9+1)->eZ Uu j.heap.objs.size f l->
   (∀n m,n≠i->n≠bO->n≠b->n≠e->j.heap.get? n=Z m->Uu.get? n=Z m)->A (.ref j.heap.objs.size) {j with heap:=Uu}):
  wpAny (aS UG C) O (bw.«zip.__next__» ⟨[.ref i],[]⟩) (λfin Ux=>∃u,fin=.done (.ret u)/\A u Ux) Uv j:=by
 show wpAny _ _ (field (.ref i) 2 >>= _) _ _ _;refine aB (fx v rfl (x:=.bool aq) rfl ?_);show wpAny _ _ (field (.ref i) 3 >>= _) _ _ _;refine aB (fx v rfl (x:=.ref bX) rfl<|aB<|gH ap rfl ?_);show wpAny _ _ (bw.SmallTypes.ownedTupleIsFree (.ref i) >>= _) _ _ _;apply aB;unfold bw.SmallTypes.ownedTupleIsFree;refine aB (fx v rfl (x:=.none) rfl<|a_ ?_);simp only[hK];refine aB (iA (aB (fx v rfl (x:=.ref bO) rfl (aB (jP v ↥0 λbG G h=>?_)))));replace G:fu bG i bX bO .ellipsis:=G;apply aB;simp only[rQ,vu,pJ,ve];refine aB (aB<|nD ?_);show wpAny _ _ (bw.SmallTypes.nextOf (.ref b) >>= _) _ _ _;refine aB (xT (j:={j with heap:=bG}) (jf t λm d=>h.extBut _ m k.i1z d) (pl a1 λm d=>h.extBut _ m k.l1z d) bd λH bm p=>a_ ?_);have P:eZ H bO g c:=p.extBut _ _ k.TOi1 (h.extBut _ _ k.TOz as);refine aB (gH (s:={j with heap:=H}) P rfl<|aB<|o6 (s:={j with heap:=H}) P λQ I q=>?_);replace I:eZ Q bO f c:=I;refine aB (kk<|a_<|aB<|aB<|nD ?_);show wpAny _ _ (bw.SmallTypes.nextOf (.ref e) >>= _) _ _ _;refine aB (xT (j:={j with heap:=Q}) (jf z λm d=>q.extBut _ m k.TOi2.symm<|p.extBut _ m k.i12.symm<|h.extBut _ m k.i2z d) (pl a2 λm d=>q.extBut _ m k.l2TO<|p.extBut _ m k.l2i1<|h.extBut _ m k.l2z d) be λJ bn w=>a_ ?_);have U:eZ J bO f c:=w.extBut _ _ k.TOi2 I;refine aB (gH (s:={j with heap:=J}) U rfl<|aB<|o6 (s:={j with heap:=J}) U λa Vq x=>?_);replace Vq:eZ a bO f l:=Vq;refine aB (kk<|a_<|a_<|aB<|gH (s:={j with heap:=a}) Vq rfl<|aB<|zN ?_);have R:a.objs.size=j.heap.objs.size:=by rw[x.1,w.1,q.1,p.1,h.1]
 have S:fu a i bX bO .ellipsis:=x.extBut _ _ k.TOz.symm (w.extBut _ _ k.i2z.symm<|q.extBut _ _ k.TOz.symm<|p.extBut _ _ k.i1z.symm G);have bs:∀n m,n≠i->n≠bO->n≠b->n≠e->j.heap.get? n=Z m->a.get? n=Z m:=λn m o B L M d=>x.extBut _ _ B (w.extBut _ _ M<|q.extBut _ _ B<|p.extBut _ _ L<|h.extBut _ _ o d);have aR:hi aR a b r (U3+1):=jf bm λm d=>x.extBut _ m k.TOi1.symm (w.extBut _ m k.i12<|q.extBut _ m k.TOi1.symm d);have aX:hi aX a e s (U9+1):=jf bn λm d=>x.extBut _ m k.TOi2.symm d;have T:i<a.objs.size:=cb S;show wpAny _ _ (bw.SmallTypes.ownedTupleHandOut (.ref i) (.ref a.objs.size) >>= _) _ _ _;apply aB;unfold bw.SmallTypes.ownedTupleHandOut;have bv:fu (a.push {cls:=.type "tuple",data:=.seq #[f,l]}) i bX bO .ellipsis:=b5 _ S;refine aB (jP bv ↥0 λca N al=>?_);replace N:fu ca i bX bO (i9 a.objs.size):=N;refine jP N ↥0 λD E am=>?_;replace E:fu D i bX bO (i9 a.objs.size):=E;have F:∀n m,n≠i->a.get? n=Z m->D.get? n=Z m:=λn m o d=>am.extBut _ _ o (al.extBut _ _ o<|b5 _ d);have an:eZ D a.objs.size f l:=am.extBut _ _ (jL T) (al.extBut _ _ (jL T)<|dr _ rfl);rw[R]at E an;refine a_ ⟨_,rfl,?_⟩;show A (.ref a.objs.size) _;rw[R];exact bi D E (F _ _ k.TOz Vq) (jf aR λm d=>F _ m k.i1z d) (jf aX λm d=>F _ m k.i2z d) an λn m o B L M d=>F n m o (bs n m o B L M d)
def MJ{aR aX:Bool}{i bX bO o q x B:ae}{A:PySem.Fin->ao->Prop}(I:O.handled=Y)(k:nr i bX bO o q x B)(r:fu j.heap i bX bO .none)(S:eZ j.heap bX (.ref o) (.ref q))(T:eZ j.heap bO g c)(t:hi aR j.heap o x U3)(z:hi aX j.heap q B U9)(J:hl aR j.heap x y)(U:hl aX j.heap B UL)(al:y[U3]?=Y\/UL[U9]?=Y)(L:∀Uu d,(∀n m,n≠i->n≠bO->n≠o->n≠q->j.heap.get? n=Z m->Uu.get? n=Z m)->(∃m,Uu.get? d=Z m/\m.cls=.type "StopIteration")->Uv (.ref d) {j with heap:=Uu}):
  wpAny (aS UG C) O (bw.«zip.__next__» ⟨[.ref i],[]⟩) A Uv j:=by
 show wpAny _ _ (field (.ref i) 2 >>= _) _ _ _;refine aB (fx r rfl (x:=.bool aq) rfl ?_);show wpAny _ _ (field (.ref i) 3 >>= _) _ _ _;refine aB (fx r rfl (x:=.ref bX) rfl<|aB<|gH S rfl ?_);show wpAny _ _ (bw.SmallTypes.ownedTupleIsFree (.ref i) >>= _) _ _ _;apply aB;unfold bw.SmallTypes.ownedTupleIsFree;refine aB (fx r rfl (x:=.none) rfl<|a_ ?_);simp only[hK];refine aB (iA (aB (fx r rfl (x:=.ref bO) rfl (aB (jP r ↥0 λbG w a=>?_)))));replace w:fu bG i bX bO .ellipsis:=w;apply aB;simp only[rQ,vu,pJ,ve];refine aB (aB<|nD ?_);show wpAny _ _ (bw.SmallTypes.nextOf (.ref o) >>= _) _ _ _;cases D:y[U3]? with
 |none=>
  refine aB (BJ (j:={j with heap:=bG}) I (jf t λm d=>a.extBut _ m k.i1z d) (pl J λm d=>a.extBut _ m k.l1z d) D λs d b E=>?_);let⟨@Vw,h,u⟩:=E;have M:fu s i bX bO .ellipsis:=b _ _ k.i1z.symm w;have F:d≠i:=λp=>by subst p;rw[M]at h;cases h;simp at u
  refine jP M ↥0 λG W l=>L G d (λn m v W H W p=>l.extBut _ _ v<|b _ _ H<|a.extBut _ _ v p) ⟨Vw,l.extBut _ _ F h,u⟩
 |some f=>
  have am:UL[U9]?=Y:=by
   rcases al with e|e
   ·rw[D]at e;cases e
   ·exact e
  refine aB (xT (j:={j with heap:=bG}) (jf t λm d=>a.extBut _ m k.i1z d) (pl J λm d=>a.extBut _ m k.l1z d) D λs a2 b=>a_ ?_);have N:eZ s bO g c:=b.extBut _ _ k.TOi1 (a.extBut _ _ k.TOz T);refine aB (gH (s:={j with heap:=s}) N rfl<|aB<|o6 (s:={j with heap:=s}) N λG bd l=>?_);refine aB (kk<|a_<|aB<|aB<|nD ?_);show wpAny _ _ (bw.SmallTypes.nextOf (.ref q) >>= _) _ _ _;refine aB (BJ (j:={j with heap:=G}) I (jf z λm d=>l.extBut _ m k.TOi2.symm<|b.extBut _ m k.i12.symm<|a.extBut _ m k.i2z d) (pl U λm d=>l.extBut _ m k.l2TO<|b.extBut _ m k.l2i1<|a.extBut _ m k.l2z d) am λan d P E=>?_);let⟨@Vw,h,u⟩:=E;have Q:fu an i bX bO .ellipsis:=P _ _ k.i2z.symm (l.extBut _ _ k.TOz.symm<|b.extBut _ _ k.i1z.symm w);have F:d≠i:=λp=>by subst p;rw[Q]at h;cases h;simp at u
  refine jP Q ↥0 λap W R=>L ap d (λn m v as H a1 p=>R.extBut _ _ v<|P _ _ a1<|l.extBut _ _ as<|b.extBut _ _ H<|a.extBut _ _ v p) ⟨Vw,R.extBut _ _ F h,u⟩
end
def j5(aR aX:Bool)(e:aZ)(a b:ae):aZ:=(((((e.push {cls:=.type (g7 aR),data:=.fields #[.ref a,.int 0 0]}).push {cls:=.type (g7 aX),data:=.fields #[.ref b,.int 0 0]}).push {cls:=.type "tuple",data:=.seq #[.ref e.objs.size,.ref (e.push {cls:=.type (g7 aR),data:=.fields #[.ref a,.int 0 0]}).objs.size]}).push {cls:=.type "tuple",data:=.seq #[.none,.none]}))
def PE(aR aX:Bool)(a b:ae)(y UL:Array af):
    Meets (bw.«zip.__new__» ⟨[.type "zip", .ref a,.ref b],[]⟩) (λ_ UA j => hl aR j.heap a y /\ hl aX j.heap b UL /\
      UA (.ok<|.ret<|.ref (j5 aR aX j.heap a b).objs.size) {j with heap:=(j5 aR aX j.heap a b).push {cls:=.type "zip", data:=.fields #[.none,.bool aq,.bool aq,.ref ((j.heap.push {cls:=.type (g7 aR),data:=.fields #[.ref a,.int 0 0]}).push {cls:=.type (g7 aX),data:=.fields #[.ref b,.int 0 0]}).objs.size,
        .ref (((j.heap.push {cls:=.type (g7 aR),data:=.fields #[.ref a,.int 0 0]}).push {cls:=.type (g7 aX),data:=.fields #[.ref b,.int 0 0]}).push {cls:=.type "tuple", data:=.seq #[.ref j.heap.objs.size,.ref (j.heap.push {cls:=.type (g7 aR),data:=.fields #[.ref a,.int 0 0]}).objs.size]}).objs.size]} }) :=
  .of_wp λUG C O UA j e => by
    let⟨c,J,v,Vn,UN⟩:=j;let@⟨h,k,e⟩:=e;have l:=sub_zip;have i:hl aX (c.push {cls:=.type (g7 aR),data:=.fields #[.ref a,.int 0 0]}) b UL:=pl k λm d => b5 _ d;cases aR <;> cases aX
    · have f:aZ.IsTuple (ao.heap ⟨c,J,v,Vn,UN⟩) a y:=h
      have g:aZ.IsTuple (ao.heap ⟨c.push {cls:=.type "tuple_iterator", data:=.fields #[.ref a,.int 0 0]}, J,v,Vn,UN⟩) b UL:=i
      wp_walk using wpAny_pyIter_tuple f,wpAny_pyIter_tuple g
      exact ⟨_,rfl,e⟩
    · have f:aZ.IsTuple (ao.heap ⟨c,J,v,Vn,UN⟩) a y:=h
      have g:aZ.IsList (ao.heap ⟨c.push {cls:=.type "tuple_iterator", data:=.fields #[.ref a,.int 0 0]}, J,v,Vn,UN⟩) b UL:=i
      wp_walk using wpAny_pyIter_tuple f,wpAny_pyIter_list g
      exact ⟨_,rfl,e⟩
    · have f:aZ.IsList (ao.heap ⟨c,J,v,Vn,UN⟩) a y:=h
      have g:aZ.IsTuple (ao.heap ⟨c.push {cls:=.type "list_iterator", data:=.fields #[.ref a,.int 0 0]}, J,v,Vn,UN⟩) b UL:=i
      wp_walk using wpAny_pyIter_list f,wpAny_pyIter_tuple g
      exact ⟨_,rfl,e⟩
    · have f:aZ.IsList (ao.heap ⟨c,J,v,Vn,UN⟩) a y:=h
      have g:aZ.IsList (ao.heap ⟨c.push {cls:=.type "list_iterator", data:=.fields #[.ref a,.int 0 0]}, J,v,Vn,UN⟩) b UL:=i
      wp_walk using wpAny_pyIter_list f,wpAny_pyIter_list g
      exact ⟨_,rfl,e⟩
def qI(aR aX:Bool)(Q:Φ)(g c:ae):fj:=(
 ⟨λb h=>∃y UL f l,g5 aR Q h g y/\g5 aX Q h c UL/\y[b]?=Z f/\UL[b]?=Z l,
  λb h u P=>∃F f l,h F=Y/\u=.ref F/\P=upd h F (.tup [f,l])/\(∀y,g5 aR Q h g y->y[b]?=Z f)/\(∀UL,g5 aX Q h c UL->UL[b]?=Z l),
  λb h=>∃y UL,g5 aR Q h g y/\g5 aX Q h c UL/\(y.length<=b\/UL.length<=b)⟩)
def Ie(aR aX:Bool)(g c i bX bO a d:ae)(b:Nat)(e:aZ):Prop:=(fu e i bX bO .none/\eZ e bX (.ref a) (.ref d)/\(∃o p,eZ e bO o p)/\hi aR e a g b/\hi aX e d c b)
theorem Rp{aR aX:Bool}{UB:bC}{C:bg}(g c i bX bO I J:ae)(k:nr i bX bO I J g c):
  pa UB C Q (.Tuple T VX UM) (qI aR aX Q g c) [i,bX,bO,I,J] i (Ie aR aX g c i bX bO I J) where
 mem:=by simp
 obj:=λb e X n s=>by
  let@⟨t,z,⟨o,@p,B⟩,D,E⟩:=X;simp only[bI,jT,e_]at s;rcases s with rfl|rfl|rfl|rfl|rfl
  ·exact⟨_,t,λu d=>by cases d⟩
  ·exact⟨_,z,λu d=>by cases d⟩
  ·exact⟨_,B,λu d=>by cases d⟩
  ·exact vo D
  ·exact vo E
 keep:=λb e Uu X q=>by
  let@⟨t,z,⟨o,@p,B⟩,D,E⟩:=X;exact⟨q i ↥0 _ t,q bX ↥0 _ z,⟨o,p,q bO ↥0 _ B⟩,jf D λm d=>q I ↥0 m d,jf E λm d=>q J ↥0 m d⟩
 item:=by
  intro a U al am s b G j x h Uv v N X an;subst U al am;let⟨y,UL,f,@l,R,S,a2,bd⟩:=an;let⟨@UI,ap,o,L⟩:=v.oZ R;let⟨@as,a1,Vj,bm⟩:=v.oZ S;let⟨@H,bn,bs⟩:=ap.get a2;let⟨@be,bv,ca⟩:=a1.get bd;have cd:=X;let@⟨t,z,⟨bQ,@hF,B⟩,D,E⟩:=X;have M:j.TypeIs (.ref i) "zip" := ⟨_,t,rfl⟩;unfold hO;refine aB (oB (kr (name:=aF.ofString "__next__") M mL (iS mL M v8
   (Th (A:=λu Ux=>wpAny (aS a.prog a.w) a.A (pure<|Z u) (λr ce=>∃H,r=Z H/\wpAny (aS a.prog a.w) a.A (ql (.Tuple T VX UM) (.ref i) H) (λ_ bi=>∃f P,aG a G x P bi/\cm f H/\(qI aR aX a.K g c).qz b h f P/\Ie aR aX g c i bX bO I J (b+1) bi.heap/\∀c∈[i,bX,bO,I,J],P c=Y) Uv ce) Uv Ux)
    k t z B D E (show hl aR j.heap g UI.toArray from o) (show hl aX j.heap c as.toArray from Vj) (f:=H) (l:=be) ⇑bn ⇑bv λUu ch ci cl co cr fc=>a_ ⟨_,rfl,?_⟩) (ug _))));refine FA ch λcs db b8=>?_;have lt:∀n∈[i,bX,bO,I,J],n<j.heap.objs.size:=λn s=>by
   let@⟨t,z,⟨o,@p,B⟩,D,E⟩:=cd;simp only[bI,jT,e_]at s;rcases s with rfl|rfl|rfl|rfl|rfl
   ·exact cb t
   ·exact cb z
   ·exact cb B
   ·let⟨@m,d,W⟩:=vo D;exact cb d
   ·let⟨@m,d,W⟩:=vo E;exact cb d
  have c8:∀n m,n∉[i,bX,bO,I,J]->j.heap.get? n=Z m->cs.get? n=Z m:=λn m s d=>by
   simp only[bI,jT,e_,not_or]at s;exact b8.extBut _ _ s.1 (fc n m s.1 s.2.2.1 s.2.2.2.1 s.2.2.2.2 d)
  have ds:j.heap.objs.size≠i:=jL (lt i ↥0);have dL:h j.heap.objs.size=Y:=v.aT.fresh (bT _);refine⟨.ref j.heap.objs.size,upd h j.heap.objs.size<|.tup [f,l],v.H8 (Va:=j.toks) N c8 (bT _) ⟨by show 2<=sizeLine;decide,[H,be],.cons bs<|.cons ca .nil,?_⟩,rfl,⟨_,f,l,dL,rfl,rfl,λVJ L=>?_,λVJ L=>?_⟩,?_,λn s=>?_⟩
  ·exact⟨_,b8.extBut _ _ ds cr,rfl,0,rfl⟩
  ·rw[v.HY L R];exact a2
  ·rw[v.HY L S];exact bd
  ·exact⟨db,b8.extBut _ _ k.TIz<|fc _ _ k.TIz k.TITO k.TIi1 k.TIi2 z,⟨_,_,b8.extBut _ _ k.TOz ci⟩,jf cl λm d=>b8.extBut _ m k.i1z d,jf co λm d=>b8.extBut _ m k.i2z d⟩
  ·rw[cW (d8<|lt n s)];exact (N n s).1
 done:=by
  intro a U al am s b G j x h Uv v N X an;subst U al am;let⟨y,@UL,R,S,eq⟩:=an;let⟨@UI,ap,o,L⟩:=v.oZ R;let⟨@as,a1,Vj,bm⟩:=v.oZ S;let@⟨t,z,⟨bQ,@hF,B⟩,D,E⟩:=X;have M:j.TypeIs (.ref i) "zip" := ⟨_,t,rfl⟩;have fd:=ap.length;have fn:=a1.length;unfold hO;refine aB (oB (kr (name:=aF.ofString "__next__") M mL (iS mL M v8
   (MJ (v.ok.hd s) k t z B D E (show hl aR j.heap g UI.toArray from o) (show hl aX j.heap c as.toArray from Vj) (by
    rcases eq with e|e
    ·exact .inl (by simp;lia)
    ·exact .inr (by simp;lia)) λUu d fc ⟨m,ev,ex⟩=>?_) (ug _))))
  refine aB (uX (T := "StopIteration") (b:=aa) ⟨m,ev,ex⟩ zA<|a_ ⟨rfl,v.Fy (Va:=j.toks) N λn m s d=>?_⟩);simp only[bI,jT,e_,not_or]at s;exact fc n m s.1 s.2.2.1 s.2.2.2.1 s.2.2.2.2 d
 self:=λ_ W W W W X e=>wo X.1 e
section
variable{a:aK}
def Kc(Q:Φ)(Vo:fh):bX:=(λx h UA=>Vo x h λS UD=>∃aR aX g c,S=[.ref g,.ref c]/\(∃y,g5 aR Q UD g y)/\(∃UL,g5 aX Q UD c UL)/\UA (qI aR aX Q g c) UD)
def Kw{g c:bj}{Vo:fh}{UJ:Pos}(H:ey a "zip")(I:a.ay "zip" = Y)(J:gD a [g,c] Vo)(UH:bK [g,c] a.env=[(aq,b6 g a.env),(aq,b6 c a.env)]:=by rfl)(v:bK [c] a.env=[(aq,b6 c a.env)]:=by rfl):
  kB a (.Tuple T VX UJ) (.Call (.Name "zip" o) [g,c] [] UM) (Kc a.K Vo):=by
 intro G j x h UA w e;refine Call_ (pS w H I boot_zip (uE (bW (J UM G j x h _ w e) λUR b ⟨S,UD,l,L,M⟩=>?_) (by rw[UH,v]) (by rw[v];rfl)));let⟨aR,aX,f,@i,d,⟨@y,N⟩,⟨@UL,O⟩,p⟩:=M;subst d;cases L with
 |cons r t=>
  cases t with
  |cons Vs t=>
   cases t;cases r;cases Vs;let⟨@UI,an,o,ap⟩:=l.oZ N;let⟨@P,as,Vj,a1⟩:=l.oZ O;have R:f<b.heap.objs.size:=by let⟨@m,d⟩:=Fl o;exact cb d
   have al:i<b.heap.objs.size:=by let⟨@m,d⟩:=Fl Vj;exact cb d
   refine Dq Bu ∅ (CL _ _) (F5 _ _) (λam=>Bo am _ _) GP (PE aR aX f i UI.toArray P.toArray) ⟨o,Vj,?_⟩;have u:(b.heap.push {cls:=.type (g7 aR),data:=.fields #[.ref f,.int 0 0]}).objs.size=b.heap.objs.size+1:=iE ..;have q:((b.heap.push {cls:=.type (g7 aR),data:=.fields #[.ref f,.int 0 0]}).push {cls:=.type (g7 aX),data:=.fields #[.ref i,.int 0 0]}).objs.size=b.heap.objs.size+2:=by rw[iE,u]
   have s:(((b.heap.push {cls:=.type (g7 aR),data:=.fields #[.ref f,.int 0 0]}).push {cls:=.type (g7 aX),data:=.fields #[.ref i,.int 0 0]}).push
    {cls:=.type "tuple",data:=.seq #[.ref b.heap.objs.size,.ref (b.heap.push {cls:=.type (g7 aR),data:=.fields #[.ref f,.int 0 0]}).objs.size]}).objs.size=b.heap.objs.size+3:=by rw[iE,q]
   have z:(j5 aR aX b.heap f i).objs.size=b.heap.objs.size+4:=by unfold j5;rw[iE,s]
   show _/\_;refine⟨⟨_,dr _ rfl,rfl⟩,wo (TI:=b.heap.objs.size+2) (TO:=b.heap.objs.size+3) (f0:=.none) ?_ ?_⟩
   ·rw[q,s];exact dr _ rfl
   ·rw[q,s,z];have A:((j5 aR aX b.heap f i).push {cls:=.type "zip",data:=.fields #[.none,.bool aq,.bool aq,.ref<|b.heap.objs.size+2,.ref<|b.heap.objs.size+3]}).get? (b.heap.objs.size+4)=Z {cls:=.type "zip",data:=.fields #[.none,.bool aq,.bool aq,.ref<|b.heap.objs.size+2,.ref<|b.heap.objs.size+3]}:=by rw[<-z];exact dr _ rfl
    have B:((j5 aR aX b.heap f i).push {cls:=.type "zip",data:=.fields #[.none,.bool aq,.bool aq,.ref<|b.heap.objs.size+2,.ref<|b.heap.objs.size+3]}).get? (b.heap.objs.size+3)=Z {cls:=.type "tuple",data:=.seq #[.none,.none]}:=by
     rw[<-s];exact b5 _ (dr _ rfl)
    have C:((j5 aR aX b.heap f i).push {cls:=.type "zip",data:=.fields #[.none,.bool aq,.bool aq,.ref<|b.heap.objs.size+2,.ref<|b.heap.objs.size+3]}).get? (b.heap.objs.size+2)=Z {cls:=.type "tuple",data:=.seq #[.ref b.heap.objs.size,.ref<|b.heap.objs.size+1]}:=by
     rw[<-q,<-u];exact b5 _ (b5 _<|dr _ rfl)
    have D:((j5 aR aX b.heap f i).push {cls:=.type "zip",data:=.fields #[.none,.bool aq,.bool aq,.ref<|b.heap.objs.size+2,.ref<|b.heap.objs.size+3]}).get? (b.heap.objs.size+1)=Z {cls:=.type (g7 aX),data:=.fields #[.ref i,.int 0 0]}:=by
     rw[<-u];exact b5 _ (b5 _<|b5 _<|dr _ rfl)
    have E:((j5 aR aX b.heap f i).push {cls:=.type "zip",data:=.fields #[.none,.bool aq,.bool aq,.ref<|b.heap.objs.size+2,.ref<|b.heap.objs.size+3]}).get? b.heap.objs.size=Z {cls:=.type (g7 aR),data:=.fields #[.ref f,.int 0 0]}:=
     b5 _ (b5 _<|b5 _<|b5 _<|dr _ rfl);have c8:∀n m,b.heap.get? n=Z m->((j5 aR aX b.heap f i).push {cls:=.type "zip",data:=.fields #[.none,.bool aq,.bool aq,.ref<|b.heap.objs.size+2,.ref<|b.heap.objs.size+3]}).get? n=Z m:=λn m d=>
     b5 _ (b5 _<|b5 _<|b5 _<|b5 _ d);generalize ((j5 aR aX b.heap f i).push {cls:=.type "zip",data:=.fields #[.none,.bool aq,.bool aq,.ref<|b.heap.objs.size+2,.ref<|b.heap.objs.size+3]})=bd at E D C B A c8 ⊢;have k:nr (b.heap.objs.size+4) (b.heap.objs.size+2) (b.heap.objs.size+3) b.heap.objs.size (b.heap.objs.size+1) f i:=Bb _ _ _ R al;refine⟨_,_,_,_,UD,rfl,l.kept (Va:=b.toks) c8,Rp f i _ _ _ _ _ k,⟨A,C,⟨_,_,B⟩,A4 E,A4 D⟩,λn F=>?_,p⟩;have:b.heap.objs.size<=n:=by
     simp only[bI,jT,e_]at F;rcases F with rfl|rfl|rfl|rfl|rfl
     ·exact lL _ _
     ·exact lL _ _
     ·exact lL _ _
     ·exact bT _
     ·exact lL _ _
    exact l.ry this (l.aT.fresh this)
def r_:ab->Option eQ
 |.int b=>Z (.inl b)
 |.str f=>Z (.inr f)
 |_=>Y
@[simp] theorem Ut(b:Int):r_ (.int b)=Z (.inl b):=rfl
@[simp] theorem Um(f:aF):r_ (.str f)=Z (.inr f):=rfl
def FW:eQ->ab
 |.inl b=>.int b
 |.inr f=>.str f
@[simp] theorem Us(b:Int):FW (.inl b)=.int b:=rfl
@[simp] theorem Ue(f:aF):FW (.inr f)=.str f:=rfl
def RI{v:ab}{q:eQ}(e:cO h v u)(d:r_ v=Z q):u=cM q:=by
 cases v with
 |int b=>cases d;exact e
 |str f=>cases d;exact e
 |_=>cases d
def g_{UX:Type}[DecidableEq UX](UK:List (UX×ab))(q:UX)(v:ab):List (UX×ab):=(
 if (UK.any λa=>decide (a.1=q))=aa then UK.map (λa=>if a.1=q then (a.1,v) else a) else UK++[(q,v)])
def e1.any[DecidableEq UX]{h:az}{q:UX}{M:List (UX×ab)}{E:List (UX×av)}(e:e1 h M E):(M.any λa=>decide (a.1=q))=(E.any λa=>decide (a.1=q)):=by
 unfold e1 at e;induction e with
 |nil=>rfl
 |cons r _ b=>rw[nL,nL,b,r.1]
def e1.upd[DecidableEq UX]{h:az}{q:UX}{v:ab}{u:av}(C:cO h v u){M:List (UX×ab)}{E:List (UX×av)}(e:e1 h M E):e1 h (M.map λa=>if a.1=q then (a.1,v) else a) (E.map λa=>if a.1=q then (a.1,u) else a):=by
 unfold e1 at e;induction e with
 |nil=>exact .nil
 |@cons o p _ _ r _ c=>
  rw[cK,cK];refine .cons ?_ c;by_cases d:o.1=q
  ·have b:p.1=q:=r.1.symm.trans d;rw[aJ d,aJ b];exact⟨r.1,C⟩
  ·have b:¬ p.1=q:=λi=>d (r.1.trans i);rw[aO d,aO b];exact r
def Qc{U1 VH:Type}{N:U1->VH->Prop}{M:List U1}{E:List VH}{g:U1}{c:VH}(e:er N M E)(f:N g c):er N (M++[g]) (E++[c]):=by
 induction e with
 |nil=>exact .cons f .nil
 |cons r _ a=>exact .cons r a
def e1.put[DecidableEq UX]{h:az}{q:UX}{v:ab}{u:av}(C:cO h v u){M:List (UX×ab)}{E:List (UX×av)}(e:e1 h M E):e1 h (g_ M q v) (hJ E q u):=by
 unfold g_ hJ;rw[e.any];split
 ·exact e.upd C
 ·exact Qc e ⟨rfl,C⟩
@[simp] def wN:aE ak:=λk=>Z (.aQ [],k)
def Dy:cv a (.Dict [] [] UM) wN:=by
 refine en J_ λx h A ⟨k,N,r,UO,X,ai,c,p⟩ o b=>?_;cases c;have j:c1 h (L2.upd h o<|.aQ []):=(c1.refl h).upd b;have e:bk h N h (N++[]):=by rw[b_];exact bk.perm ai (List.Perm.refl _)
 exact p _ _ N [o] (X.mono j.tupS λg W m d=>j g m d) ⟨o,[],rfl,eS,.nil,rfl⟩ (e.new j (fJ _ _) (λg f=>by rw[cD.mp f];exact b) X.chg)
@[simp] def T5(a b:aE ak):aE ak:=λk=>(a k).bind λo=>(b o.2).bind λp=>match o.1,p.1 with
 |.im q,.im v=>(r_ q).map λc=>(.dJ [(c,v)],p.2)
 |_,_=>Y
@[simp] def hI(n q v:ak):Option ak:=match n,q,v with
 |.lst y,.im<|.int b,.im v=>(mz y.length b).map λw=>.lst (y.set w v)
 |.dJ UK,.im q,.im v=>(r_ q).bind λa=>if UK.length<100000 then Z (.dJ<|g_ UK a v) else Y
 |.aQ UK,.im<|.tup q,.im v=>if ab.keys 7 q=aa/\UK.length<100000 then Z (.aQ<|g_ UK q v) else Y
 |_,_,_=>Y
def vw(C:a.A.units+20<b9):sZ a hI:=by
 intro G j x h m b u D E H A i k l o F;let⟨n,q,v,J,UA,@UW,cZ,cI,r,ai,d,p⟩:=F;unfold hI at d;split at d
 ·exact GN G j x h m b u D E H A i k l o ⟨_,_,_,J,UA,UW,cZ,cI,r,ai,d,p⟩
 ·let⟨@N,L,s⟩:=bE.mp d;split at s
  ·rename_i e;cases s;let⟨g,@UL,rfl,t,z,rfl⟩:=cZ;let@⟨hd,rfl⟩:=r;have n:fS h g:=⟨_,t,(λ_ d=>by cases d),(λ_ W d=>by cases d)⟩;cases k;have M:=RI cI.1 L;subst M;refine H4 C i (nT.k t (by rw[<-z.length];exact yL e)) l o λUx w=>⟨_,w,p _ [g] ?_ (bk.chg (.head _) n (fJ _ _) λf B=>by simpa using B)⟩;exact⟨g,_,rfl,eS,(e1.put hd z).mono<|cO.lP n,rfl⟩
  ·cases s
 ·split at d
  ·rename_i e;cases d;let⟨g,@UL,rfl,t,z,rfl⟩:=cZ;let@⟨hd,rfl⟩:=r;have n:fS h g:=⟨_,t,(λ_ d=>by cases d),(λ_ W d=>by cases d)⟩;cases k;let⟨c,@y,rfl,U3,U9⟩:=cI.1;refine H4 C i (nT.t t ⟨e.1,c,y,rfl,U3,U9⟩ (by rw[<-z.length];exact yL e.2)) l o λUx w=>⟨_,w,p _ [g] ?_ (bk.chg (.head _) n (fJ _ _) λf B=>by simpa using B)⟩;exact⟨g,_,rfl,eS,(e1.put hd z).mono<|cO.lP n,rfl⟩
  ·cases d
 ·cases d
def su:bN->ak->Option (Nat×ak)
 |.aY b,v=>Z (b,v)
 |.cB _,_=>Y
@[simp] theorem Uc(b:Nat)(v:ak):su (.aY b) v=Z (b,v):=rfl
@[simp] theorem Uk(n v:ak):su (.cB n) v=Y:=rfl
@[simp] def kE(J:aE (List bN)):jm:=λk=>(J k).bind λo=>(ec o.1 o.2).bind λp=>match o.1,p.1 with
 |[U0,a],[U_,Vi]=>(gq U_).bind λf=>(gq Vi).bind λl=>
   if Vi.dA=aa then Z ((e3 f l,if U_.dA=aa then Y else su U0 U_),p.2)
   else if U_.dA=aa then Z ((e3 f l,su a Vi),p.2) else Y
 |_,_=>Y
def GH(C:cE h v u UA)(d:gq v=Z B):
  ∃c g y,u=.ref g/\bP h B y/\∀P,eL h P->(∀g∈UA,∀m,h g=Z m->P g=Z m)->g5 c Q P g y:=by
 unfold gq at d;split at d
 ·cases d;let@⟨⟨g,@y,rfl,t,z⟩,rfl⟩:=C;exact⟨aq,g,y,rfl,z,λP I q=>cp.of<|I.tup g _ t⟩
 ·cases d;let⟨g,@y,rfl,t,z,rfl⟩:=C;exact⟨aa,g,y,rfl,z,λP I q=>dm.of<|q g (.head _) _ t⟩
 ·cases d;let⟨g,y,@m,rfl,t,z,rfl⟩:=C;exact⟨aa,g,y,rfl,z,λP I q=>.inl<|.inr ⟨m,I.dx _ _ _ t⟩⟩
 ·cases d
variable{y:List av}
def FL{f l:av}(e:∀VJ,g5 c Q h g VJ->VJ[b]?=Z f)(t:g5 c Q h g y)(z:y[b]?=Z l):f=l:=by
 have:=e y t;rw[z]at this;exact (Option.some.inj this).symm
theorem KY{aR aX:Bool}{c:ae}{UL:List av}{T:List ab}(hd:bP h B y)(a:bP h T UL)(e:∀P,eL h P->(∀g∈UA,∀m,h g=Z m->P g=Z m)->g5 aR Q P g y)(Uu:∀P,eL h P->(∀g∈UA,∀m,h g=Z m->P g=Z m)->g5 aX Q P c UL):kz (qI aR aX Q g c) h UA (e3 B T) where
 go:=λP I q b v d=>by
  let⟨f,@l,p,r,rfl⟩:=y2 B T b v d;let⟨@u,k,s⟩:=hd.get p;let⟨@H,U3,U9⟩:=a.get r;have n:=e P I q;have o:=Uu P I q;refine⟨⟨y,UL,u,H,n,o,k,U3⟩,λi A ⟨F,C,D,L,t,w,x,z⟩=>?_⟩;subst t w;cases FL x n k;cases FL z o U3;have j:c1 P (L2.upd P F<|.tup [u,H]):=(c1.refl P).upd L;exact⟨j,F,[u,H],rfl,eS,⟨u,[H],rfl,(s.mono I.tup).mono j.tupS.tup,H,[],rfl,(U9.mono I.tup).mono j.tupS.tup,rfl⟩⟩
 stop:=λP I q=>⟨y,UL,e P I q,Uu P I q,by rw[yp,<-hd.length,<-a.length];lia⟩
def zh{g c:bj}{UJ:Pos}(M:ey a "zip")(O:a.ay "zip" = Y)(e:fm a [g,c] J)(UH:bK [g,c] a.env=[(aq,b6 g a.env),(aq,b6 c a.env)]:=by rfl)(R:bK [c] a.env=[(aq,b6 c a.env)]:=by rfl):
  mi a (.Tuple T VX UJ) (.Call (.Name "zip" o) [g,c] [] UM) (kE J):=by
 refine we (Kw M O e UH R) λx h cr al=>?_;let⟨k,N,r,@UO,X,ai,am,p⟩:=al;let⟨@⟨UN,UE⟩,t,z⟩:=bE.mp am;let⟨@⟨B,Vd⟩,an,s⟩:=bE.mp z;refine⟨k,N,UN,UE,X,ai,t,λS UD UQ cs ap U0 as=>?_⟩;let⟨U6,@UW,F,a1,U5⟩:=lN ap U0 an;have j:=as.jw U5.symm;dsimp only at s;split at s
 ·rename_i a2 Vt db ds;let⟨@f,bd,be⟩:=bE.mp s;let⟨@l,bi,m⟩:=bE.mp be;let⟨u,W,v,@W,rfl,gB,⟨H,W,w,@W,rfl,gW,@⟨rfl,rfl⟩,rfl⟩,rfl⟩:=a1;rw[b_]at j;let⟨dL,W,eq,@W,jY,bm,⟨ev,W,ex,@W,bn,bs,@⟨rfl,rfl⟩,rfl⟩,rfl⟩:=U0;cases jY;cases bn;let⟨A,C,@y,rfl,bv,G⟩:=GH (Q:=a.K) gB bd;let⟨D,E,@UL,rfl,ca,L⟩:=GH (Q:=a.K) gW bi;have cd:g5 A a.K UD C y:=G UD (x_ UD) λ_ W W d=>d;have ce:g5 D a.K UD E UL:=L UD (x_ UD) λ_ W W d=>d;have Uz:kz (qI A D a.K C E) UD (v++w) (e3 f l):=KY bv ca (λP I q=>G P I λg e=>q g<|eG _ e) (λP I q=>L P I λg e=>q g<|ei _ e);have VI:∀g∈v++w,fS UD g:=λg e=>(dv.mp e).elim (λi=>gB.chg g i) λi=>gW.chg g i;refine⟨A,D,C,E,rfl,⟨y,cd⟩,⟨UL,ce⟩,?_⟩;split at m
  ·rename_i ch;cases m;have ci:=gW.dA ch;subst ci;rw[b_]at j Uz VI;refine p _ UD U6 v F Uz ?_ VI j;dsimp only;split
   ·trivial
   ·cases a2 with
    |aY b=>exact⟨_,bm.1,gB⟩
    |cB n=>trivial
  ·split at m
   ·rename_i cl;cases m;have co:=gB.dA cl;subst co;rw[lF]at j Uz VI;refine p _ UD U6 w F Uz ?_ VI j;cases Vt with
    |aY b=>exact⟨_,bs.1,gW⟩
    |cB n=>trivial
   ·cases m
 ·cases s
end
section
variable{a:aK}
def Pm{UP:List Int}{UR:List af}(r:bZ (UP.map av.int) UR)(b:Nat)(u:af)(e:UR[b]?=Z u):∃I,u=.int ((UP[b]?).getD 0) I:=by
 have a:=r.length;rw[bS]at a;have Uw:b<UP.length:=by rw[a];exact (gp.mp e).1
 let⟨@H,c,⟨@I,d⟩⟩:=r.get (b:=b) (f:=av.int UP[b]) (by simp[Uw]);rw[e]at c;cases c;exact⟨I,by rw[d];simp[Uw]⟩
def OC{n:Nat}{VT:bX}{J:ka->gP}{S:ka->eF}{VC:ka->cf}(s:a.N.Nodup)(t:a.N[n]?=Z VK)(v:jb a.env.scope VK)(w:a.calm=aa)(UW:iC a US own Ve)(Uw:kB a Vc Vy VT)(y:∀b,km (a.fX (fV a own Ve) US b) Vc<|J b)(z:∀b,rX (a.fX (fV a own Ve) US b) VO<|S b)(B:∀b,bU (a.fX (fV a own Ve) US b) VS<|VC b)(UH:∀f,lS Vy a.env f=pure f:=by intro W;rfl)(C:me (.ListComp VS [⟨Vc,Vy,VO,0⟩] US UM) (Z<|.Name VK VQ) V8.line a.env=pure aa:=by rfl)(D:a.fn VK=aa\/a.env.scope.names.lookup VK=Z .local:=by first|exact .inl rfl|exact .inr rfl|assumption):
  hx a (.Assign [.Name VK VQ] (.ListComp VS [⟨Vc,Vy,VO,0⟩] US UM) V8) (xy (vW own Ve VT J S VC)<|x2 n):=by
 intro G j x h F H e;rw[exec_Assign_Name_used _ _ _ _ C];refine aB (u2<|aB ?_);show wpAny _ a.A (do let _ <-wI (.ListComp VS [⟨Vc,Vy,VO,0⟩] US UM) US a.env _ (tV []) aq (b6 Vy a.env) (Z<|ja (.Name VK VQ) a.env)) _ _ j;refine aB (gS (BM (use:=Z (ja (.Name VK VQ) a.env)) (f8:=λ_ Ux=>jO a G F .next Ux) w UW Uw y z B UH H e λk aH a1 I E M P L q r i o p=>?_) (λ_ Ux Q=>a_<|a_ Q) λ_ W d=>d);show wpAny _ a.A (ja (.Name VK VQ) a.env<|.ref k) _ _ I;refine A7 (Gg M s t v (u:=.ref k) rfl (λR T al=>?_) D);let⟨@g,am,l⟩:=al;have an:aH≠g:=by
  rcases l with rfl|l
  ·exact f6 q
  ·exact f6 (r _ _ l)
 exact⟨E,P.sameBut am an,λUu b8=>⟨_,_,T.turned (Uz:=aH) (Va:=R.toks) (λc m ap d=>(b8.2 c ap).trans d) L (f6 q) (.inr i) r o,p⟩⟩
def SP{UU:List Nat}{VU:jm}{l:fi}{VD:aE Bool}{VV:aE ak}(d:a.N.Nodup)(e:a.N[b]?=Z VK)(g:jb a.env.scope VK)(i:a.calm=aa)(UW:iC a US own Ve)(ai:Ve.Nodup)(Uw:mi a Vc Vy VU)(j:∀c,hD (a.fX (fV a own Ve) US c) (qx own.length Ve.length) Vc l)(m:∀c,th (a.fX (fV a own Ve) US c) VO VD)(n:∀c,cv (a.fX (fV a own Ve) US c) VS VV)(o:b∉UU)(UH:∀f,lS Vy a.env f=pure f:=by intro W;rfl)(q:me (.ListComp VS [⟨Vc,Vy,VO,0⟩] US UM) (Z<|.Name VK VQ) V8.line a.env=pure aa:=by rfl)(s:a.fn VK=aa\/a.env.scope.names.lookup VK=Z .local:=by first|exact .inl rfl|exact .inr rfl|assumption):
  gG a UU (.Assign [.Name VK VQ] (.ListComp VS [⟨Vc,Vy,VO,0⟩] US UM) V8) (cj b<|de own.length Ve VU l VD VV):=by
 refine ke (OC d e g i UW Uw j m n UH q s) λUv x h v=>?_;let⟨k,N,aU,@UO,X,w,y,p⟩:=v;let⟨@⟨r,UE⟩,t,z⟩:=bE.mp y;split at z
 ·rename_i A;cases z;refine GC ai ⟨k,N,r,_,X,w,t,λu UD UQ UA B C D=>?_⟩;let⟨U6,@b3,E,U5⟩:=B.put (b:=b) C A;exact p _ UD U6 (c3.set o) E (D.less U5)
 ·cases z
def vY:ak->ak
 |.lst f=>.im (.aU f)
 |.aQ []=>.im .fd
 |v=>v
@[simp] theorem Uh(f:List ab):vY (.lst f)=.im (.aU f):=rfl
@[simp] theorem T1(v:ab):vY (.im v)=.im v:=rfl
@[simp] def l_(J:aE ak):aE ak:=λk=>(J k).map λo=>(vY o.1,o.2)
def OV(U3:h g=Z H)(a:∀y,H≠.tup y)(b:∀o u,H≠.dx o u):eL h (upd h g<|.dx Vt H):=eL.of (λc y d=>by
  have:c≠g:=λi=>by subst i;rw[U3]at d;cases d;exact a _ rfl
  rw[cW this];exact d) λc m H d=>by
  have:c≠g:=λi=>by subst i;rw[U3]at d;cases d;exact b _ _ rfl
  rw[cW this];exact d
def Es{UD:az}{j:ao}{A:cJ}{N UQ:List ae}{UE:a0}(l:bA UD UE x UQ)(b:bk h N UD (UQ++UA))(U3:UD g=Z H)(n:∀y,H≠.tup y)(q:∀o C,H≠.dx o C)(r:UA=[g])(s:aG a G x (upd UD g<|.dx Vt H) j)(hd:eL UD (upd UD g<|.dx Vt H)->cE (upd UD g<|.dx Vt H) v (.ref g) [])(p:∀u P U8 D,bA P UE x U8->cE P v u D->bk h N P (U8++D)->A u P):eN a G x A (.ref g) j:=by
 subst r;have k:=dz.mp b.ai;have t:g∉UQ:=λi=>k.2.2 g i g (.head _) rfl;have fs:=OV (Vt:=Vt) U3 n q;refine⟨.ref g,_,s,rfl,p _ _ UQ [] (l.mono fs λc f m d=>by
   have ne:c≠g:=λi=>by subst i;exact t f
   rw[cW ne];exact d) (hd fs) ?_⟩
 rw[b_];refine⟨λc m d f=>?_,λc f=>b.sub c<|eG _ f,k.1,b.tup.trans fs,λc m d=>?_⟩
 ·have:c≠g:=λi=>by
   subst i;rcases b.sub c (ei _<|.head _) with e|e
   ·exact f e
   ·rw[d]at e;cases e
  rw[cW this];exact b.keep c m d f
 ·by_cases i:c=g
  ·exact⟨_,by rw[i];exact eS⟩
  ·let⟨@Vb,w⟩:=b.grow c m d;exact⟨Vb,by rw[cW i];exact w⟩
def yw{J:aE ak}(e:cv a d J):cv a d (l_ J):=by
 intro G j x h A O F;let⟨k,N,r,@UO,X,ai,P,p⟩:=F;let⟨@⟨I,UE⟩,t,z⟩:=cx.mp P;cases z;refine bW (@e G j x h (λu UD=>∃UQ UA,bA UD UE x UQ/\cE UD I u UA/\bk h N UD (UQ++UA)) O ⟨k,N,I,UE,X,ai,t,λu UD UQ UA g c n=>⟨UQ,UA,g,c,n⟩⟩) λH o F=>?_;let⟨u,@UD,l,w,⟨UQ,@UA,B,C,E⟩⟩:=F;cases I with
 |lst f=>
  let⟨g,@y,rfl,U3,U9,L⟩:=C;cases w;let@⟨i,⟨UI,@s,M,b⟩⟩:=l.aT g _ U3;exact Es (v:=.im (.aU f)) B E U3 (λ_ d=>by cases d) (λ_ W d=>by cases d) L (l.write (Uu:=o.heap) (Va:=o.toks) (d:=g) (by rw[U3];trivial) (.inl rfl) (λc H W d=>d) ⟨_,b⟩ ⟨b,i,UI,s,M,b⟩) (λfs=>⟨⟨g,y,_,rfl,eS,U9.mono fs.tup⟩,rfl⟩) p
 |aQ UK=>
  cases UK with
  |nil=>
   let⟨g,@U,rfl,U3,U9,L⟩:=C;cases U9;cases w;let@⟨i,D,⟨@y,M,⟨m,T,@Vu,b,Q,R,S,al⟩⟩⟩:=l.aT g _ U3;cases M;exact Es (v:=.im .fd) B E U3 (λ_ d=>by cases d) (λ_ W d=>by cases d) L (l.write (Uu:=o.heap) (Va:=o.toks) (d:=g) (by rw[U3];trivial) (.inl rfl) (λc H W d=>d) ⟨_,b⟩ ⟨b,i,D,[],.nil,m,T,Vu,b,Q,R,S,al⟩) (λ_=>⟨⟨g,_,rfl,eS⟩,rfl⟩) p
  |cons q r=>exact⟨u,UD,l,w,p u UD UQ UA B C E⟩
 |_=>exact⟨u,UD,l,w,p u UD UQ UA B C E⟩
variable{f:aF}
def Ml{VL:jo}{sp:kj}{Uv:fF}{k:cf}{I:fh}{B:List af}{i:List av}(N:gL a.prog a.w a.K a.ay a.base VL q L fd UJ sp)(g:ea q a.A)(m:bU a (.Name f o) k)(n:Θ a.K (.ref L)=aa)(s:ix a.K fd UJ B)(hd:bZ i B)(t:ui VL a Uv)(v:gD a (d::T) I)(y:bK (d::T) a.env=(aq,b6 d a.env)::bK T a.env:=by rfl)(z:(fG UM<|bK T a.env).any (·.1)=aq:=by rfl):
  bU a (.Call (.Name f o) (d::T) [] UM) (λx h A=>k x h λu UD=>u=.ref L/\yo sp i Uv I x UD A):=by
 intro G j x h A D e;refine rj (bW (m G j x h _ D e) λu E F=>?_);let⟨l,@UD,b,H,J,M⟩:=F;subst J;cases H;refine yY (h₀:=a.base) b.ok.mod.pD n (bW (v UM G E x UD _ b M) λUR R ⟨S,UT,c,r,p⟩=>⟨c.kd,?_⟩) y z;exact AN N g s hd t c r p
@[simp] def qG(b:Nat)(L:ae)(s:Nat)(R:cP)(J:aE (List bN)):aE ak:=λk=>match k[b]? with
 |some (Z<|.im<|.fn g)=>if g=L then bh s R J k else Y
 |_=>Y
def Pz{s:Nat}{R:cP}(N:gL a.prog a.w a.K a.ay a.base il q L fd UJ (jX s R))(i:ea q a.A)(j:bU a (.Name f o) (lU b))(l:Θ a.K (.ref L)=aa)(m:ix a.K fd UJ [])(e:fm a (d::T) J)(n:bK (d::T) a.env=(aq,b6 d a.env)::bK T a.env:=by rfl)(v:(fG UM<|bK T a.env).any (·.1)=aq:=by rfl):
  cv a (.Call (.Name f o) (d::T) [] UM) (qG b L s R J):=by
 refine en (Ml N i j l m .nil yC e n v) λx h A y=>?_;let⟨k,B,r,@UO,X,ai,c,p⟩:=y;unfold qG at c;split at c
 ·rename_i g hd;split at c
  ·rename_i e;subst e;let⟨u,UQ,@U6,t,z,D,E⟩:=X.out hd;exact⟨u,t,z.1,CC ⟨k,B,r,UO,X,ai,c,p⟩⟩
  ·cases c
 ·cases c
end
end L2
namespace dw
open Spec PyProof.Rows
end dw
namespace L2
open Spec PyProof.Rows
variable{O:bB}{UM:Pos}{n g:bj}{V1 Vk:lT}{VD Vp VB:aE bN}{Q L:fM}{A:af->ao->Prop}{c:Bool}{Vi:ak}{H u:af}{l:av}{j:ao}{h:az}{x:a5}{G:List (ae×a7)}{f v:ab}
theorem EW{e:aZ}:∀(s:Nat) {f l:ab}{u:af},ab.bF s f=aa->ab.bF s l=aa->dB e f u->dB e l u->f=l
 |s,.a6,l,u,_,a8,h,a=>by
  cases (show u=.none from h);cases l with
  |a6=>rfl
  |aC c=>cases a
  |int w=>let⟨@H,d⟩:=a;cases d
  |str i=>let⟨@H,d⟩:=a;cases d
  |tup B=>let⟨W,W,W,@W,d,W⟩:=a;cases d
  |fn g=>cases s<;>cases a8
  |aU g=>cases s<;>cases a8
  |fd=>cases s<;>cases a8
 |s,.aC c,l,u,_,a8,h,a=>by
  cases (show u=.bool c from h);cases l with
  |a6=>cases a
  |aC n=>cases a;rfl
  |int w=>let⟨@H,d⟩:=a;cases d
  |str i=>let⟨@H,d⟩:=a;cases d
  |tup B=>let⟨W,W,W,@W,d,W⟩:=a;cases d
  |fn g=>cases s<;>cases a8
  |aU g=>cases s<;>cases a8
  |fd=>cases s<;>cases a8
 |s,.int b,l,u,_,a8,h,a=>by
  let⟨@I,rfl⟩:=h;cases l with
  |a6=>cases a
  |aC n=>cases a
  |int w=>let⟨@H,d⟩:=a;injection d with d;rw[d]
  |str i=>let⟨@H,d⟩:=a;cases d
  |tup B=>let⟨W,W,W,@W,d,W⟩:=a;cases d
  |fn g=>cases s<;>cases a8
  |aU g=>cases s<;>cases a8
  |fd=>cases s<;>cases a8
 |s,.str b,l,u,_,a8,h,a=>by
  let⟨@I,rfl⟩:=h;cases l with
  |a6=>cases a
  |aC n=>cases a
  |int w=>let⟨@H,d⟩:=a;cases d
  |str i=>let⟨@H,d⟩:=a;injection d with d;rw[d]
  |tup B=>let⟨W,W,W,@W,d,W⟩:=a;cases d
  |fn g=>cases s<;>cases a8
  |aU g=>cases s<;>cases a8
  |fd=>cases s<;>cases a8
 |s+1,.tup B,l,u,o,a8,h,a=>by
  let⟨g,m,U4,@E,rfl,t,z,x,y⟩:=h;cases l with
  |a6=>cases a
  |aC n=>cases a
  |int w=>let⟨@H,d⟩:=a;cases d
  |str i=>let⟨@H,d⟩:=a;cases d
  |fn g=>cases a8
  |aU g=>cases a8
  |fd=>cases a8
  |tup T=>
   let⟨G,Vb,J,@L,d,k,M,j,A⟩:=a;cases d;rw[t]at k;cases k;rw[x]at j;injection j with j _;subst j;have all:∀(B T:List ab) (S:List af),ab.cQ s B=aa->ab.cQ s T=aa->d4 e B S->d4 e T S->B=T:=by
    intro B;induction B with
    |nil=>
     intro T S W W g c;cases T with
     |nil=>rfl
     |cons d T=>let⟨W,@W,p,W⟩:=c;rw[show S=[] from g]at p;cases p
    |cons v B C=>
     intro T S U3 U9 g c;let⟨u,@r,rfl,D,F⟩:=g;cases T with
     |nil=>cases (show u::r=[] from c)
     |cons d T=>
      let⟨N,@Vs,p,aR,aX⟩:=c;cases p;rw[ab.cQ,cV]at U3 U9;rw[EW s U3.1 U9.1 D aR,C T r U3.2 U9.2 F aX]
   rw[all B T _ o a8 y A]
 |0,.tup _,_,_,q,_,_,_=>by cases q
 |s,.fn _,_,_,q,_,_,_=>by cases s<;>cases q
 |s,.aU _,_,_,q,_,_,_=>by cases s<;>cases q
 |s,.fd,_,_,q,_,_,_=>by cases s<;>cases q
open Classical in
def nZ(e:aZ)(v:ab)(u:af):Bool:=(if i:∃f,ab.bF 8 f=aa/\dB e f u then cu i.choose v else aq)
def sq{e:aZ}(q:ab.bF 8 f=aa)(b:dB e f u):nZ e v u=cu f v:=by
 unfold nZ;have i:∃f,ab.bF 8 f=aa/\dB e f u:=⟨f,q,b⟩;rw[dif_pos i,EW 8 i.choose_spec.1 q i.choose_spec.2 b]
theorem sr{e:aZ}{v:ab}:∀{B:List ab}{S:List af},ab.cQ 8 B=aa->d4 e B S->S.any (nZ e v)=B.any λf=>cu f v
 |[],S,_,d=>by rw[show S=[] from d];rfl
 |f::B,S,q,d=>by
  let⟨u,@r,rfl,t,z⟩:=d;rw[ab.cQ,cV]at q;rw[nL,nL,sq q.1 t,sr q.2 z]
theorem r0{e:aZ}:∀{B:List ab}{S:List af}{u:af},ab.cQ 8 B=aa->d4 e B S->u∈S->∃f,ab.bF 8 f=aa/\dB e f u
 |[],S,u,_,d,E=>by rw[show S=[] from d]at E;cases E
 |f::B,S,u,q,d,E=>by
  let⟨H,@r,rfl,t,z⟩:=d;rw[ab.cQ,cV]at q;rcases bI.mp E with rfl|E
  ·exact⟨f,q.1,t⟩
  ·exact r0 q.2 z E
section
variable{a:aK}
def ho(v:ab):ak->Option Bool
 |.im (.tup B)=>if (ab.bF 8 v&&ab.cQ 8 B)=aa then Z (B.any λf=>cu f v) else Y
 |.lst B=>if (ab.bF 8 v&&ab.cQ 8 B)=aa then Z (B.any λf=>cu f v) else Y
 |.aQ UK=>match v with
  |.tup q=>if ab.keys 7 q=aa then Z (eU UK q).isSome else Y
  |_=>Y
 |.dJ UK=>match v with
  |.int b=>Z (eU UK<|.inl b).isSome
  |.str f=>Z (eU UK<|.inr f).isSome
  |_=>Y
 |_=>Y
@[simp] theorem TA(v:ab)(B:List ab):ho v (.im<|.tup B)=if (ab.bF 8 v&&ab.cQ 8 B)=aa then Z (B.any λf=>cu f v) else Y:=rfl
@[simp] theorem MV(v:ab)(B:List ab):ho v (.lst B)=if (ab.bF 8 v&&ab.cQ 8 B)=aa then Z (B.any λf=>cu f v) else Y:=rfl
@[simp] theorem Ub(q:List ab)(UK:List (List ab×ab)):ho (.tup q) (.aQ UK)=if ab.keys 7 q=aa then Z (eU UK q).isSome else Y:=rfl
@[simp] def ie:fM:=λg c=>match g with
 |.im v=>(ho v c).map λr=>.im (.aC r)
 |_=>Y
@[simp] def mc:fM:=λg c=>match g with
 |.im v=>(ho v c).map λr=>.im (.aC<|!r)
 |_=>Y
def pf{UX:Type}[DecidableEq UX]{h:az}{q:UX}{UK:List (UX×ab)}{U:List (UX×av)}(e:e1 h UK U):(iz U q).isSome=(eU UK q).isSome:=by
 cases d:eU UK q with
 |none=>rw[(n8 e).2 d];rfl
 |some v=>let⟨@u,t,W⟩:=(n8 e).1 v d;rw[t];rfl
def IH{f:av}(L:a.A.units+20<b9)(e:aG a G x h j)(n:cm f u)(r:cm l H)(s:cO h v f)(D:e8 h Vi l)(d:ho v Vi=Z c)(p:∀Ux,aG a G x h Ux->A (.bool c) Ux):wpAny (aS a.prog a.w) a.A (dW .In u H) A a.cL j:=by
 unfold ho at d;split at d
 ·rename_i B;split at d
  ·rename_i m;cases d;rw[cV]at m;let⟨g,@y,rfl,t,z⟩:=D.i;cases r;let⟨@UI,N,o,W⟩:=e.tuple (cp.of t);have E:=z.fp e.aT N;refine SeqAt.in_tupleAt (nZ j.heap v) (show j.heap.IsTuple g UI.toArray from o) (λC M=>?_) ?_
   ·let⟨@i,F,J⟩:=r0 m.2 E ⇑M;rw[sq F J];exact i6 8 F m.1 (by show a.A.units+1+8+1<b9;lia) J (s.fp e.aT n)
   ·rw[ti,sr m.2 E];exact p j e
  ·cases d
 ·rename_i B;split at d
  ·rename_i m;cases d;rw[cV]at m;let⟨W,g,@y,rfl,t,z,W⟩:=D;cases r;let⟨@UI,o,E,W⟩:=pe e t z;refine SeqAt.in_listAt (nZ j.heap v) o (λC M=>?_) ?_
   ·let⟨@i,F,J⟩:=r0 m.2 E ⇑M;rw[sq F J];exact i6 8 F m.1 (by show a.A.units+1+8+1<b9;lia) J (s.fp e.aT n)
   ·rw[ti,sr m.2 E];exact p j e
  ·cases d
 ·rename_i UK;split at d
  ·rename_i q;split at d
   ·rename_i P;cases d;let⟨W,g,@U,rfl,t,z,W⟩:=D;cases r;let⟨c,@UL,rfl,Q,R⟩:=s;rw[<-pf z]at p;exact xi L e (hg.t t ⟨P,c,UL,rfl,Q,R⟩) n p
   ·cases d
  ·cases d
 ·rename_i UK;split at d
  ·rename_i b;cases d;let⟨W,g,@U,rfl,t,z,W⟩:=D;cases r;rw[<-pf z]at p;cases (show f=cM (.inl b) from s);exact xi L e (hg.k t) n p
  ·rename_i b;cases d;let⟨W,g,@U,rfl,t,z,W⟩:=D;cases r;rw[<-pf z]at p;cases (show f=cM (.inr b) from s);exact xi L e (hg.k t) n p
  ·cases d
 ·cases d
def oD(e:a.A.units+20<b9):fa a (dW .In) ie:=by
 intro G j x h f l u H A g k m n;let⟨U_,Vi,@v,o,q,d,p⟩:=n;unfold ie at d;split at d
 ·let⟨@c,r,s⟩:=cx.mp d;cases s;exact IH e g k m o.i q r λUx t=>⟨.aC c,h,t,rfl,b7.i p rfl⟩
 ·cases d
def MU{f:av}(L:a.A.units+20<b9)(e:aG a G x h j)(n:cm f u)(r:cm l H)(s:cO h v f)(D:e8 h Vi l)(d:ho v Vi=Z c)(p:∀Ux,aG a G x h Ux->A (.bool<|!c) Ux):wpAny (aS a.prog a.w) a.A (dW .NotIn u H) A a.cL j:=by
 unfold ho at d;split at d
 ·rename_i B;split at d
  ·rename_i m;cases d;rw[cV]at m;let⟨g,@y,rfl,t,z⟩:=D.i;cases r;let⟨@UI,N,o,W⟩:=e.tuple (cp.of t);have E:=z.fp e.aT N;refine SeqAt.notIn_tupleAt (nZ j.heap v) (show j.heap.IsTuple g UI.toArray from o) (λC M=>?_) ?_
   ·let⟨@i,F,J⟩:=r0 m.2 E ⇑M;rw[sq F J];exact i6 8 F m.1 (by show a.A.units+1+8+1<b9;lia) J (s.fp e.aT n)
   ·rw[ti,sr m.2 E];exact p j e
  ·cases d
 ·rename_i B;split at d
  ·rename_i m;cases d;rw[cV]at m;let⟨W,g,@y,rfl,t,z,W⟩:=D;cases r;let⟨@UI,o,E,W⟩:=pe e t z;refine SeqAt.notIn_listAt (nZ j.heap v) o (λC M=>?_) ?_
   ·let⟨@i,F,J⟩:=r0 m.2 E ⇑M;rw[sq F J];exact i6 8 F m.1 (by show a.A.units+1+8+1<b9;lia) J (s.fp e.aT n)
   ·rw[ti,sr m.2 E];exact p j e
  ·cases d
 ·rename_i UK;split at d
  ·rename_i q;split at d
   ·rename_i P;cases d;let⟨W,g,@U,rfl,t,z,W⟩:=D;cases r;let⟨c,@UL,rfl,Q,R⟩:=s;rw[<-pf z]at p;exact Ai L e (hg.t t ⟨P,c,UL,rfl,Q,R⟩) n p
   ·cases d
  ·cases d
 ·rename_i UK;split at d
  ·rename_i b;cases d;let⟨W,g,@U,rfl,t,z,W⟩:=D;cases r;rw[<-pf z]at p;cases (show f=cM (.inl b) from s);exact Ai L e (hg.k t) n p
  ·rename_i b;cases d;let⟨W,g,@U,rfl,t,z,W⟩:=D;cases r;rw[<-pf z]at p;cases (show f=cM (.inr b) from s);exact Ai L e (hg.k t) n p
  ·cases d
 ·cases d
def AU(e:a.A.units+20<b9):fa a (dW .NotIn) mc:=by
 intro G j x h f l u H A g k m n;let⟨U_,Vi,@v,o,q,d,p⟩:=n;unfold mc at d;split at d
 ·let⟨@c,r,s⟩:=cx.mp d;cases s;exact MU e g k m o.i q r λUx t=>⟨.aC<|!c,h,t,rfl,b7.i p rfl⟩
 ·cases d
@[simp] def gF(L Q:fM)(VB Vp VD:aE bN):aE ak:=λk=>(VB k).bind λo=>(Vp o.2).bind λp=>(dn p.2 o.1).bind λU_=>(dn p.2 p.1).bind λVi=>(L U_ Vi).bind λv=>(l0 v).bind λq=>
 if q=aa then (VD p.2).bind λr=>(dn r.2 p.1).bind λa=>(dn r.2 r.1).bind λb=>(Q a b).bind λi=>(l0 i).map λc=>(.im<|.aC c,r.2) else Z (.im<|.aC aq,p.2)
def Bz{A:cJ}(e:ni (gF L Q VB Vp VD) x h A):
  w5 (λf l h A=>∃U_ Vi v,e8 h U_ f/\e8 h Vi l/\L U_ Vi=Z v/\b7 h v A) (λf l h A=>∃U_ Vi v,e8 h U_ f/\e8 h Vi l/\Q U_ Vi=Z v/\b7 h v A) (m6 VB) (m6 Vp) (m6 VD) x h A:=by
 let⟨k,N,r,@UO,X,ai,a,p⟩:=e;let⟨@⟨U0,UE⟩,t,a⟩:=bE.mp a;let⟨@⟨G,Vd⟩,z,a⟩:=bE.mp a;let⟨@U_,M,a⟩:=bE.mp a;let⟨@Vi,O,a⟩:=bE.mp a;let⟨@v,P,a⟩:=bE.mp a;let⟨@q,R,n⟩:=bE.mp a;have hd:=qF R;subst hd;refine⟨k,N,U0,UE,X,ai,t,λf UD UQ S T dC B=>⟨UE,UQ,G,Vd,T,(dz.mp B.ai).1,z,λl UT U6 b3 o dc s=>?_⟩⟩;have U:iV UT x U0 f S:=dC.mono s.tup λg b m d=>s.keep g m d λe=>(dz.mp B.ai).2.2 g e g b rfl;refine⟨U_,Vi,_,U.read o M,dc.read o O,P,λu H al j am cr cs=>?_⟩;let@⟨rfl,rfl⟩:=(show u=.aC q/\al=[] from am);refine⟨q,rfl,?_⟩;have I:=B.trans s dC.chg;rw[bu]at I;have w:=I.new j my (λg b=>nomatch b) o.chg;have J:bA H Vd x U6:=o.mono j.tupS λg W m d=>j g m d;cases q with
 |false=>
  rw[aO ek]at n ⊢;cases n;exact p _ H U6 [] J ⟨rfl,rfl⟩ w
 |true=>
  rw[aJ rfl]at n ⊢;let⟨@⟨an,F⟩,ap,U3⟩:=bE.mp n;let⟨@as,a1,U9⟩:=bE.mp U3;let⟨@a2,bd,be⟩:=bE.mp U9;let⟨@i,bi,bm⟩:=bE.mp be;let⟨@c,bn,bs⟩:=cx.mp bm;cases bs;have bv:=qF bn;subst bv;rw[b_]at w;refine⟨Vd,U6,an,F,J,w.ai,ap,λC ca cd db y fo D=>?_⟩;have ce:=dz.mp s.ai;have ch:iV ca x G l b3:=(dc.mono j.tupS λg W m d=>j g m d).mono D.tup λg b m d=>D.keep g m d λe=>ce.2.2 g e g b rfl;refine⟨as,a2,_,ch.read y a1,fo.read y bd,bi,λu ci cl E co ds dL=>?_⟩;let@⟨rfl,rfl⟩:=(show u=.aC c/\cl=[] from co);exact p _ ci cd [] (y.mono E.tupS λg W m d=>E g m d) ⟨rfl,rfl⟩ ((w.seq D).new E my (λg b=>nomatch b) y.chg)
variable{c:bj}
def Cv(b:fa a (dW Vk) L)(d:fa a (dW V1) Q)(f:dH a g VB)(h:dH a c Vp)(i:dH a n VD)(j:ue [Vk,V1] [c,n]=aq:=by with_unfolding_all rfl):cv a (.Compare g [Vk,V1] [c,n] UM) (gF L Q VB Vp VD):=
 en (Jx b d f h i j) λ_ W W e=>Bz e
def BY(d:fa a (dW Vk) L)(e:fa a (dW V1) Q)(f:dH a g VB)(i:dH a c Vp)(l:dH a n VD)(m:ue [Vk,V1] [c,n]=aq:=by with_unfolding_all rfl):hP a (.Compare g [Vk,V1] [c,n] UM) (bx<|gF L Q VB Vp VD):=by
 refine tM (Mn d e f i l m) λx h A r=>?_;let⟨k,N,q,@UO,X,ai,s,p⟩:=r;refine Bz ⟨k,N,.im<|.aC q,UO,X,ai,?_,λu P U8 UA v b j=>⟨q,b.1,p P U8 v (by rw[b.2,b_]at j;exact j)⟩⟩;let⟨@o,t,z⟩:=bE.mp s;let⟨@B,w,y⟩:=cx.mp z;cases y;rw[t,<-qF w]
end
mutual
def a9:ab->ab->Bool
 |.int b,.int w=>decide (b<w)
 |.str f,.str l=>decide (f.cps.toList<l.cps.toList)
 |.tup g,.tup c=>gc g c
 |_,_=>aq
def gc:List ab->List ab->Bool
 |[],[]=>aq
 |[],_::_=>aa
 |_::_,[]=>aq
 |g::r,c::I=>if ab.beq g c=aa then gc r I else a9 g c
end
mutual
def eA:Nat->ab->ab->Bool
 |_,.int _,.int _=>aa
 |_,.str _,.str _=>aa
 |s+1,.tup g,.tup c=>fU s g c
 |_,_,_=>aq
def fU:Nat->List ab->List ab->Bool
 |_,[],[]=>aa
 |s,g::r,c::I=>eA s g c&&fU s r I
 |s,[],c::I=>ab.cQ s (c::I)
 |s,g::r,[]=>ab.cQ s (g::r)
end
mutual
theorem qC:∀{s:Nat}{g c:ab},eA s g c=aa->ab.bF s g=aa/\ab.bF s c=aa/\cu g c=ab.beq g c
 |s,.int b,.int w,_=>by
  refine⟨by cases s<;>rfl,by cases s<;>rfl,?_⟩;rw[cu,ab.beq];by_cases e:b=w<;>simp[e]
 |s,.str f,.str l,_=>by
  refine⟨by cases s<;>rfl,by cases s<;>rfl,?_⟩;rw[cu,ab.beq];by_cases e:f=l<;>simp[e]
 |s+1,.tup g,.tup c,e=>by
  rw[eA]at e;let@⟨t,z,a⟩:=AA e;exact⟨t,z,by rw[cu,ab.beq];exact a⟩
theorem AA:∀{s:Nat}{g c:List ab},fU s g c=aa->ab.cQ s g=aa/\ab.cQ s c=aa/\eP g c=ab.ma g c
 |s,[],[],_=>⟨by cases s<;>rfl,by cases s<;>rfl,rfl⟩
 |s,[],c::I,e=>⟨by cases s<;>rfl,e,rfl⟩
 |s,g::r,[],e=>⟨e,by cases s<;>rfl,rfl⟩
 |s,g::r,c::I,e=>by
  rw[fU,cV]at e;let@⟨t,z,a⟩:=qC e.1;let@⟨b,d,f⟩:=AA e.2;exact⟨by rw[ab.cQ,t,b];rfl,by rw[ab.cQ,z,d];rfl,by rw[eP,ab.ma,a,f]⟩
end
def oH{g c:ab}(e:¬ g=c):ab.beq g c=aq:=by
 cases d:ab.beq g c with
 |false=>rfl
 |true=>exact absurd ((ab.beq_iff g c).mp d) e
mutual
theorem wa:∀g:ab,a9 g g=aq
 |.int b=>by simp[a9]
 |.tup g=>by rw[a9];exact FI g
 |.a6=>rfl
 |.aC _=>rfl
 |.str f=>by rw[a9];exact ep (List.lt_irrefl _)
 |.fn _=>rfl
 |.aU _=>rfl
 |.fd=>rfl
theorem FI:∀g:List ab,gc g g=aq
 |[]=>rfl
 |g::r=>by rw[gc,aJ<|(ab.beq_iff g g).mpr rfl];exact FI r
end
mutual
theorem p2:∀{s:Nat}{g c:ab},eA s g c=aa->g≠c->a9 g c=!(a9 c g)
 |s,.int b,.int w,_,e=>by
  have:b≠w:=λd=>e (by rw[d]);rw[a9,a9];rcases Int.lt_or_gt_of_ne this with J|J
  ·simp[J];lia
  ·simp[J];lia
 |s,.str f,.str l,_,e=>by
  have ne:f.cps.toList≠l.cps.toList:=λd=>e (by
   let⟨f⟩:=f;let⟨l⟩:=l;exact congrArg (λi=>ab.str ⟨i⟩) (Array.toList_inj.mp d))
  rw[a9,a9];by_cases J:f.cps.toList<l.cps.toList
  ·rw[df J,ep<|List.lt_asymm J];rfl
  ·rw[ep J];by_cases a:l.cps.toList<f.cps.toList
   ·rw[df a];rfl
   ·exact absurd (List.le_antisymm (Ek.mp a)<|Ek.mp J) ne
 |s+1,.tup g,.tup c,e,d=>by
  rw[eA]at e;rw[a9,a9];exact Fu e λi=>d (by rw[i])
theorem Fu:∀{s:Nat}{g c:List ab},fU s g c=aa->g≠c->gc g c=!(gc c g)
 |s,[],[],_,e=>absurd rfl e
 |s,[],c::I,_,_=>rfl
 |s,g::r,[],_,_=>rfl
 |s,g::r,c::I,e,d=>by
  rw[fU,cV]at e;rw[gc,gc];by_cases i:g=c
  ·subst i;rw[aJ ((ab.beq_iff g g).mpr rfl),aJ<|(ab.beq_iff g g).mpr rfl];exact Fu e.2 λC=>d (by rw[C])
  ·rw[oH i,oH<|λC=>i C.symm,aO ek,aO ek];exact p2 e.1 i
end
mutual
theorem tJ:∀{s:Nat}{g c n:ab},eA s g c=aa->eA s c n=aa->a9 g c=aa->a9 c n=aa->a9 g n=aa
 |s,.int b,.int w,.int q,_,_,t,z=>by
  rw[a9]at t z ⊢;have:=eR t;have:=eR z;exact df (by omega)
 |s,.str f,.str l,.str i,_,_,t,z=>by
  rw[a9]at t z ⊢;exact df (List.lt_trans (eR t)<|eR z)
 |s+1,.tup g,.tup c,.tup n,a,d,t,z=>by
  rw[eA]at a d;rw[a9]at t z ⊢;exact C8 a d t z
theorem C8:∀{s:Nat}{g c n:List ab},fU s g c=aa->fU s c n=aa->gc g c=aa->gc c n=aa->gc g n=aa
 |s,[],_,_::_,_,_,_,_=>rfl
 |s,[],[],[],_,_,e,_=>e
 |s,_::_,[],_,_,_,e,_=>by cases e
 |s,_,_::_,[],_,_,_,e=>by cases e
 |s,g::r,c::I,n::H,d,b,t,z=>by
  rw[fU,cV]at d b;rw[gc]at t z ⊢;by_cases f:g=c
  ·subst f;rw[aJ ((ab.beq_iff g g).mpr rfl)]at t;by_cases a:g=n
   ·subst a;rw[aJ ((ab.beq_iff g g).mpr rfl)]at z ⊢;exact C8 d.2 b.2 t z
   ·rw[oH a,aO ek]at z ⊢;exact z
  ·rw[oH f,aO ek]at t;by_cases a:c=n
   ·subst a;rw[oH f,aO ek];exact t
   ·rw[oH a,aO ek]at z;have h:=tJ d.1 b.1 t z;have i:¬ g=n:=λC=>by
     subst C;have:=p2 b.1 a;rw[t,z]at this;cases this
    rw[oH i,aO ek];exact h
end
def rB(O:bB)(j:ao)(l f:af)(q:Bool):Prop:=(∀(UG:bC) (C:bg) (Uv:af->ao->Prop) (A:af->ao->Prop),A (.bool q) j->wpAny (aS UG C) O (n7 .Lt l f) A Uv j)
def h3(L:Bool):List (Bool×Bool)->Bool
 |[]=>L
 | (d,q)::r=>if d=aa then h3 L r else q
section
open PySem.SeqAt
open PySem.AutoSeq1 (wpAny_loadPart')
open PySem.MeetsSeq PySem.MeetsSeq2 PySem.MeetsSeq3
def NM(M c:ae)(U4 a:Array af)(s y:Nat)(A B:Option ae)(aY D:Array (Option af))(UJ:List (Bool×Bool))(Q:UJ.length=min U4.size a.size):
  Meets (bw.«tuple.__lt__» ⟨[.ref M,.ref c],[]⟩)
   (λO UA j=>j.heap.get? M=Z {cls:=.type "tuple",dict:=A,data:=.seq U4 s,slots:=aY}/\j.heap.get? c=Z {cls:=.type "tuple",dict:=B,data:=.seq a y,slots:=D}/\
    (∀w (t:w<U4.size) (z:w<a.size) (m:w<UJ.length),EqAt O.in1 j U4[w] a[w] (UJ[w]).1/\((UJ[w]).1=aq->rB O.in1 j U4[w] a[w] (UJ[w]).2))/\
    UA (.ok<|.ret<|.bool<|h3 (decide (U4.size<a.size)) UJ) j):=
 .of_wp λUG C O UA j e=>by
  let⟨i,J,v,Vn,UN⟩:=j;let@⟨E,F,G,e⟩:=e;have R:=Fm;have o:(U4.toList.zip a.toList).length=min U4.size a.size:=by simp
  wp_walk using wpAny_loadPart' E,wpAny_loadPart' F,rL _ (λc2 c Ux=>c.1=Y/\Ux=⟨i,J,v,Vn,UN⟩/\∃b,c2=(U4.toList.zip a.toList).drop b/\
   UA (.ok<|.ret<|.bool<|h3 (decide (U4.size<a.size))<|UJ.drop b) ⟨i,J,v,Vn,UN⟩) _
  case turn=>
   rintro⟨l,f⟩ c2 c Ux ⟨n,rfl,b,g,h⟩;have p:b<(U4.toList.zip a.toList).length:=by
    rcases vc b (U4.toList.zip a.toList).length with Uu|Uu
    ·exact Uu
    ·rw[m2 Uu]at g;cases g
   have S:b<min U4.size a.size:=o ▸ p;have t:b<U4.size:=⋯
   have z:b<a.size:=⋯
   have m:b<UJ.length:=⋯
   rw[jK p]at g;injection g with r H;have I:l=U4[b]:=by have:=congrArg Prod.fst r;simpa using this
   have L:f=a[b]:=by have:=congrArg Prod.snd r;simpa using this
   subst I L;rw[jK m]at h;let@⟨u,x⟩:=G b t z m;generalize UJ[b]=N at h u x;let⟨d,q⟩:=N;refine aB (u UG C _ _ ?_);cases d with
   |true=>
    have k:UA (.ok<|.ret<|.bool<|h3 (decide (U4.size<a.size))<|UJ.drop<|b+1) ⟨i,J,v,Vn,UN⟩:=h
    wp_walk
    exact⟨rfl,rfl,b+1,H,k⟩
   |false=>
    have k:UA (.ok<|.ret<|.bool q) ⟨i,J,v,Vn,UN⟩:=h;have P:=x rfl UG C
    wp_walk using P
    exact⟨_,rfl,by simpa using k⟩
  case fin=>
   rintro⟨aR,aX⟩ Ux ⟨n,rfl,b,g,h⟩;simp only at n;subst n;have T:min U4.size a.size<=b:=by
    rcases vc b (U4.toList.zip a.toList).length with Uu|Uu
    ·rw[jK Uu]at g;cases g
    ·exact o ▸ Uu
   rw[m2 ⋯]at h;have k:UA (.ok<|.ret<|.bool<|decide (U4.size<a.size)) ⟨i,J,v,Vn,UN⟩:=h
   wp_walk
   exact⟨_,rfl,by simpa [bw.Tuple.tupleCompareSizes] using k⟩
  case h=>
   exact⟨rfl,rfl,0,rfl,by simpa using e⟩
end
def kD(B T:List ab):List (Bool×Bool):=((B.zip T).map λo=>(cu o.1 o.2,a9 o.1 o.2))
theorem BV:∀{s:Nat}{B T:List ab},fU s B T=aa->h3 (decide (B.length<T.length)) (kD B T)=gc B T
 |_,[],[],_=>rfl
 |s,g::r,c::I,e=>by
  rw[fU,cV]at e;show (if cu g c=aa then h3 (decide (r.length+1<I.length+1)) (kD r I) else a9 g c)=gc (g::r) (c::I);rw[gc,(qC e.1).2.2,<-BV e.2,lD.mpr wy]
 |_,[],_::_,_=>rfl
 |_,_::_,[],_=>rfl
theorem zv{s:Nat}:∀{B T:List ab}{w:Nat}{g c:ab},fU s B T=aa->B[w]?=Z g->T[w]?=Z c->eA s g c=aa
 |[],T,w,g,c,_,e,_=>by simp at e
 |v::B,[],w,g,c,_,_,e=>by simp at e
 |v::B,d::T,0,g,c,e,t,z=>by
  rw[fU,cV]at e;cases t;cases z;exact e.1
 |v::B,d::T,w+1,g,c,e,t,z=>by
  rw[fU,cV]at e;exact zv (w:=w) e.2 ⇑t ⇑z
def Rz{b w:Int}(a:dB j.heap (.int b) H)(c:dB j.heap (.int w) u):rB O j H u (a9 (.int b)<|.int w):=by
 let⟨@I,rfl⟩:=a;let⟨@Va,rfl⟩:=c;intro UG C Uv A p;rw[a9]at p;exact dw.KV O j b I w Va UG C Uv A p
def NB{f l:aF}(a:dB j.heap (.str f) H)(b:dB j.heap (.str l) u):rB O j H u (a9 (.str f)<|.str l):=by
 let⟨I,rfl⟩:=a;let⟨Va,rfl⟩:=b;intro UG C Uv A p;rw[a9]at p;exact (PySem.P.lt_str p:wpAny (aS UG C) O (dW .Lt (.str f I)<|.str l Va) A Uv j)
def yf(f l:ab):Prop:=((∃b w,f=.int b/\l=.int w)\/∃g c,f=.str g/\l=.str c)
def Ds{l:ab}(M:yf f l)(a:dB j.heap f H)(d:dB j.heap l u):rB O j H u (a9 f l):=by
 rcases M with ⟨b,w,rfl,rfl⟩|⟨g,c,rfl,rfl⟩
 ·exact Rz a d
 ·exact NB a d
def oU:∀{s:Nat}{f l:ab},eA s f l=aa->yf f l\/∃E g c,s=E+1/\f=.tup g/\l=.tup c/\fU E g c=aa:=by
 intro s f l e;unfold eA at e;split at e
 ·exact .inl (.inl ⟨_,_,rfl,rfl⟩)
 ·exact .inl (.inr ⟨_,_,rfl,rfl⟩)
 ·exact .inr ⟨_,_,_,rfl,rfl,rfl,e⟩
 ·cases e
def yH(s:Nat):∀{O:bB}{f l:ab}{H u:af},eA s f l=aa->O.units+s+2<b9->dB j.heap f H->dB j.heap l u->rB O j H u (a9 f l):=by
 induction s with
 |zero=>
  intro O f l H u e L a b;rcases oU e with M|⟨E,_,_,d,_⟩
  ·exact Ds M a b
  ·cases d
 |succ s P=>
  intro O f l H u e L a b;rcases oU e with M|⟨E,B,T,d,rfl,rfl,e⟩
  ·exact Ds M a b
  cases d;let⟨g,m,UI,@E,rfl,t,z,h,k⟩:=a;let⟨c,Vb,R,@Q,rfl,n,o,q,r⟩:=b;let⟨cls,S,data,aY⟩:=m;let⟨a1,U,a2,al⟩:=Vb;simp only at z h o q;subst z h o q;have v:B.length=UI.size:=by rw[k.length,fW]
  have x:T.length=R.size:=by rw[r.length,fW]
  intro UG C Uv A p;rw[a9,<-BV e,v,x]at p;have am:(kD B T).length=min UI.size R.size:=by rw[kD,bS,v7,v,x]
  refine IB (op:=.Lt) ⟨_,t,rfl⟩ ⟨_,n,rfl⟩ PySem.F.slot_tuple_lt PySem.F.entry_tuple_lt (PySem.F.args_tuple_lt_2 _ _) (NM g c UI R E Q S U aY al (kD B T) am)
   ⟨t,n,λw bG an ap=>?_,show af.bool (h3 (decide (UI.size<R.size))<|kD B T)≠af.notImplemented/\A (.bool<|h3 (decide (UI.size<R.size))<|kD B T) j from ⟨(λf=>nomatch f),p⟩⟩ ⋯;let⟨@U_,y,D⟩:=k.get (w:=w) (u:=UI[w]) (by rw[hq];simp[bG]);let⟨@Vi,G,I⟩:=r.get (w:=w) (u:=R[w]) (by rw[hq];simp[an]);have lk:=zv e y G;have J:=qC lk;have as:(kD B T)[w]=(cu U_ Vi,a9 U_ Vi):=by
   have:(kD B T)[w]?=Z (cu U_ Vi,a9 U_ Vi):=by
    rw[kD,gy,(Iv (z:=(U_,Vi))).mpr ⟨y,G⟩];rfl
   rw[f3 ap]at this;exact Option.some.inj this
  rw[as];exact⟨i6 s J.1 J.2.1 (by show O.units+1+s+1<b9;lia) D I,λ_=>P lk (by show O.units+1+s+2<b9;lia) D I⟩
end L2
namespace L2
open Spec PyProof.Rows PySem.W
variable{v:ab}{UI:List af}{M B:List ab}
theorem D_{U1:Type}{o p:U1->Bool}:∀{M:List U1},(∀f∈M,o f=aa->p f=aa)->(∃f∈M,p f=aa/\o f=aq)->M.countP o<M.countP p
 |[],_,e=>by let⟨@f,a,W⟩:=e;cases a
 |g::M,e,⟨f,a,t,z⟩=>by
  rw[v_,v_];have le:M.countP o<=M.countP p:=List.countP_mono_left λl b=>e l (.tail _ b);rcases bI.mp a with rfl|a
  ·rw[t,z];simp;omega
  ·have:=D_ (λl b=>e l<|.tail _ b) ⟨f,a,t,z⟩;have c:=e g (.head _);cases d:o g<;>cases h:p g<;>rw[d,h]at c<;>simp at c ⊢<;>omega
structure ow(B:List ab):Prop where
 o7:B.length<=1000
 jF:∀g∈B,∀c∈B,eA 6 g c=aa
structure vi(B:List ab):Prop where
 o7:B.length<=1000
 jF:∀g∈B,∀c∈B,eA 6 g c=aa
 ai:B.Nodup
def vi.w{B:List ab}(m:vi B):ow B:=⟨m.o7,m.jF⟩
def qh(B:List ab)(f:ab):Nat:=(B.countP λv=>a9 v f)
def Fs(m:ow B){f l:ab}(a:f∈B)(b:l∈B)(e:a9 f l=aa):qh B f<qh B l:=
 D_ (λi c d=>tJ (m.jF i c f a) (m.jF f a l b) d e) ⟨f,a,e,wa f⟩
def GI(m:ow B){f l:ab}(a:f∈B)(b:l∈B):decide ((qh B f:Int)<(qh B l:Int))=a9 f l:=by
 cases d:a9 f l with
 |true=>exact df (by have:=Fs m a b d;lia)
 |false=>
  refine ep λi=>?_;by_cases e:f=l
  ·subst e;lia
  ·have I:=p2 (m.jF f a l b) e;rw[d]at I;have Va:a9 l f=aa:=by cases p:a9 l f<;>rw[p]at I<;>simp at I ⊢
   have:=Fs m b a Va;lia
def qD(B:List ab)(b:Nat):Int:=(qh B (B.getD b .a6))
def uh{b:Nat}(e:b<B.length):B.getD b .a6∈B:=by
 rw[cT,f3 e];exact FJ e
def Dk(m:ow B){o:Array Nat}(a:c6 B.length o)(i:iB (qD B) o B.length):(o.toList.map λb=>B.getD b .a6).Pairwise (λg c=>a9 c g=aq):=by
 rw[qo];intro b w Uw e l;have UH:=a.size;have j:b<B.length:=by simpa [UH] using Uw
 have f:w<B.length:=by simpa [UH] using e
 have le:=i b w ⋯ f;have J:∀q (h:q<(o.toList.map λb=>B.getD b .a6).length),(o.toList.map λb=>B.getD b .a6)[q]=B.getD (o.getD q 0) .a6:=λq h=>by
  have k:q<o.size:=by simpa using h
  rw[EC,FO];simp[Array.getD,k]
 rw[J b Uw,J w e];rw[<-GI m (uh<|a.lt f) (uh<|a.lt j)];refine ep ?_;have d:∀q,(qh B (B.getD (o.getD q 0) .a6):Int)=bl (qD B) o q:=λ_=>rfl;rw[d b,d w];lia
theorem Hh:∀{M E:List ab},M.Perm E->M.Pairwise (λg c=>a9 g c=aa)->E.Pairwise (λg c=>a9 g c=aa)->(∀g∈M,∀c∈M,a9 g c=aa->a9 c g=aq)->M=E
 |[],E,o,_,_,_=>(List.nil_perm.mp o).symm
 |g::M,E,o,t,z,a=>by
  cases E with
  |nil=>exact absurd o.length_eq ↥0
  |cons c E=>
   have d:g=c:=by
    by_cases d:g=c
    ·exact d
    ·have h:g∈E:=by
      rcases bI.mp (o.mem_iff.mp<|.head _) with i|i
      ·exact absurd i d
      ·exact i
     have b:c∈M:=by
      rcases bI.mp (o.mem_iff.mpr<|.head _) with i|i
      ·exact absurd i.symm d
      ·exact i
     have j:=(hb.mp t).1 c b;have e:=(hb.mp z).1 g h;rw[a g (.head _) c (.tail _ b) j]at e;cases e
   subst d;rw[Hh (RC o) (hb.mp t).2 (hb.mp z).2 λf k l m=>a f (.tail _ k) l<|.tail _ m]
theorem vE(f:ab):∀M:List ab,(kY a9 f M).Perm (f::M)
 |[]=>List.Perm.refl _
 |l::r=>by
  rw[kY];split
  ·exact List.Perm.refl _
  ·exact (List.Perm.cons l<|vE f r).trans (List.Perm.swap f l r)
theorem jc:∀M:List ab,(ij a9 M).Perm M
 |[]=>List.Perm.refl _
 |f::r=>(vE f _).trans (List.Perm.cons f<|jc r)
theorem DO{f:ab}:∀{M:List ab},M.Pairwise (λg c=>a9 g c=aa)->(∀l∈M,f≠l)->(∀g∈f::M,∀c∈f::M,eA 6 g c=aa)->(kY a9 f M).Pairwise (λg c=>a9 g c=aa)
 |[],_,_,_=>fJ _ _
 |l::r,e,s,lk=>by
  have Uu:=hb.mp e;rw[kY];split
  ·rename_i d;refine hb.mpr ⟨λi a=>?_,e⟩;rcases bI.mp a with rfl|a
   ·exact d
   ·exact tJ (lk f (.head _) l<|.tail _<|.head _) (lk l (.tail _<|.head _) i<|.tail _<|.tail _ a) d (Uu.1 i a)
  ·rename_i d;refine hb.mpr ⟨λi a=>?_,DO Uu.2 (λi a=>s i<|.tail _ a) λg b c h=>lk g ?_ c ?_⟩
   ·rcases bI.mp ((vE f r).mem_iff.mp a) with rfl|a
    ·have I:=p2 (lk i (.head _) l<|.tail _<|.head _) (s l<|.head _);cases p:a9 l i with
     |true=>rfl
     |false=>rw[p]at I;exact absurd I d
    ·exact Uu.1 i a
   ·rcases bI.mp b with rfl|b
    ·exact .head _
    ·exact .tail _ (.tail _ b)
   ·rcases bI.mp h with rfl|h
    ·exact .head _
    ·exact .tail _ (.tail _ h)
theorem pI:∀{M:List ab},M.Nodup->(∀g∈M,∀c∈M,eA 6 g c=aa)->(ij a9 M).Pairwise (λg c=>a9 g c=aa)
 |[],_,_=>.nil
 |f::r,ai,lk=>by
  have e:=iI.mp ai;refine DO (pI e.2 λg a c b=>lk g (.tail _ a) c<|.tail _ b) (λl h d=>e.1 (by rw[d];exact (jc r).mem_iff.mp h)) λg a c b=>lk g ?_ c ?_
  ·rcases bI.mp a with rfl|a
   ·exact .head _
   ·exact .tail _ ((jc r).mem_iff.mp a)
  ·rcases bI.mp b with rfl|b
   ·exact .head _
   ·exact .tail _ ((jc r).mem_iff.mp b)
def tC(m:vi B)(o:M.Perm B)(e:M.Pairwise (λg c=>a9 g c=aa)):M=ij a9 B:=by
 refine Hh (o.trans (jc B).symm) e (pI m.ai m.jF) λg a c b d=>?_;have I:=p2 (m.jF g (o.mem_iff.mp a) c<|o.mem_iff.mp b) (λi=>by subst i;rw[wa]at d;cases d);rw[d]at I;cases p:a9 c g with
 |false=>rfl
 |true=>rw[p]at I;cases I
theorem HB{f:ab}:∀{M:List ab},M.Pairwise (λg c=>a9 c g=aq)->(∀g∈f::M,∀c∈f::M,eA 6 g c=aa)->(kY a9 f M).Pairwise (λg c=>a9 c g=aq)
 |[],_,_=>fJ _ _
 |l::r,e,lk=>by
  have Uu:=hb.mp e;unfold kY;split
  ·rename_i d;refine hb.mpr ⟨λi a=>?_,e⟩;cases p:a9 i f with
   |false=>rfl
   |true=>
    have I:=tJ (lk i (.tail _ a) f<|.head _) (lk f (.head _) l<|.tail _<|.head _) p d;rcases bI.mp a with rfl|a
    ·rw[wa]at I;cases I
    ·rw[Uu.1 i a]at I;cases I
  ·rename_i d;refine hb.mpr ⟨λi a=>?_,HB Uu.2 λg b c h=>lk g ?_ c ?_⟩
   ·rcases bI.mp ((vE f r).mem_iff.mp a) with rfl|a
    ·cases p:a9 i l with
     |false=>rfl
     |true=>exact absurd p d
    ·exact Uu.1 i a
   ·rcases bI.mp b with rfl|b
    ·exact .head _
    ·exact .tail _ (.tail _ b)
   ·rcases bI.mp h with rfl|h
    ·exact .head _
    ·exact .tail _ (.tail _ h)
theorem G6:∀{M:List ab},(∀g∈M,∀c∈M,eA 6 g c=aa)->(ij a9 M).Pairwise (λg c=>a9 c g=aq)
 |[],_=>.nil
 |f::r,lk=>by
  refine HB (G6 λg a c b=>lk g (.tail _ a) c<|.tail _ b) λg a c b=>lk g ?_ c ?_
  ·rcases bI.mp a with rfl|a
   ·exact .head _
   ·exact .tail _ ((jc r).mem_iff.mp a)
  ·rcases bI.mp b with rfl|b
   ·exact .head _
   ·exact .tail _ ((jc r).mem_iff.mp b)
def HD(m:ow B)(o:M.Perm B)(e:M.Pairwise (λg c=>a9 c g=aq)):M=ij a9 B:=by
 refine C7 (λg c a b f l=>?_) e (G6 m.jF) (o.trans (jc B).symm);by_cases d:g=c
 ·exact d
 ·have I:=p2 (m.jF g (o.mem_iff.mp a) c<|(jc B).mem_iff.mp b) d;rw[f,l]at I;cases I
def jI:ab->Bool
 |.tup (.int _::_)=>aa
 |.tup (.str _::_)=>aa
 |_=>aq
def qO:ab->Bool
 |.tup (.int _::_)=>aa
 |_=>aq
def qJ:ab->Bool
 |.tup (.str _::_)=>aa
 |_=>aq
def ot:ab->Bool
 |.tup (.tup _::_)=>aa
 |_=>aq
section
variable{UG:bC}{C:bg}{O:bB}{Uv:af->ao->Prop}{j:ao}
theorem Ea{c L:Bool}(s:Nat)(o:O.units+s+2<b9){A:Bool->ao->Prop}:∀{B T:List ab}{S h:List af}{b:Nat},fU s B T=aa->L=decide (B.length<T.length)->d4 j.heap B S->d4 j.heap T h->(c=aa->b=0->∃q r,B=q::r/\∀g,q≠.tup g)->A (gc B T) j->KatLex UG C O c L A (S.zip h) b j
 |[],T,S,h,b,_,a,t,z,_,p=>by
  rw[show S=[] from t,a];exact kat_nil (by cases T<;>exact p)
 |v::B,[],S,h,b,_,a,t,z,_,p=>by
  rw[show h=[] from z,a,List.zip_nil_right];exact kat_nil p
 |v::B,d::T,S,h,b,e,y,t,z,D,p=>by
  rw[fU,cV]at e;let⟨u,@S,rfl,m,E⟩:=t;let⟨H,@h,rfl,aR,aX⟩:=z;rw[List.zip_cons_cons];let@⟨F,Vj,G⟩:=qC e.1;refine kat_cons (i6 s F Vj ⋯ m aR UG C _ _ ?_);rw[G];rw[gc]at p;cases x:ab.beq v d with
  |true=>
   rw[x,aJ rfl]at p;exact kat_yes (Ea s o e.2 (y.trans<|lD.mpr wy) E aX (λ_ i=>⋯) p)
  |false=>
   rw[x,aO ek]at p;refine kat_no ?_;by_cases a:(c&&b==0)=aa
   ·rw[a];rw[cV]at a;let⟨q,@r,i,J⟩:=D a.1 ⇑(a.2);cases i;rcases oU e.1 with M|⟨_,_,_,_,k,_⟩
    ·rcases M with ⟨N,w,k,n⟩|⟨f,l,k,n⟩
     ·cases k;cases n;let⟨@I,rfl⟩:=m;let⟨@Va,rfl⟩:=aR;rw[a9]at p;exact oneLt_int p
     ·cases k;cases n;let⟨@I,rfl⟩:=m;let⟨@Va,rfl⟩:=aR;rw[a9]at p;exact oneLt_str p
    ·exact absurd k (J _)
   ·rw[show (c&&b==0)=aq by simpa using a];exact kat_one _ _ (yH s e.1 o m aR UG C _ _ p)
def Cz{c:Bool}(m:ow B)(h:d4 j.heap B UI)(n:∀v∈B,∃r,v=.tup r)(z:c=aa->∀v∈B,jI v=aa)(R:O.units+9<b9):
  fT UI.length (qD B) (fq UG C O (qR c)<|UI.toArray.zip UI.toArray) j:=by
 intro b w aH Uw A p;have S:=h.length;have a:=uh (B:=B) (b:=b) ⋯;have d:=uh (B:=B) (b:=w) ⋯;unfold qD at p;rw[GI m a d]at p;let⟨@U_,o,D⟩:=h.get (w:=b) (u:=UI[b]) ↥0;let⟨@Vi,q,E⟩:=h.get (w:=w) (u:=UI[w]) ↥0;rw[cT,o,cT,q]at p;rw[cT,o]at a;rw[cT,q]at d;let⟨@g,F⟩:=n U_ a;let⟨@k,G⟩:=n Vi d;subst F G;have lk:fU 5 g k=aa:=m.jF _ a _ d;unfold fq;rw[tA rfl,tA rfl,cT,cT,f3 Uw,f3 A];show wpAny _ _ (keyLt' (qR c) UI[b] UI[w]) _ _ _;let⟨f,T,y,@U,H,I,al,J,s⟩:=D;let⟨l,am,UL,@an,L,U3,U9,M,t⟩:=E;rw[H,L];refine kat_lt (b:=c) I J U3 M ?_;have N:g.length=y.size:=by rw[s.length,fW]
 have P:k.length=UL.size:=by rw[t.length,fW]
 refine Ea 5 ⋯ lk (by rw[N,P]) s t (λQ W=>?_) (by have x:aH (a9 (.tup g)<|.tup k) j:=p;rw[a9]at x;exact x);have:=z Q _ a;unfold jI at this;split at this
 ·rename_i e;cases e;exact⟨_,_,rfl,λg i=>nomatch i⟩
 ·rename_i e;cases e;exact⟨_,_,rfl,λg i=>nomatch i⟩
 ·cases this
theorem Bq:∀{B:List ab}{UI:List af},d4 j.heap B UI->(∀v∈B,∃L r,v=.tup (L::r))->∃ar,KatTups j.heap UI ar/\ar.length=UI.length/\
  ((∀v∈B,qO v=aa)->∀u∈ar,∃b I,u=af.int b I)/\((∀v∈B,qJ v=aa)->∀u∈ar,∃b I,u=af.str b I)/\((∀v∈B,ot v=aa)->∀u∈ar,∃g Vt,u=af.ref g/\j.heap.get? g=Z Vt/\Vt.cls=.type "tuple")
 |[],UI,e,_=>by
  rw[show UI=[] from e];exact⟨[],trivial,rfl,(λ_ W e=>nomatch e),(λ_ W e=>nomatch e),(λ_ W e=>nomatch e)⟩
 |v::B,UI,e,k=>by
  let⟨u,@r,rfl,t,z⟩:=e;let⟨@ar,n,o,q,w,x⟩:=Bq z λf c=>k f (.tail _ c);let⟨L,@Vs,rfl⟩:=k v (.head _);let⟨g,m,U4,@s,rfl,y,A,C,D⟩:=t;let⟨l,@J,d,h,M⟩:=D;have E:U4[0]?=Z l:=by
   rw[<-hq,d];rfl
  refine⟨l::ar,KatTups.cons y A C E n,by simp[o],λi H a=>?_,λi H a=>?_,λi H a=>?_⟩
  ·rcases bI.mp a with rfl|a
   ·have:=i _ (.head _);unfold qO at this;split at this
    ·rename_i p;cases p;exact⟨_,h⟩
    ·cases this
   ·exact q (λf c=>i f<|.tail _ c) H a
  ·rcases bI.mp a with rfl|a
   ·have:=i _ (.head _);unfold qJ at this;split at this
    ·rename_i p;cases p;exact⟨_,h⟩
    ·cases this
   ·exact w (λf c=>i f<|.tail _ c) H a
  ·rcases bI.mp a with rfl|a
   ·have:=i _ (.head _);unfold ot at this;split at this
    ·rename_i p;cases p;let⟨F,Vb,W,@W,G,U3,U9,W⟩:=h;exact⟨F,Vb,G,U3,U9⟩
    ·cases this
   ·exact x (λf c=>i f<|.tail _ c) H a
def pL(e:jI v=aa):(qO v=aa\/qJ v=aa)/\∃L r,v=.tup (L::r):=by
 unfold jI at e;split at e
 ·exact⟨.inl rfl,_,_,rfl⟩
 ·exact⟨.inr rfl,_,_,rfl⟩
 ·cases e
def Ic(e:ot v=aa):∃L r,v=.tup (L::r):=by
 unfold ot at e;split at e
 ·exact⟨_,_,rfl⟩
 ·cases e
def IX{s:Nat}(h:∀f∈B,∀l∈B,eA s f l=aa)(e:∀v∈B,jI v=aa):(∀v∈B,qO v=aa)\/∀v∈B,qJ v=aa:=by
 cases B with
 |nil=>exact .inl λv hd=>nomatch hd
 |cons f B=>
  have R:∀l∈f::B,∀{p:ab->Bool},(p=qO\/p=qJ)->p f=aa->p l=aa:=λl c {p} j a=>by
   have M:=h f (.head _) l c;have k:=(pL<|e l c).1;have g:=pL (e f<|.head _);let⟨L,r,rfl⟩:=g.2;let⟨J,I,rfl⟩:=(pL<|e l c).2;cases s with
   |zero=>cases M
   |succ s=>
    rw[eA,fU,cV]at M;rcases j with rfl|rfl
    ·rcases oU M.1 with M|⟨_,_,_,_,b,_⟩
     ·rcases M with ⟨_,_,_,d⟩|⟨_,_,b,_⟩
      ·rw[d];rfl
      ·rw[b]at a;cases a
     ·rw[b]at a;cases a
    ·rcases oU M.1 with M|⟨_,_,_,_,b,_⟩
     ·rcases M with ⟨_,_,b,_⟩|⟨_,_,_,d⟩
      ·rw[b]at a;cases a
      ·rw[d];rfl
     ·rw[b]at a;cases a
  rcases (pL<|e f<|.head _).1 with i|i
  ·exact .inl λv hd=>R v hd (.inl rfl) i
  ·exact .inr λv hd=>R v hd (.inr rfl) i
end
section
variable{a:aK}
theorem bP.pick{h:az}{UL:List av}(e:bP h B UL):∀{o:List Nat},(∀q∈o,q<B.length)->bP h (o.map λb=>B.getD b .a6) (o.map λb=>UL.getD b .a6)
 |[],_=>rfl
 |q::o,a=>by
  let⟨@u,c,d⟩:=e.get (b:=q) (v:=B.getD q .a6) (by
   have:=a q (.head _);rw[cT,f3 this];rfl)
  refine⟨u,_,?_,d,e.pick λw f=>a w<|.tail _ f⟩;rw[cK,cT,c];rfl
structure oe(B:List ab):Prop where
 ord:vi B
 fst:(∀v∈B,jI v=aa)\/(∀v∈B,ot v=aa)
structure sC(B:List ab):Prop where
 ord:ow B
 fst:(∀v∈B,jI v=aa)\/(∀v∈B,ot v=aa)
def oe.w{B:List ab}(m:oe B):sC B:=⟨m.ord.w,m.fst⟩
def sC.tup(m:sC B):∀v∈B,∃r,v=.tup r:=λv hd=>by
 rcases m.fst with i|i
 ·let⟨L,r,d⟩:=(pL<|i v hd).2;exact⟨_,d⟩
 ·let⟨L,r,d⟩:=Ic (i v hd);exact⟨_,d⟩
def d4.ub{e Uu:aZ}(q:∀c m,e.get? c=Z m->Uu.get? c=Z m){B:List ab}{S:List af}(f:d4 e B S):d4 Uu B S:=f.keep λg m W W d W W=>q g m d
def C2{e:aZ}{j:ao}(m:sC B)(z:2<=UI.length)(h:d4 j.heap B UI)(O:bB)(Uv:af->ao->Prop)(A:gY->ao->Prop)(c:A (qR<|decide (∀v∈B,jI v=aa)) j):
  wpAny (aS a.prog a.w) O (xF UI.toArray) A Uv j:=by
 let⟨@ar,f,r,k,l,n⟩:=Bq h (m.fst.elim (λi v hd=>(pL<|i v hd).2) λi v hd=>Ic<|i v hd);have s:=h.length;by_cases hf:∀v∈B,jI v=aa
 ·rw[df hf]at c;rcases IX m.ord.jF hf with hf|hf
  ·refine yb (T:=af.type "int") f ⋯ (λu d=>?_) rfl ?_
   ·let⟨b,@I,rfl⟩:=k hf u d;exact x7 rfl
   ·rw[show (af.type "int" != af.type "tuple")=aa by decide];exact c
  ·refine yb (T:=af.type "str") f ⋯ (λu d=>?_) rfl ?_
   ·let⟨b,@I,rfl⟩:=l hf u d;exact x7 rfl
   ·rw[show (af.type "str" != af.type "tuple")=aa by decide];exact c
 ·rw[ep hf]at c;have o:=m.fst.resolve_left hf;refine yb (T:=af.type "tuple") f ⋯ (λu d=>?_) rfl ?_
  ·let⟨g,@Vt,rfl,p,q⟩:=n o u d;have:Looks (aS a.prog a.w) j.heap (p3<|.ref g) Vt.cls:=(Looks.ld p).andThen .now;rw[q]at this;exact this
  ·rw[show (af.type "tuple" != af.type "tuple")=aq by decide];exact c
def DX(u:a.calm=aa)(S:a.A.units+20<b9):eY a (.builtin "sorted") (λy h A=>∃(g:ae) (B:List ab) (UL:List av),y=[.ref g]/\(dm a.K h g UL\/cp a.K h g UL)/\bP h B UL/\sC B/\
  ∀M VJ,h M=Y->bP h (ij a9 B) VJ->A (.ref M) (upd h M<|.lst VJ)):=by
 intro G j x h y UR A i r e;let⟨g,B,@UL,rfl,UH,Uw,m,p⟩:=e;let⟨@H,rfl,D⟩:=iM r;cases D;have E:UL.length<=1000:=by rw[<-Uw.length];exact m.ord.o7
 have go:∀{F:String}{UI:List af}{s:Nat}{Vt:a7},(F = "list" \/ F = "tuple")->bZ UL UI->j.heap.get? g=Z Vt->Vt.cls=.type F->Vt.data=.seq UI.toArray s->wpAny (aS a.prog a.w) a.A (call (.builtin "sorted") [.ref g]) (eN a G x A) a.cL j:=by
  intro F UI s Vt I c d au f;have l:=Uw.fp i.aT c;have J:UI.length=B.length:=l.length.symm;refine Eh u (qD B) (qR<|decide (∀v∈B,jI v=aa)) i c I d au f E (λz n Vn q O Uv A L=>C2 (e:=n) m z (l.ub q) O Uv A L) (λn Vn q=>?_) (.inl (by have:=m.ord.o7;lia)) λo M k t aU=>?_
  ·refine Cz (j:={j with heap:=n,toks:=Vn}) m.ord (l.ub q) m.tup (λN=>?_) (by show a.A.units+1+1+9<b9;lia);exact eR N
  ·rw[J]at k t;have P:(o.toList.map λb=>B.getD b .a6)=ij a9 B:=HD m.ord (Ab k) (Dk m.ord k t);refine p M _ aU ?_;rw[<-P];exact Uw.pick λq R=>ip.mp (k.mem_iff.mp R)
 rcases UH with UH|UH
 ·let⟨@UI,c,o,W⟩:=i.list UH;let⟨@Vt,d,au,⟨@s,f⟩⟩:=o.isList;exact go (.inl rfl) c d au f
 ·let⟨@UI,c,o,W⟩:=i.tuple UH;let⟨@Vt,d,au,⟨@s,f⟩⟩:=o;exact go (.inr rfl) c d au f
theorem Bk{h:az}:∀{UK:List (List ab×av)}{T:List (List ab×ae×af)},er (λ(o:List ab×av) (p:List ab×ae×af)=>o.1=p.1/\hH h o.1 p.2.1/\cm o.2 p.2.2) UK T->
  bP h (UK.map λo=>.tup o.1) (T.map λf=>av.ref f.2.1)/\bZ (T.map λf=>av.ref f.2.1) (T.map λf=>af.ref f.2.1)
 |_,_,.nil=>⟨rfl,.nil⟩
 |_,_,.cons r I=>by
  let@⟨t,z⟩:=Bk I;exact⟨⟨_,_,rfl,r.2.1.2,t⟩,.cons rfl z⟩
def Jk(bd:a.calm=aa)(cs:a.A.units+20<b9):eY a (.builtin "sorted") (λy h A=>∃(v:ae) (UK:List (List ab×av)),y=[.ref v]/\h v=Z (.aQ UK)/\oe (UK.map λo=>.tup o.1)/\
  ∀M VJ,h M=Y->bP h (ij a9<|UK.map λo=>.tup o.1) VJ->A (.ref M) (upd h M<|.lst VJ)):=by
 intro G j x h y UR A F r e;let⟨v,@UK,rfl,hd,g,p⟩:=e;let⟨@H,rfl,be⟩:=iM r;cases be;let@⟨i,D,⟨@T,rel,⟨m,bi,@Vu,bm,bn,bs,bv,ai⟩⟩⟩:=F.aT v _ hd;let@⟨Uw,n⟩:=Bk rel;have U:iZ j.heap v (T.map λf=>af.ref f.2.1) Vu:=⟨m,bi,bm,bn,bs,by rw[bv,gr];rfl⟩;generalize (T.map λf=>af.ref f.2.1)=UI at n U;generalize (T.map λf=>av.ref f.2.1)=UL at Uw n;generalize db:(UK.map λo=>ab.tup o.1)=B at Uw g p;have L:=Uw.fp F.aT n;have al:UI.length=B.length:=L.length.symm;have o7:=g.ord.o7;have ds:UL.length=UI.length:=n.length;have am:UI.length<=sizeLine:=fl ⋯ (show 1000<=sizeLine by decide);refine xV kind_sorted G5 IE (Iz _) ?i
 case i=>
  unfold bw.«sorted»;refine aB (m:=checkCount "sorted" 1 1 _) (a_<|aB<|kdu_collect (A:=a.A.in1) (LM D) (F.ok.hd bd) U am λUu Vn N P an=>?_);have ca:N.toList=UI:=by
   apply Aw
   ·rw[fW];exact an.1
   ·intro b t z;have:=an.2 b N.toList[b] (by rw[<-hq];exact f3 t);have this:UI[b]?=Z N.toList[b]:=this;rw[f3 z]at this;exact (Option.some.inj this).symm
  rw[ca];refine aB (zR ?_ am);have ap:(Uu.push<|gA "list" UI.toArray 0).get? Uu.objs.size=Z (gA "list" UI.toArray 0):=dr _ rfl;have bx:∀c m,j.heap.get? c=Z m->(Uu.push<|gA "list" UI.toArray 0).get? c=Z m:=λc m d=>b5 _ (P c m d);have as:aG a G x h {j with heap:=Uu,toks:=Vn}:=F.kept P;have a1:∀c m,j.heap.get? c=Z m->c≠Uu.objs.size:=λc m d=>d8 (cb<|P c m d);refine aB (iR<|iS A6 ⟨_,ap,rfl⟩ D3 ?l<|FV _)
  case l=>
   refine E0 (j:={j with heap:=Uu.push (gA "list" UI.toArray 0),toks:=Vn}) (qD B) (qR<|decide (∀v∈B,jI v=aa)) ap
    (λz Q R A cd=>C2 (a:=a) (e:=Q) g.w z (L.ub λc m s=>R c m (a1 c m s)<|bx c m s) _ _ A cd)
    (λQ R=>Cz (j:={j with heap:=Q,toks:=Vn}) g.w.ord (L.ub λc m s=>R c m (a1 c m s)<|bx c m s) g.w.tup (λce=>eR ce) (by show a.A.units+1+1+9<b9;lia))
    (.inl ⋯) ⋯ λo z k a2 U9 ⟨ch,ci⟩=>⟨_,rfl,a_ ⟨_,rfl,?_⟩⟩;have cl:h Uu.objs.size=Y:=as.aT.fresh (bT _);have co:∀c m,Uu.get? c=Z m->c≠Uu.objs.size:=λc m d=>d8 (cb d);rw[al]at k a2;refine⟨.ref Uu.objs.size,upd h Uu.objs.size<|.lst<|o.toList.map λb=>UL.getD b .a6,?_,rfl,p _ _ cl ?_⟩
   ·refine as.laid (Va:=Vn) (λc H d=>U9 c H (co c H d)<|b5 _ d) (bT _) ⟨?_,_,ch,?_,ci⟩
    ·rw[bS,fW,k.size];lia
    ·refine zw ↥0 λb u H t z=>?_;rw[gy]at t z;cases S:o.toList[b]? with
     |none=>rw[S]at t;cases t
     |some q=>
      rw[S]at t z;cases t;cases z;have I:q<UI.length:=by rw[al];exact ip.mp (k.mem_iff.mp<|nF S)
      let⟨@H,J,cr⟩:=n.get (b:=q) (f:=UL[q]'⋯) (by simp[show q<UL.length by lia]);rw[f3 I]at J;have J:=Option.some.inj J;simp only[List.getD,f3 I,f3 (show q<UL.length by lia),q7];rw[J];exact cr
   ·rw[<-HD g.w.ord (Ab k) (Dk g.w.ord k a2)];exact Uw.pick λq I=>ip.mp (k.mem_iff.mp I)
def zb(B:List ab):Bool:=(decide (B.length<=1000)&&B.all (λg=>B.all λc=>eA 6 g c)&&decide B.Nodup&&(B.all jI || B.all ot))
def oJ:zb B=aa↔oe B:=by
 unfold zb;rw[cV,cV,cV,wH,hA,hA,iU,iU,iU];constructor
 ·rintro⟨⟨⟨t,z⟩,a⟩,b⟩;exact⟨⟨t,λg d c e=>iU.mp (z g d) c e,a⟩,b⟩
 ·rintro⟨⟨t,z,a⟩,b⟩;exact⟨⟨⟨t,λg d=>iU.mpr λc e=>z g d c e⟩,a⟩,b⟩
def g9(B:List ab):Option ak:=(if zb B=aa then Z (.lst<|ij a9 B) else Y)
def fk:hN:=(λB=>match B with
 |[.lst f]=>match l1 f with
  |some UP=>wz [.lst f]
  |none=>g9 f
 |[.im (.tup f)]=>g9 f
 |[.aQ UK]=>g9 (UK.map λo=>.tup o.1)
 |_=>Y)
def xZ{v:ak}(e:g9 B=Z v):oe B/\v=.lst (ij a9 B):=by
 unfold g9 at e;split at e
 ·rename_i d;cases e;exact⟨oJ.mp d,rfl⟩
 ·cases e
theorem CZ{h:az}:∀{UK:List (List ab×ab)}{U:List (List ab×av)},e1 h UK U->(UK.map λo=>ab.tup o.1)=U.map λo=>ab.tup o.1
 |_,_,.nil=>rfl
 |_,_,.cons r I=>by rw[cK,cK,CZ I,r.1]
def m5(g:a.calm=aa)(k:a.A.units+20<b9):hn a (.builtin "sorted") fk:=by
 intro G j x h y UR A m r q;let⟨B,@v,n,d,p⟩:=q;unfold fk at d;split at d
 ·rename_i f;split at d
  ·exact J1 g k G j x h y UR A m r ⟨_,v,n,d,p⟩
  ·let@⟨c,rfl⟩:=xZ d;let⟨@u,rfl,⟨W,o,@UL,rfl,t,z,W⟩⟩:=gw n;exact DX g k G j x h _ UR A m r ⟨o,f,UL,rfl,.inl<|dm.of t,z,c.w,λM VJ aU e=>b7.l p aU e⟩
 ·rename_i f;let@⟨c,rfl⟩:=xZ d;let⟨@u,rfl,s⟩:=gw n;let⟨o,@UL,rfl,t,z⟩:=s.i;exact DX g k G j x h _ UR A m r ⟨o,f,UL,rfl,.inr<|cp.of t,z,c.w,λM VJ aU e=>b7.l p aU e⟩
 ·rename_i UK;let@⟨c,rfl⟩:=xZ d;let⟨@u,rfl,⟨W,o,@U,rfl,t,z,W⟩⟩:=gw n;rw[CZ z]at c p;exact Jk g k G j x h _ UR A m r ⟨o,U,rfl,t,c,λM VJ aU e=>b7.l p aU e⟩
 ·cases d
end
end L2
namespace PySem
open PySem.Sem (wp)
def TP:typeLookup (.type "list") "keys" = pure Y:=by rw[typeLookup_type,builtinLookup_eq_fast];kernel_rfl
def QS{UG:bC}{C:bg}{O:bB}{Uv:af->ao->Prop}{j:ao}{g:ae}{y:Array af}{q:Nat}{A:Option af->ao->Prop}(a:j.heap.get? g=Z {cls:=.type "list",data:=.seq y q})(i:O.handled=Y)(e:∀Uu Vn,(∀c m,j.heap.get? c=Z m->Uu.get? c=Z m)->A Y {j with heap:=Uu,toks:=Vn}):wpAny (aS UG C) O (getAttr? (.ref g) "keys") A Uv j:=by
 let⟨k,J,v,Vn,UN⟩:=j;have b:∀f,(⟨k,J,v,f,UN⟩:ao).TypeIs (.ref g) "list" := λ_=>⟨_,a,rfl⟩;have p:=sub_AttributeError;have r:=Ag.lookup;have s:=Ag.bind (.ref g);have t:=am_list_getattr_none;unfold getAttr? getAttrBy? getAttrBy;repeat (any_goals (first|assumption|exact b _|((with_reducible show wpAny _ _ (call (af.builtin "list.__getattribute__") _ _) _ _ _);refine qp Ag (b _) am_entry_list_getattribute (F.args_list_getattribute_2 _ _) (meets_getattribute_miss_list g y q _ "keys" _ TP (by decide +kernel) ∅) ⟨a,i,λUu f d h=>?_⟩)|wp_step))
 let⟨Va,@u,l⟩:=h.there;show wpAny _ _ (D4 _ _ _ _ _ _ _) _ _ _;unfold D4;have n:∀o,(⟨Uu,J,v,o,UN⟩:ao).TypeIs (.ref d) "AttributeError" := λ_=>⟨_,l,rfl⟩;repeat (any_goals (first|assumption|exact n _|wp_step))
 exact e Uu _ h.keeps
end PySem
namespace PySem
namespace F
def HF:xK table "dict.update.loop" = Z bw.«dict.update.loop»:=entryFor_of_tree (by kernel_rfl)
def tu:plainId "dict.update.loop" = aa:=by decide +kernel
end F
end PySem
namespace L2
open Spec PyProof.Rows PySem.W
variable{H u:af}{O:bB}{j:ao}{UM:Pos}{q:bj}
theorem y7{U1 VH:Type}{N:U1->VH->Prop}:∀{a:List U1}{d:List VH},er N a d->∀(b:Nat),b<a.length->∃g c,a[b]?=Z g/\d[b]?=Z c/\N g c
 |_,_,.nil,b,e=>by simp at e
 |_,_,.cons r I,0,e=>⟨_,_,rfl,rfl,r⟩
 |_,_,.cons r I,b+1,e=>by
  let⟨g,@c,f,l,i⟩:=y7 I b ⇑e;exact⟨g,c,by simpa using f,by simpa using l,i⟩
def pw:List ab->Option (List<|List ab×ab)
 |[]=>Z []
 |.tup [.tup q,v]::r=>(pw r).map λj=>(q,v)::j
 |_=>Y
def TK:∀{f:List ab}{UJ:List (List ab×ab)},pw f=Z UJ->f=UJ.map λo=>.tup [.tup o.1,o.2]:=by
 intro f;induction f with
 |nil=>intro UJ e;cases e;rfl
 |cons g f a=>
  intro UJ e;unfold pw at e;split at e
  ·cases e;rename_i d;cases d
  ·rename_i q v r d;cases d;let⟨@j,b,c⟩:=cx.mp e;cases c;rw[cK,<-a b]
  ·cases e
def m_(UJ:List (List ab×ab)):List (List ab×ab):=(UJ.foldl (λg o=>g_ g o.1 o.2) [])
def xA(h:az)(u:av)(o:List ab×ab):Prop:=(∃I g l,u=.ref I/\h I=Z (.tup [.ref g,l])/\hH h o.1 g/\cO h o.2 l)
theorem Dc{h:az}:∀{UJ:List (List ab×ab)}{UL:List av},(∀o∈UJ,ab.keys 7 o.1=aa)->bP h (UJ.map λo=>.tup [.tup o.1,o.2]) UL->er (xA h) UL UJ
 |[],UL,_,e=>by rw[show UL=[] from e];exact .nil
 |o::UJ,UL,a,e=>by
  let⟨u,@r,rfl,⟨I,@VJ,rfl,t,⟨v1,@n,rfl,z,⟨b,@c,rfl,d,f⟩⟩⟩,i⟩:=e;cases (show c=[] from f);let⟨g,@j,rfl,k,l⟩:=z;exact .cons ⟨I,g,b,rfl,t,⟨a o<|.head _,g,j,rfl,k,l⟩,d⟩ (Dc (λp m=>a p<|.tail _ m) i)
section
variable{a:aK}{G:List (ae×a7)}{x:L2.a5}{h:az}{VF:ao}
def c9.is{UK:List (List ab×av)}{y:List (List ab×ae×af)}(r:c9 h UK y):∀f∈y,hH h f.1 f.2.1:=by
 intro f a;let⟨b,Uw,rfl⟩:=xc.mp a;let⟨o,@p,t,z,c,d,W⟩:=y7 r b (by rw[er.length r];exact Uw);rw[f3 Uw]at z;have z:=Option.some.inj z;subst z;rw[<-c];exact d
def wV(b:aG a G x h VF){k:ae}{e Uu:aZ}{UK:List (List ab×av)}{y:List (List ab×ae×af)}(d:e.DictOfH (hS a.prog a.w) k y)(Vr:c9 h UK y)(c8:∀c m,VF.heap.get? c=Z m->Uu.get? c=Z m)(g:∀m,e.get? k=Z m->Uu.get? k=Z m):Uu.DictOfH (hS a.prog a.w) k y:=by
 let⟨m,T,@Vu,t,z,i,j,W,l⟩:=d;have n:aG a G x h {VF with heap:=Uu}:=b.kept (Va:=VF.toks) c8;exact⟨m,T,Vu,g m t,z,i,j,λf o=>lR (e:=Uu) n.aT<|Vr.is f o,l⟩
def Jj(t:aG a G x h VF){O:bB}(as:O.units+20<b9){k fj M:ae}{S:List af}{UL:List av}{UJ:List (List ab×ab)}{a5:Nat->aZ->Prop}{UA:Result->ao->Prop}(v:bZ UL S)(Q:er (xA h) UL UJ)(fd:UJ.length<=1000)(W:od a.prog a.w O.in1 fj [fj,M] [fj] S.length (λb u=>S[b]?=Z u) a5)(a1:VF.heap.get? k=Y)(z:VF.heap.get? fj=Y)(A:k≠fj)(a2:k≠M)(fin:∀(j:ao) (y:List (List ab×ae×af)) (UK:List (List ab×av)),(∀c m,VF.heap.get? c=Z m->j.heap.get? c=Z m)->j.heap.DictOfH (hS a.prog a.w) k y->c9 h UK y->e1 h (m_ UJ) UK->UK.length<=1000->
   j.gens=VF.gens->j.drawn=VF.drawn->j.os=VF.os->UA (.ok<|.ret .none) j):
  ∀(E b:Nat) (I:ib) (j:ao) (y:List (List ab×ae×af)) (UK:List (List ab×av)),S.length-b=E->b<=S.length->a5 b j.heap->(∀c m,VF.heap.get? c=Z m->j.heap.get? c=Z m)->
   j.heap.DictOfH (hS a.prog a.w) k y->c9 h UK y->e1 h (m_<|UJ.take b) UK->UK.length<=b->j.gens=VF.gens->j.drawn=VF.drawn->j.os=VF.os->
   codeAny (aS a.prog a.w) O (.builtin "dict.update.loop" ⟨[.ref k,.ref fj,.int b I,.none],[]⟩) UA j:=by
 have fn:S.length=UJ.length:=by rw[<-v.length,er.length Q]
 intro E;induction E with
 |zero=>
  intro b I j y UK bd Uw X c8 B Vr r be D J L;have bi:b=S.length:=⋯
  refine sa F.HF ?_;rw[rF F.tu _];refine aB (m:=hO (.ref fj)) (W.done j _ _ (bi ▸ X) λUu Vn keep=>?_);refine aB (m:=bw.Dict.addKeywords k []) (a_<|a_ ?_);have p:∀c m,c≠fj->j.heap.get? c=Z m->Uu.get? c=Z m:=λc m f d=>keep c m ⇑f d;refine fin _ y UK (λc m d=>p c m (λi=>by rw[i,z]at d;cases d)<|c8 c m d) ?_ Vr (by rw[uR ⋯]at r;exact r) ⋯ D J L;exact wV t B Vr (λc m d=>p c m (λi=>by rw[i,z]at d;cases d)<|c8 c m d) λm d=>p k m A d
 |succ E bm=>
  intro b I j y UK bd Uw X c8 B Vr r be D J L;have lt:b<S.length:=⋯
  refine sa F.HF ?_;rw[rF F.tu _];refine aB (m:=hO (.ref fj)) (W.item b j _ _ lt X λu Uu Vn bn bs keep=>?_);have p:∀c m,c≠fj->j.heap.get? c=Z m->Uu.get? c=Z m:=λc m f d=>keep c m ⇑f d;let⟨l,@n,bv,ca,⟨o,g,@R,rfl,cd,T,ce⟩⟩:=y7 Q b (by rw[v.length];exact lt);let⟨@H,U,ch⟩:=v.get bv;rw[bn]at U;cases U;cases ch;have P:∀c m,VF.heap.get? c=Z m->Uu.get? c=Z m:=λc m d=>p c m (λi=>by rw[i,z]at d;cases d) (c8 c m d);have al:aG a G x h {VF with heap:=Uu}:=t.kept (Va:=VF.toks) P;have ci:=wV t B Vr P λm d=>p k m A d;let@⟨_,⟨@UI,cl,⟨@m,am,co,⟨@s,cr⟩⟩⟩⟩:=al.aT _ _ cd;let⟨dC,@dc,rfl,cs,db⟩:=qX cl;cases cs;show wpAny (aS a.prog a.w) O.in1 (holding [.ref o] _ >>= λ_=>again _) _ _ _;refine aB (iR<|aB<|qY ?_);unfold bw.Dict.pairItems;refine aB (r3 (s:={j with heap:=Uu,toks:=Vn}) (⟨m,am,(Prod.mk.inj co).1⟩:ao.TypeIs {j with heap:=Uu,toks:=Vn} (.ref o) "tuple") ?_);rw[aJ ∅];refine aB (gH (s:={j with heap:=Uu,toks:=Vn}) am cr<|a_ ?_);show wpAny (aS a.prog a.w) O.in1 (holding [.ref g,dc]<|dictSet k (.ref g) dc) _ _ _;refine iR (Hq (s:={j with heap:=Uu,toks:=Vn}) (k:=n.1) (knd:=hS a.prog a.w) (o9 as) (lR (e:=Uu) al.aT T) ci (λds dL b8=>?_) (by
   have:=er.length Vr;exact fl (show y.length<=1000 by lia) ∅))
  have an:∀c m,c≠k->Uu.get? c=Z m->ds.get? c=Z m:=λc m f d=>(b8.2 c f).trans d;have eq:=Vr.put n.1 (c:=g) (l:=R) (H:=dc) T db;have ev:UJ.take (b+1)=UJ.take b++[n]:=by
   have ap:=(gp.mp ca);rw[List.take_succ_eq_append_getElem ap.1,ap.2]
  have ex:e1 h (m_<|UJ.take<|b+1) (hJ UK n.1 R):=by
   rw[ev];unfold m_;rw[Hn];exact e1.put ce r
  refine a_ ⟨pk F.tu _,bm (b+1) 0 _ _ _ ⋯ lt (W.frame _ _ _ bs λc f m d=>an c m (λi=>by
    subst i;rcases bI.mp f with i|f
    ·exact A i
    ·exact a2 (cD.mp f)) d) (λc m d=>an c m (λi=>by rw[i,a1]at d;cases d)<|P c m d) dL eq ex ?_ D J L⟩
  unfold hJ;split
  ·rw[bS];lia
  ·simp;lia
def SR(B:a.calm=aa)(ci:a.A.units+30<b9):eY a (.type "dict") (λy h A=>∃(M:ae) (UL:List av) (UJ:List (List ab×ab)),y=[.ref M]/\h M=Z (.lst UL)/\er (xA h) UL UJ/\UJ.length<=1000/\
  ∀(v:ae) (UK:List (List ab×av)),h v=Y->e1 h (m_ UJ) UK->A (.ref v) (upd h v<|.aQ UK)):=by
 intro G j x h y UR A f r e;let⟨M,UL,@UJ,rfl,Q,R,S,p⟩:=e;let⟨@H,rfl,U⟩:=iM r;cases U;let@⟨i,⟨UI,@s,al,d⟩⟩:=f.aT M _ Q;have D:M<j.heap.objs.size:=cb d;refine callType_codes (Q₁:=λI J=>I=.ref j.heap.objs.size/\J={j with heap:=j.heap.push {cls:=.type "dict",data:=.dict #[]} }) PySem.F.kt_called_dict (PySem.F.kt_typeCall_dict_1 _) PySem.F.entry_dict_init (kt_code_dict_new _ ⟨rfl,rfl⟩) ?_;rintro I J ⟨rfl,rfl⟩;have am:(j.heap.push {cls:=.type "dict",data:=.dict #[]}).DictOfH (hS a.prog a.w) j.heap.objs.size []:=aZ.DictOfH.new j.heap;have L:ao.TypeIs {j with heap:=j.heap.push {cls:=.type "dict",data:=.dict #[]} } (.ref j.heap.objs.size) "dict" := ⟨_,dr _ rfl,rfl⟩;have g:(j.heap.push {cls:=.type "dict",data:=.dict #[]}).get? M=Z {cls:=.type "list",data:=.seq UI.toArray s}:=b5 _ d;refine⟨L,PySem.F.args_dict_init_2 _ _,?_⟩;unfold bw.«dict.__init__»;refine aB ?_;unfold bw.Dict.selfAndRest;refine aB (Eb L ?_);show wpAny _ _ (pure (j.heap.objs.size,[af.ref M])) _ _ _;refine a_ ?_;show wpAny _ _ (bw.Dict.updateFrom "dict.__init__" j.heap.objs.size (.ref M) [] .none) _ _ _;unfold bw.Dict.updateFrom;refine aB (r3 (⟨_,g,rfl⟩:ao.TypeIs {j with heap:=j.heap.push {cls:=.type "dict",data:=.dict #[]} } (.ref M) "list") ?_);rw[aJ ∅];refine aB (QS (j:={j with heap:=j.heap.push {cls:=.type "dict",data:=.dict #[]} }) g (f.ok.hd B) λt Vn U3=>?_);rw[aJ (show (Y:Option af).isNone=aa from rfl)];refine aB (m:=rule _) (iA ?_);have P:t.IsList M UI.toArray:=⟨_,U3 _ _ g,rfl,s,rfl⟩;refine aB (wpAny_pyIter_list (s:={j with heap:=t,toks:=Vn}) P ?_);have l:j.heap.objs.size<t.objs.size:=cb (U3 _ _<|dr _ rfl);have c8:∀c m,j.heap.get? c=Z m->(t.push {cls:=.type "list_iterator",data:=.fields #[.ref M,.int 0 0]}).get? c=Z m:=λc m n=>b5 _ (U3 c m<|b5 _ n);refine a_ ⟨pk PySem.F.tu _,?_⟩;have an:(t.push {cls:=.type "list_iterator",data:=.fields #[.ref M,.int 0 0]}).DictOfH (hS a.prog a.w) j.heap.objs.size []:=wV f (UK:=[]) am .nil c8 λm ap=>b5 _ (U3 _ _ ap);have as:M≠t.objs.size:=d8 (DF D l);refine Jj f (O:=a.A.in1) (by show a.A.units+1+20<b9;lia) (k:=j.heap.objs.size) (fj:=t.objs.size) (M:=M) (a5:=λb e=>e.IsListIter t.objs.size M b/\e.IsList M UI.toArray) al R S ?_ (y6<|bT _) (y6<|ta l) (d8 l) (jL D)
  (λUx y UK a1 a2 bd be co o q z=>?_) UI.length 0 0 _ [] [] rfl (lB _) ?_ c8 an .nil .nil (bT _) rfl rfl rfl
 ·have W:=od.list (prog:=a.prog) (w:=a.w) (A:=a.A.in1.in1) (f.ok.hd B) t.objs.size M as UI.toArray;have bi:(λ(b:Nat) (u:af)=>UI.toArray[b]?=Z u)=λb u=>UI[b]?=Z u:=by
   funext b u;rw[List.getElem?_toArray]
  rw[bi,cX]at W;exact W
 ·let⟨Uu,bm,bn,Va,bs⟩:=Ux;have o:bm=j.gens:=o;have q:bn=j.drawn:=q;have z:bs=j.os:=z;subst o q z;have zH:h j.heap.objs.size=Y:=f.aT.fresh (bT _);let⟨m,T,@Vu,bv,ca,cd,ce,N,ch⟩:=a2;refine⟨rfl,.ref j.heap.objs.size,_,f.laid (m:=.aQ UK) (Uu:=Uu) (Va:=Va) a1 (bT _) ⟨fl (show UK.length<=1000 by lia) ∅,ys.mpr<|f6<|d8 f.big,y,bd.keeps λc UL n=>HZ n zH,m,T,Vu,bv,ca,cd,ce,ch⟩,rfl,p _ UK zH be⟩
 ·exact⟨⟨_,dr _ rfl,rfl,rfl⟩,P.push _⟩
@[simp] def oC:hN:=λB=>match B with
 |[.lst f]=>(pw f).bind λUJ=>if (UJ.all λo=>ab.keys 7 o.1)=aa/\UJ.length<=1000 then Z (.aQ<|m_ UJ) else Y
 |_=>Y
def Ff(e:a.calm=aa)(i:a.A.units+30<b9):hn a (.type "dict") oC:=by
 refine (SR e i).imp λy h A k=>?_;let⟨B,@v,l,d,p⟩:=k;unfold oC at d;split at d
 ·rename_i f;let⟨@UJ,m,b⟩:=bE.mp d;split at b
  ·rename_i c;cases b;let⟨@u,rfl,⟨W,o,@UL,rfl,t,z,W⟩⟩:=gw l;rw[TK m]at z;refine⟨o,UL,UJ,rfl,t,Dc (λp n=>iU.mp c.1 p n) z,c.2,λv UK hd q=>?_⟩;have j:c1 h (upd h v<|.aQ UK):=(c1.refl h).upd hd;exact p _ _ [v] j ⟨v,UK,rfl,eS,q.mono j.tupS.tup,rfl⟩ (fJ _ _) λg r=>by rw[cD.mp r];exact hd
  ·cases b
 ·cases d
end
section
variable{a:aK}
def RM(Vn k:cf):cf:=(λx h A=>∀o,h o=Y->Vn x (upd h o<|.aQ []) λf UD=>k x UD λl UT=>∃c q,f=.ref c/\hH UT q c/\UT o=Z (.aQ [])/\A (.ref o) (upd UT o<|.aQ [(q,l)]))
variable{u:bj}
def NP{Vn k:cf}(an:a.A.units+20<b9)(v:bU a q Vn)(B:bU a u k):bU a (.Dict [Z q] [u] UM) (RM Vn k):=by
 intro G j x h A b p;have D:=b.aT.fresh (bT j.heap.objs.size);have E:=b.laid (g:=j.heap.objs.size) (m:=.aQ []) (Uu:=j.heap.push {cls:=.type "dict",data:=.dict #[]}) (Va:=j.toks) (λ_ W p=>b5 _ p) (bT _) (BC j.heap b.big);refine wpAny_Dict_any rfl rfl ↥0 ↥0 ?_;refine pairTrees_cons_walk (bW (v G _ x _ _ E<|p _ D) λH F ⟨f,UD,I,J,L⟩=>bW (B G F x UD _ I L) λdc M ⟨l,UT,d,N,c,n,Vl,o,e,P⟩=>pairTrees_nil_walk ?_);subst Vl;cases J;let@⟨i,Q,⟨@y,Vr,R⟩⟩:=xR d.aT e;cases Vr;unfold storeAll;rw[pJ];refine aB (aB (Hq (k:=n) (knd:=hS a.prog a.w) (show a.A.units+10<b9 by lia) (lR d.aT o) R (λUu S b8=>a_ ?_)<|lB _));refine a_ ⟨.ref j.heap.objs.size,_,?_,rfl,P⟩;let⟨r,T,@Vu,s,z,U,al,W,am⟩:=S;refine xO (j:=M) d (by rw[e];exact True.intro) b8 ⟨r,s⟩ ⟨(show 1<=sizeLine by decide),Q,_,c9.keeps (c9.put (UK:=[]) (y:=[]) .nil n (c:=c) o N) λas UL t=>?_,r,T,Vu,s,z,U,al,am⟩;rw[cW (Eu t e<|λi=>nomatch i)];exact t
@[simp] def B6(a b:aE ak):aE ak:=λk=>(a k).bind λo=>(b o.2).bind λp=>match o.1,p.1 with
 |.im (.tup q),.im v=>if ab.keys 7 q=aa then Z (.aQ [(q,v)],p.2) else Y
 |_,_=>Y
def Q9{D E:aE ak}(L:a.A.units+20<b9)(M:cv a q D)(P:cv a u E):cv a (.Dict [Z q] [u] UM) (B6 D E):=by
 refine en (NP L M P) λx h A ⟨k,N,r,UO,X,ai,Q,p⟩ o v=>?_;let⟨@⟨U_,UE⟩,t,z⟩:=bE.mp Q;let⟨@⟨Vi,Vd⟩,R,n⟩:=bE.mp z;have j:c1 h (L2.upd h o<|.aQ []):=(c1.refl h).upd v;have F:o∉N:=λi=>by let⟨@m,d,W⟩:=X.chg o i;rw[v]at d;cases d
 refine⟨k,N,U_,UE,X.mono j.tupS λg W m d=>j g m d,ai,t,λf UD UQ as S U0 w=>?_⟩;have T:=dz.mp w.ai;refine⟨UE,UQ,Vi,Vd,S,T.1,R,λl UT U6 b3 U al s=>?_⟩;dsimp only at n;split at n
 ·rename_i fc a1;split at n
  ·rename_i am;cases n;let@⟨dC,rfl⟩:=U0;let@⟨dc,rfl⟩:=al;rw[b_]at w s;have B:=w.seq s;have G:UD o=Z (.aQ []):=w.keep o _ eS F;have I:o∉UQ:=λi=>by
    rcases w.sub o i with e|e
    ·exact F e
    ·rw[eS]at e;cases e
   have C:UT o=Z (.aQ []):=s.keep o _ G I;have J:o∉U6:=λi=>by
    rcases s.sub o i with e|e
    ·exact I e
    ·rw[G]at e;cases e
   let⟨c,@y,rfl,U3,U9⟩:=(show cO UT (.tup fc) f from dC.mono s.tup.tup);refine⟨c,fc,rfl,⟨am,c,y,rfl,U3,U9⟩,C,?_⟩;have fs:eL UT (L2.upd UT o<|.aQ [(fc,l)]):=eL.of (λg y d=>by
    have:g≠o:=λi=>by subst i;rw[C]at d;cases d
    rw[cW this];exact d) λg m H d=>by
    have:g≠o:=λi=>by subst i;rw[C]at d;cases d
    rw[cW this];exact d
   refine p _ _ U6 [o] (U.mono fs λg b m d=>by
    have ne:g≠o:=λi=>by subst i;exact J b
    rw[cW ne];exact d) ⟨o,[(fc,l)],rfl,eS,.cons ⟨rfl,dc.mono fs.tup⟩ .nil,rfl⟩ ?_
   refine⟨λg m d b=>?_,λg b=>?_,?_,?_,λg m d=>?_⟩
   ·have:g≠o:=λi=>by subst i;rw[v]at d;cases d
    rw[cW this];exact B.keep g m (by rw[cW this];exact d) b
   ·rcases dv.mp b with e|e
    ·rcases B.sub g e with Uu|Uu
     ·exact .inl Uu
     ·by_cases d:g=o
      ·exact .inr (d ▸ v)
      ·rw[cW d]at Uu;exact .inr Uu
    ·exact .inr (by rw[cD.mp e];exact v)
   ·exact dz.mpr ⟨s.ai,fJ _ _,λg b c an d=>J (by rw[cD.mp an]at d;rw[<-d];exact b)⟩
   ·exact (j.tupS.trans B.tup).trans fs
   ·by_cases i:g=o
    ·exact⟨_,by rw[i];exact eS⟩
    ·let⟨@Vb,ap⟩:=B.grow g m (by rw[cW i];exact d);exact⟨Vb,by rw[cW i];exact ap⟩
  ·cases n
 ·cases n
end
def K4:String->bw:=((⟨_,rfl⟩:{L:String->bw // L "max" = bw.«max» }).1)
def R9:String->lT->bw:=((⟨_,rfl⟩:{L:String->lT->bw // L "max" .Gt=bw.«max.loop» }).1)
section
variable{UG:bC}{C:bg}{O:bB}{Uv:af->ao->Prop}{j:ao}
def DN{B k:String}{Vk:lT}(l:(toString B++toString ".loop" : String)=k)(R:builtinKind B=Y)(S:plainId B=aa)(T:xK table B=Z (K4 B))(U:∀g c:af,argsOk B ⟨[g,c],[]⟩)(a:plainId k=aa)(p:xK table k=Z (R9 B Vk)){g c:af}{q:Bool}{A:af->ao->Prop}(al:O.handled=Y)(am:∀Ux:ao,(∀n m,j.heap.get? n=Z m->Ux.heap.get? n=Z m)->∀(A:af->ao->Prop) (Uv:af->ao->Prop),A (.bool q) Ux->wpAny (aS UG C) O.in1 (n7 Vk c g) A Uv Ux)(e:∀Uu Vn,(∀n m,j.heap.get? n=Z m->Uu.get? n=Z m)->A (if q=aa then c else g) {j with heap:=Uu,toks:=Vn}):wpAny (aS UG C) O (call (.builtin B) [g,c]) A Uv j:=by
 refine call_function_tree R S T (U _ _) ?_;show wpAny _ O.in1 (bw.Builtins.bindParams B ["key","default"] 0 ⟨[],[]⟩ >>= _) _ _ j;refine aB (zi (show bw.Builtins.bindParams B ["key","default"] 0 ⟨[],[]⟩=pure [Y,Y] from rfl) ?_);show wpAny _ O.in1 (zG [g,c] >>= _) _ _ j;refine aB (i4 ?_);have D:(j.heap.push {cls:=.type "tuple",data:=.seq #[g,c]}).IsTuple j.heap.objs.size #[g,c]:=⟨_,dr _ rfl,rfl,0,rfl⟩;refine aB (wpAny_pyIter_tuple D<|aB<|i4 ?_);have o:(j.heap.push {cls:=.type "tuple",data:=.seq #[g,c]}).objs.size=j.heap.objs.size+1:=iE ..;have W:=od.tuple (prog:=UG) (w:=C) (A:=O.in1) al (j.heap.push {cls:=.type "tuple",data:=.seq #[g,c]}).objs.size j.heap.objs.size (by rw[o];exact d8 (qQ _)) #[g,c];rw[l];refine a_ ⟨pk a _,?_⟩;have r:((j.heap.push {cls:=.type "tuple",data:=.seq #[g,c]}).push {cls:=.type "tuple_iterator",data:=.fields #[.ref j.heap.objs.size,.int 0 0]}).IsTupleIter (j.heap.push {cls:=.type "tuple",data:=.seq #[g,c]}).objs.size j.heap.objs.size 0:=⟨_,dr _ rfl,rfl,rfl⟩;have E:=D.push {cls:=.type "tuple_iterator",data:=.fields #[.ref j.heap.objs.size,.int 0 0]};have s:((j.heap.push {cls:=.type "tuple",data:=.seq #[g,c]}).push {cls:=.type "tuple_iterator",data:=.fields #[.ref j.heap.objs.size,.int 0 0]}).objs.size=j.heap.objs.size+2:=by rw[iE,o]
 have c8:∀n m,j.heap.get? n=Z m->((j.heap.push {cls:=.type "tuple",data:=.seq #[g,c]}).push {cls:=.type "tuple_iterator",data:=.fields #[.ref j.heap.objs.size,.int 0 0]}).get? n=Z m:=λn m d=>b5 _ (b5 _ d);rw[o]at W r;rw[o,s];generalize bn:((j.heap.push {cls:=.type "tuple",data:=.seq #[g,c]}).push {cls:=.type "tuple_iterator",data:=.fields #[.ref j.heap.objs.size,.int 0 0]})=g2 at r E s c8 ⊢;have F:(g2.push {cls:=.type "list",data:=.seq ([]:List af).toArray}).get? (j.heap.objs.size+2)=Z {cls:=.type "list",data:=.seq ([]:List af).toArray}:=by rw[<-s];exact dr _ rfl
 have v:j.heap.objs.size+2∉[j.heap.objs.size+1]:=by simp
 have G:∀n∈[j.heap.objs.size+1,j.heap.objs.size],j.heap.objs.size+2≠n:=λn b i=>by
  simp only[bI,jT,e_]at b;rcases b with d|d
  ·rw[d]at i;exact absurd i (jL<|qQ _)
  ·rw[d]at i;exact absurd i (jL (Nat.lt_add_of_pos_right ∅))
 have f:∀n m,j.heap.get? n=Z m->n∉[j.heap.objs.size+1]/\n≠j.heap.objs.size+2:=λn m d=>by
  have lt:=cb d;refine⟨λi=>?_,d8<|fe lt<|lL _ _⟩;rw[cD.mp i]at lt;exact i1 _ (Nat.lt_of_succ_lt lt)
 have fin:∀(Uu:aZ) (Vn:Nat) (h:af) (H:Nat),(∀n m,j.heap.get? n=Z m->Uu.get? n=Z m)->Uu.get? (j.heap.objs.size+2)=Z {cls:=.type "list",dict:=Y,data:=.seq #[h,h] H,slots:=#[]}->
   Uu.IsTupleIter (j.heap.objs.size+1) j.heap.objs.size 2/\Uu.IsTuple j.heap.objs.size #[g,c]->h=(if q=aa then c else g)->
   codeAny (aS UG C) O (.builtin k ⟨[.ref (j.heap.objs.size+1),.none,.ref<|j.heap.objs.size+2],[]⟩) (wants A Uv) {j with heap:=Uu,toks:=Vn}:=by
  intro Uu Vn h H U3 I X jY;refine sa p ?_;rw[rF a _];show wpAny _ O.in1 (rK (.ref<|j.heap.objs.size+2) >>= _) _ _ _;refine aB (gH (s:={j with heap:=Uu,toks:=Vn}) I rfl ?_);show wpAny _ O.in1 (tryCatch (hO<|.ref<|j.heap.objs.size+1) _ >>= _) _ _ _;refine aB (qY<|W.done {j with heap:=Uu,toks:=Vn} _ _ X λz an fc=>?_);have ap:=fc _ _ v I;show wpAny _ O.in1 (updateSeq (j.heap.objs.size+2) (λ_=>#[]) >>= _) _ _ _;refine aB (xX ap rfl<|aB<|kk<|a_ ?_);show A h _;rw[jY];exact e _ an λn m d=>(kH _ _<|f6 (f n m d).2).trans (fc n m (f n m d).1 (U3 n m d))
 refine sa p ?_;rw[rF a _];show wpAny _ O.in1 (rK (.ref<|j.heap.objs.size+2) >>= _) _ _ _;refine aB (gH (s:={j with heap:=g2.push {cls:=.type "list",data:=.seq ([]:List af).toArray} }) F rfl ?_);show wpAny _ O.in1 (tryCatch (hO<|.ref<|j.heap.objs.size+1) _ >>= _) _ _ _;refine aB (qY (W.item 0 {j with heap:=g2.push {cls:=.type "list",data:=.seq ([]:List af).toArray} } _ _ ↥0 ⟨let ⟨m,as,a1⟩:=r;⟨m,b5 _ as,a1⟩,E.push _⟩ λu t bs w a2 U3=>?_));cases w;have J:=U3 _ _ v F;show wpAny _ O.in1 (updateSeq (j.heap.objs.size+2) (λ_=>#[g,g]) >>= _) _ _ _;refine aB (xX J rfl ?_);rw[l];refine a_ ⟨pk a _,sa p ?_⟩;have L:=rR (a7.mapSeq<|λ_=>(#[g,g]:Array af)) J rfl;have bd:=W.frame _ _ (t.update (j.heap.objs.size+2)<|a7.mapSeq<|λ_=>(#[g,g]:Array af)) a2 λn b m d=>(kH _ _<|G n b).trans d;have be:∀n m,j.heap.get? n=Z m->(t.update (j.heap.objs.size+2)<|a7.mapSeq<|λ_=>(#[g,g]:Array af)).get? n=Z m:=λn m d=>(kH _ _<|f6 (f n m d).2).trans (U3 n m (f n m d).1 (b5 _<|c8 n m d));rw[rF a _];show wpAny _ O.in1 (rK (.ref<|j.heap.objs.size+2) >>= _) _ _ _;refine aB (gH L rfl ?_);show wpAny _ O.in1 (tryCatch (hO<|.ref<|j.heap.objs.size+1) _ >>= _) _ _ _;refine aB (qY (W.item 1 _ _ _ ↥0 bd λu bi M w N P=>?_));cases w;have x:=P _ _ v L;have y:∀n m,j.heap.get? n=Z m->bi.get? n=Z m:=λn m d=>P n m (f n m d).1 (be n m d);show wpAny _ O.in1 (tryCatch (holding [c,c]<|n7 Vk c g >>= _) _ >>= _) _ _ _;refine aB (qY<|iR<|aB<|am _ y _ _ ?_);refine aB (iR<|mq ?_);refine aB (kk<|a_ ?_);cases Q:q with
 |true=>
  simp only[hK];refine aB (xX x rfl<|aB<|kk ?_);rw[l];have bm:=rR (a7.mapSeq<|λ_=>(#[c,c]:Array af)) x rfl;refine a_ ⟨pk a _,fin _ M c _ (λn m d=>(kH _ _<|f6 (f n m d).2).trans<|y n m d) bm (W.frame _ _ _ N λn b m d=>(kH _ _<|G n b).trans d) (by rw[Q];rfl)⟩
 |false=>
  simp only[k7,ih];refine aB (kk ?_);rw[l];exact a_ ⟨pk a _,fin _ M g _ y x N (by rw[Q];rfl)⟩
end
section
variable{UG:bC}{C:bg}{O:bB}{Uv:af->ao->Prop}{j:ao}{g c:af}{q:Bool}{A:af->ao->Prop}
def Qd(a:O.handled=Y)(b:∀Ux:ao,(∀n m,j.heap.get? n=Z m->Ux.heap.get? n=Z m)->∀(A:af->ao->Prop) (Uv:af->ao->Prop),A (.bool q) Ux->wpAny (aS UG C) O.in1 (n7 .Gt c g) A Uv Ux)(e:∀Uu Vn,(∀n m,j.heap.get? n=Z m->Uu.get? n=Z m)->A (if q=aa then c else g) {j with heap:=Uu,toks:=Vn}):wpAny (aS UG C) O (call (.builtin "max") [g,c]) A Uv j:=
 DN ∅ F.kind_max F.plain_max F.entry_max F.args_max2 F.plain_max_loop F.entry_max_loop a b e
def Ta(a:O.handled=Y)(b:∀Ux:ao,(∀n m,j.heap.get? n=Z m->Ux.heap.get? n=Z m)->∀(A:af->ao->Prop) (Uv:af->ao->Prop),A (.bool q) Ux->wpAny (aS UG C) O.in1 (n7 .Lt c g) A Uv Ux)(e:∀Uu Vn,(∀n m,j.heap.get? n=Z m->Uu.get? n=Z m)->A (if q=aa then c else g) {j with heap:=Uu,toks:=Vn}):wpAny (aS UG C) O (call (.builtin "min") [g,c]) A Uv j:=
 DN ∅ F.kind_min F.plain_min F.entry_min F.args_min2 F.plain_min_loop F.entry_min_loop a b e
end
def uL(O:bB)(j:ao)(l f:af)(q:Bool):Prop:=(∀(UG:bC) (C:bg) (Uv:af->ao->Prop) (A:af->ao->Prop),A (.bool q) j->wpAny (aS UG C) O (n7 .Gt l f) A Uv j)
section
open PySem.SeqAt
open PySem.AutoSeq1 (wpAny_loadPart')
open PySem.MeetsSeq PySem.MeetsSeq2 PySem.MeetsSeq3
def M3(M c:ae)(U4 a:Array af)(s y:Nat)(A B:Option ae)(aY D:Array (Option af))(UJ:List (Bool×Bool))(Q:UJ.length=min U4.size a.size):
  Meets (bw.«tuple.__gt__» ⟨[.ref M,.ref c],[]⟩)
   (λO UA j=>j.heap.get? M=Z {cls:=.type "tuple",dict:=A,data:=.seq U4 s,slots:=aY}/\j.heap.get? c=Z {cls:=.type "tuple",dict:=B,data:=.seq a y,slots:=D}/\
    (∀w (t:w<U4.size) (z:w<a.size) (m:w<UJ.length),EqAt O.in1 j U4[w] a[w] (UJ[w]).1/\((UJ[w]).1=aq->uL O.in1 j U4[w] a[w] (UJ[w]).2))/\
    UA (.ok<|.ret<|.bool<|h3 (decide (a.size<U4.size)) UJ) j):=
 .of_wp λUG C O UA j e=>by
  let⟨i,J,v,Vn,UN⟩:=j;let@⟨E,F,G,e⟩:=e;have R:=Fm;have o:(U4.toList.zip a.toList).length=min U4.size a.size:=by simp
  wp_walk using wpAny_loadPart' E,wpAny_loadPart' F,rL _ (λc2 c Ux=>c.1=Y/\Ux=⟨i,J,v,Vn,UN⟩/\∃b,c2=(U4.toList.zip a.toList).drop b/\
   UA (.ok<|.ret<|.bool<|h3 (decide (a.size<U4.size))<|UJ.drop b) ⟨i,J,v,Vn,UN⟩) _
  case turn=>
   rintro⟨l,f⟩ c2 c Ux ⟨n,rfl,b,g,h⟩;have p:b<(U4.toList.zip a.toList).length:=by
    rcases vc b (U4.toList.zip a.toList).length with Uu|Uu
    ·exact Uu
    ·rw[m2 Uu]at g;cases g
   have S:b<min U4.size a.size:=o ▸ p;have t:b<U4.size:=⋯
   have z:b<a.size:=⋯
   have m:b<UJ.length:=⋯
   rw[jK p]at g;injection g with r H;have I:l=U4[b]:=by have:=congrArg Prod.fst r;simpa using this
   have L:f=a[b]:=by have:=congrArg Prod.snd r;simpa using this
   subst I L;rw[jK m]at h;let@⟨u,x⟩:=G b t z m;generalize UJ[b]=N at h u x;let⟨d,q⟩:=N;refine aB (u UG C _ _ ?_);cases d with
   |true=>
    have k:UA (.ok<|.ret<|.bool<|h3 (decide (a.size<U4.size))<|UJ.drop<|b+1) ⟨i,J,v,Vn,UN⟩:=h
    wp_walk
    exact⟨rfl,rfl,b+1,H,k⟩
   |false=>
    have k:UA (.ok<|.ret<|.bool q) ⟨i,J,v,Vn,UN⟩:=h;have P:=x rfl UG C
    wp_walk using P
    exact⟨_,rfl,by simpa using k⟩
  case fin=>
   rintro⟨aR,aX⟩ Ux ⟨n,rfl,b,g,h⟩;simp only at n;subst n;have T:min U4.size a.size<=b:=by
    rcases vc b (U4.toList.zip a.toList).length with Uu|Uu
    ·rw[jK Uu]at g;cases g
    ·exact o ▸ Uu
   rw[m2 ⋯]at h;have k:UA (.ok<|.ret<|.bool<|decide (a.size<U4.size)) ⟨i,J,v,Vn,UN⟩:=h
   wp_walk
   exact⟨_,rfl,by simpa [bw.Tuple.tupleCompareSizes] using k⟩
  case h=>
   exact⟨rfl,rfl,0,rfl,by simpa using e⟩
end
def kN(B T:List ab):List (Bool×Bool):=((B.zip T).map λo=>(cu o.1 o.2,a9 o.2 o.1))
def L3(g c:ab):ab.beq g c=ab.beq c g:=by
 rw[ll,ab.beq_iff,ab.beq_iff];exact⟨λe=>e.symm,λe=>e.symm⟩
theorem H7:∀{s:Nat}{B T:List ab},fU s B T=aa->h3 (decide (T.length<B.length)) (kN B T)=gc T B
 |_,[],[],_=>rfl
 |s,g::r,c::I,e=>by
  rw[fU,cV]at e;show (if cu g c=aa then h3 (decide (I.length+1<r.length+1)) (kN r I) else a9 c g)=gc (c::I) (g::r);rw[gc,(qC e.1).2.2,<-H7 e.2,L3,lD.mpr wy]
 |_,[],_::_,_=>rfl
 |_,_::_,[],_=>rfl
def J9{b w:Int}(a:dB j.heap (.int b) H)(c:dB j.heap (.int w) u):uL O j H u (a9 (.int w)<|.int b):=by
 let⟨@I,rfl⟩:=a;let⟨@Va,rfl⟩:=c;intro UG C Uv A p;rw[a9]at p;exact (TY p:wpAny (aS UG C) O (dW .Gt (.int b I)<|.int w Va) A Uv j)
def BS{f l:ab}(M:yf f l)(a:dB j.heap f H)(e:dB j.heap l u):uL O j H u (a9 l f):=by
 rcases M with ⟨b,w,rfl,rfl⟩|⟨g,c,rfl,rfl⟩
 ·exact J9 a e
 ·let⟨I,rfl⟩:=a;let⟨Va,rfl⟩:=e;intro UG C Uv A p;rw[a9]at p;exact richCompare_gives (op:=.Gt) (yE j g I) (yE j c Va) PySem.F.slot_str_gt PySem.F.entry_str_gt (PySem.F.args_str_gt_2 _ _) (PySem.gives_str_gt g c I Va) (λd=>nomatch d) p
def Sq(s:Nat):∀{O:bB}{f l:ab}{H u:af},eA s f l=aa->O.units+s+2<b9->dB j.heap f H->dB j.heap l u->uL O j H u (a9 l f):=by
 induction s with
 |zero=>
  intro O f l H u e L a b;rcases oU e with M|⟨E,_,_,d,_⟩
  ·exact BS M a b
  ·cases d
 |succ s P=>
  intro O f l H u e L a b;rcases oU e with M|⟨E,B,T,d,rfl,rfl,e⟩
  ·exact BS M a b
  cases d;let⟨g,m,UI,@E,rfl,t,z,h,k⟩:=a;let⟨c,Vb,R,@Q,rfl,n,o,q,r⟩:=b;let⟨cls,S,data,aY⟩:=m;let⟨a1,U,a2,al⟩:=Vb;simp only at z h o q;subst z h o q;have v:B.length=UI.size:=by rw[k.length,fW]
  have x:T.length=R.size:=by rw[r.length,fW]
  intro UG C Uv A p;rw[a9,<-H7 e,v,x]at p;have am:(kN B T).length=min UI.size R.size:=by rw[kN,bS,v7,v,x]
  refine IB (op:=.Gt) ⟨_,t,rfl⟩ ⟨_,n,rfl⟩ PySem.F.slot_tuple_gt PySem.F.entry_tuple_gt (PySem.F.args_tuple_gt_2 _ _) (M3 g c UI R E Q S U aY al (kN B T) am)
   ⟨t,n,λw bG an ap=>?_,show af.bool (h3 (decide (R.size<UI.size))<|kN B T)≠af.notImplemented/\A (.bool<|h3 (decide (R.size<UI.size))<|kN B T) j from ⟨(λf=>nomatch f),p⟩⟩ ⋯;let⟨@U_,y,D⟩:=k.get (w:=w) (u:=UI[w]) (by rw[hq];simp[bG]);let⟨@Vi,G,I⟩:=r.get (w:=w) (u:=R[w]) (by rw[hq];simp[an]);have lk:=zv e y G;have J:=qC lk;have as:(kN B T)[w]=(cu U_ Vi,a9 Vi U_):=by
   have:(kN B T)[w]?=Z (cu U_ Vi,a9 Vi U_):=by
    rw[kN,gy,(Iv (z:=(U_,Vi))).mpr ⟨y,G⟩];rfl
   rw[f3 ap]at this;exact Option.some.inj this
  rw[as];exact⟨i6 s J.1 J.2.1 (by show O.units+1+s+1<b9;lia) D I,λ_=>P lk (by show O.units+1+s+2<b9;lia) D I⟩
section
variable{a:aK}
def O3(i:a.calm=aa)(l:a.A.units+20<b9):eY a (.builtin "max") (λy h A=>∃(v d:ab) (u H:av),y=[u,H]/\eA 6 d v=aa/\cO h v u/\cO h d H/\A (if a9 v d=aa then H else u) h):=by
 intro G j x h y UR A b r e;let⟨v,d,u,@H,rfl,lk,t,z,p⟩:=e;let⟨n,@o,rfl,c,f⟩:=qX r;refine Qd (q:=a9 v d) (b.ok.hd i) (λUx q A Uv k=>?_) λUu Vn q=>⟨if a9 v d=aa then H else u,h,b.kept q,?_,p⟩
 ·exact Sq 6 lk (by show a.A.units+1+6+2<b9;lia) ((z.fp b.aT f).keep λg m W W d W W=>q g m d) ((t.fp b.aT c).keep λg m W W d W W=>q g m d) a.prog a.w Uv A k
 ·split
  ·exact f
  ·exact c
def S4(i:a.calm=aa)(l:a.A.units+20<b9):eY a (.builtin "min") (λy h A=>∃(v d:ab) (u H:av),y=[u,H]/\eA 6 d v=aa/\cO h v u/\cO h d H/\A (if a9 d v=aa then H else u) h):=by
 intro G j x h y UR A b r e;let⟨v,d,u,@H,rfl,lk,t,z,p⟩:=e;let⟨n,@o,rfl,c,f⟩:=qX r;refine Ta (q:=a9 d v) (b.ok.hd i) (λUx q A Uv k=>?_) λUu Vn q=>⟨if a9 d v=aa then H else u,h,b.kept q,?_,p⟩
 ·exact yH 6 lk (by show a.A.units+1+6+2<b9;lia) ((z.fp b.aT f).keep λg m W W d W W=>q g m d) ((t.fp b.aT c).keep λg m W W d W W=>q g m d) a.prog a.w Uv A k
 ·split
  ·exact f
  ·exact c
def tP:hN:=(λB=>match B with
 |[.im (.int b),.im<|.int w]=>rV [.im (.int b),.im<|.int w]
 |[.im (.tup g),.im<|.tup c]=>if eA 6 (.tup c) (.tup g)=aa then Z (.im<|if a9 (.tup g) (.tup c)=aa then .tup c else .tup g) else Y
 |_=>Y)
def vI:hN:=(λB=>match B with
 |[.im (.int b),.im<|.int w]=>sQ [.im (.int b),.im<|.int w]
 |[.im (.tup g),.im<|.tup c]=>if eA 6 (.tup c) (.tup g)=aa then Z (.im<|if a9 (.tup c) (.tup g)=aa then .tup c else .tup g) else Y
 |_=>Y)
def Lj(e:a.calm=aa)(l:a.A.units+20<b9):hn a (.builtin "max") tP:=by
 intro G j x h y UR A f r m;let⟨B,@v,k,d,p⟩:=m;unfold tP at d;split at d
 ·exact D2 e G j x h y UR A f r ⟨_,v,k,d,p⟩
 ·split at d
  ·rename_i g c lk;cases d;let⟨u,@H,rfl,t,z⟩:=w6 k;refine O3 e l G j x h _ UR A f r ⟨_,_,u,H,rfl,lk,t,z,b7.i p ?_⟩;split
   ·exact z
   ·exact t
  ·cases d
 ·cases d
def Jw(e:a.calm=aa)(l:a.A.units+20<b9):hn a (.builtin "min") vI:=by
 intro G j x h y UR A f r m;let⟨B,@v,k,d,p⟩:=m;unfold vI at d;split at d
 ·exact Av e G j x h y UR A f r ⟨_,v,k,d,p⟩
 ·split at d
  ·rename_i g c lk;cases d;let⟨u,@H,rfl,t,z⟩:=w6 k;refine S4 e l G j x h _ UR A f r ⟨_,_,u,H,rfl,lk,t,z,b7.i p ?_⟩;split
   ·exact z
   ·exact t
  ·cases d
 ·cases d
end
mutual
def sl:ab->nf
 |.int b=>.int b
 |.aC c=>.bool c
 |.str f=>.str f
 |.tup B=>.tuple (nB B)
 |_=>.none
def nB:List ab->List nf
 |[]=>[]
 |v::r=>sl v::nB r
end
mutual
theorem Lu{e:aZ}:∀{s:Nat}{v:ab}{H:af},ab.bF s v=aa->dB e v H->Reads e H (sl v) []
 |_,.a6,H,_,d=>by cases (show H=.none from d);exact .none
 |_,.aC c,H,_,d=>by cases (show H=.bool c from d);exact .bool c
 |_,.int b,H,_,d=>by let⟨@I,rfl⟩:=d;exact .int b I
 |_,.str f,H,_,d=>by let⟨@I,rfl⟩:=d;exact .str f I
 |s+1,.tup B,H,q,d=>by
  let⟨g,m,U4,@E,rfl,t,z,a,h⟩:=d;exact .tuple t z a (FQ (s:=s) q h)
 |0,.tup B,H,q,d=>by cases q
 |s,.fn g,H,q,d=>by cases s<;>cases q
 |s,.aU g,H,q,d=>by cases s<;>cases q
 |s,.fd,H,q,d=>by cases s<;>cases q
theorem FQ{e:aZ}:∀{s:Nat}{B:List ab}{UR:List af},ab.cQ s B=aa->d4 e B UR->ReadsAll e UR (nB B) []
 |_,[],UR,_,d=>by rw[show UR=[] from d];exact .nil
 |s,v::B,UR,q,d=>by
  let⟨u,@r,rfl,t,z⟩:=d;rw[ab.cQ,cV]at q;exact .cons (Lu q.1 t) (FQ q.2 z)
end
mutual
theorem My:∀v:ab,nf.hasDict (sl v)=aq
 |.a6=>rfl
 |.aC _=>rfl
 |.int _=>rfl
 |.str _=>rfl
 |.fn _=>rfl
 |.aU _=>rfl
 |.fd=>rfl
 |.tup B=>Im B
theorem Im:∀B:List ab,nf.hasDictAll (nB B)=aq
 |[]=>rfl
 |v::r=>by
  show (nf.hasDict (sl v) || PyData.hasDictAll (nB r))=aq;rw[My v,Im r];rfl
end
def Sh(B:List ab):Bool:=(ab.cQ 7 B&&nf.showableAll (nB B)&&decide (nf.depthAll (nB B)<=8)&&decide ((tupleText<|nf.shownAll<|nB B).length<=100000))
@[simp] def Uo:hN:=λB=>match B with
 |[.im (.tup f)]=>if Sh f=aa then Z (.im<|.str (sl<|.tup f).shown) else Y
 |_=>Y
section
variable{a:aK}
def uB(UP:List Int):Int:=(preSum (λb=>(UP[b]?).getD 0) UP.length)
@[simp] def vf:hN:=λB=>match B with
 |[.lst f]=>(l1 f).map λUP=>.im (.int<|uB UP)
 |_=>Y
def Pt(q:a.calm=aa):hn a (.builtin "sum") vf:=by
 intro G j x h y UR A e r w;let⟨B,@v,C,d,p⟩:=w;unfold vf at d;split at d
 ·rename_i f;let⟨@UP,D,E⟩:=cx.mp d;cases E;let⟨@u,rfl,⟨W,M,@UL,rfl,t,z,W⟩⟩:=gw C;cases z_ D;cases xh z;let⟨@H,rfl,F⟩:=iM r;cases F;let@⟨i,⟨UI,@s,k,d⟩⟩:=e.aT M _ t;have l:j.heap.IsList M UI.toArray:=⟨_,d,rfl,s,rfl⟩;have I:UI.length=UP.length:=by rw[<-k.length,bS]
  refine call_sum_walkAnyS (wpAny_pyIter_list l ⟨j.heap.objs.size,[j.heap.objs.size,M],[j.heap.objs.size],_,UI.toArray.size,_,_,λb=>(UP[b]?).getD 0,rfl,(od.list (A:=a.A.in1) (e.ok.hd q) _ M (d8<|cb d) UI.toArray).toS,
   ⟨⟨_,dr _ rfl,rfl,rfl⟩,l.push _⟩,λc g=>?_,λb u J=>Pm k b u ⇑J,λUx Va n=>?_⟩)
  ·show c<(j.heap.push _).objs.size;rw[iE];rcases bI.mp g with rfl|g
   ·exact qQ _
   ·rw[cD.mp g];exact Nat.lt_succ_of_lt (cb d)
  ·have L:∀c m,j.heap.get? c=Z m->Ux.heap.get? c=Z m:=λc m o=>
    n.heap c m (λN=>absurd (cb o) (by rw[cD.mp N];exact i1 _)) (b5 _ o);rw[Moved.eq_with n,cX,I];exact⟨.int _,h,e.kept L,⟨_,rfl⟩,b7.i p rfl⟩
 ·cases d
end
end L2
namespace G
open L2
variable{n c g:Int×Int}{Uy:List (Int×Int)}{e:ak}{s:Nat}
def Cm:bt:=((cy<|cY<|aj (V<|bR vI<|aj (ag 0)<|aj (ag 1) aA)<|aj (V<|bR tP<|aj (ag 0)<|aj (ag 1) aA) aA))
def sF:cP:=(c5 2 2 [0,1] Cm)
def L7:bt:=((bL (d3 (bx<|aw p6 (V<|aw a4 (ag 0)<|V<|au<|.int 0)<|V<|au<|.int 0) (bL (cj 2<|aw fN (V<|aw a4 (ag 0)<|V<|au<|.int 0)<|ag 1)<|bL (fE (aw om (V<|aw a4 (ag 0)<|V<|au<|.int 0)<|ag 1)<|jE 0 (au<|.int 0) lK)<|cy<|fO 2) eX)<|bL (fE (aw dg (V<|aw a4 (ag 0)<|V<|au<|.int 2)<|V<|au<|.int 1)<|jE 0 (au<|.int 2) lK)<|bL (cj 3<|aw fN (V<|aw el (V<|aw dg (V<|aw a4 (ag 0)<|V<|au<|.int 1)<|V<|aw el (V<|aw a4 (ag 0)<|V<|au<|.int 2)<|V<|au<|.int 104729)<|V<|au<|.int 48271)<|V<|au<|.int 2305843009213693951)<|bL (fE (aw fN (V<|aw el (ag 3)<|V<|aw dg (V<|aw fN (ag 3)<|V<|au<|.int 1009)<|V<|au<|.int 69621)<|V<|au<|.int 2305843009213693951)<|jE 0 (au<|.int 1) lK)<|cy<|aw fN (V<|aw om (V<|aw a4 (ag 0)<|V<|au<|.int 1)<|V<|au<|.int 1000003)<|ag 1))
def ri:cP:=(c5 2 4 [0,1] L7)
def PT:bt:=((cy<|eC<|aj (V<|cY<|aj (V<|aw iy (V<|aw a4 (ag 0)<|V<|au<|.int 0)<|V<|au<|.int 1)<|aj (V<|aw a4 (ag 0)<|V<|au<|.int 1) aA)<|aj (V<|cY<|aj (V<|aw a4 (ag 0)<|V<|au<|.int 0)<|aj (V<|aw iy (V<|aw a4 (ag 0)<|V<|au<|.int 1)<|V<|au<|.int 1) aA)<|aj (V<|cY<|aj (V<|aw a4 (ag 0)<|V<|au<|.int 0)<|aj (V<|aw dg (V<|aw a4 (ag 0)<|V<|au<|.int 1)<|V<|au<|.int 1) aA)<|aj (V<|cY<|aj (V<|aw dg (V<|aw a4 (ag 0)<|V<|au<|.int 0)<|V<|au<|.int 1)<|aj (V<|aw a4 (ag 0)<|V<|au<|.int 1) aA) aA))
def J4:cP:=(c5 1 1 [0] PT)
def Ov:bt:=((bL (cj 4<|aw a4 (V<|bh 1 G.J4<|aj (V<|aw a4 (ag 2)<|V<|bh 2 G.ri<|aj (ag 0)<|aj (V<|bR eo<|aj (ag 2) aA) aA) aA)<|V<|bh 2 G.ri<|aj (ag 0)<|aj (V<|au<|.int 4) aA)<|d3 (eO (bx<|aw mc (ag 4)<|ag 2)<|eO (bx<|gF e5 e5 (V<|au<|.int 0) (V<|aw a4 (ag 4)<|V<|au<|.int 0)<|V<|au<|.int 24)<|bx<|gF e5 e5 (V<|au<|.int 0) (V<|aw a4 (ag 4)<|V<|au<|.int 1)<|V<|au<|.int 24) (jg<|gu iP 2 hW<|aj (ag 4) aA) eX))
def ON:bt:=((bL (cj 2<|eC<|aj (V<|cY<|aj (V<|au<|.int 12)<|aj (V<|au<|.int 12) aA) aA)<|bL (gv (nc<|aj (V<|bh 2 G.ri<|aj (ag 0)<|aj (ag 1) aA) aA) (bb 3) G.Ov)<|cy<|fO 2))
def OZ:cP:=(c5 2 5 [0,1] ON)
def M1:bt:=((jg<|gu iP 5 qa<|aj (V<|bh 2 G.ri<|aj (ag 0)<|aj (V<|bR eo<|aj (ag 5) aA) aA) aA))
def Mx:aE ak:=((fO 0))
def M9:aE Bool:=((bx<|aw es (V<|aw el (V<|aw fN (V<|aw a4 (ag 0)<|V<|au<|.int 0)<|V<|au<|.int 2)<|V<|aw fN (V<|aw fN (V<|aw a4 (ag 0)<|V<|au<|.int 1)<|V<|au<|.int 3)<|V<|au<|.int 2)<|V<|au<|.int 0))
def ah(o:Int×Int):ab:=(.tup [.int o.1,.int o.2])
abbrev aL(UJ:List (Int×Int)):ak:=.im (.tup<|UJ.map ah)
abbrev a3(UJ:List (Int×Int)):ak:=.lst (UJ.map ah)
abbrev hp(v j I:Int):ak:=.lst [.int v,.int j,.int I]
def f9(s:Nat)(e:ak):Prop:=(∃v j I,e=hp v j I/\0<=v/\0<=j/\j<2^62/\0<=I/\I+s<2^40)
def f9.mono{E:Nat}(f:f9 s e)(d:E<=s):f9 E e:=by
 let⟨v,j,@I,rfl,t,z,a,b,c⟩:=f;exact⟨v,j,I,rfl,t,z,a,b,⋯⟩
def f9.lst(f:f9 s e):∃p,e=.lst p:=by
 let⟨v,j,@I,rfl,W⟩:=f;exact⟨_,rfl⟩
def dS(o:Int×Int):List ab:=([.int o.1,.int o.2])
def zP(o:Int×Int):ah o=.tup (dS o):=rfl
def o_(e:dS g=dS c):g=c:=by
 unfold dS at e;simp at e;exact eD e.1 e.2
def zx(e:ah g=ah c):g=c:=by
 rw[zP,zP]at e;exact o_ (by injection e)
def QM(o:Int×Int):ab.keys 7 (dS o)=aa:=rfl
def ov:ab->Int×Int
 |.tup [.int g,.int c]=>(g,c)
 |_=>(0,0)
def GS(o:Int×Int):ov (ah o)=o:=rfl
def tY(o:Int×Int):ab.bF 8 (ah o)=aa:=rfl
theorem t5:∀UJ:List (Int×Int),ab.cQ 8 (UJ.map ah)=aa
 |[]=>rfl
 |o::r=>by rw[cK,ab.cQ,tY,t5 r];rfl
def mI(g c:Int×Int):cu (ah g) (ah c)=decide (g=c):=by
 show ((g.1==c.1)&&((g.2==c.2)&&aa))=_;let⟨a,b⟩:=g;let⟨aR,aX⟩:=c;by_cases t:a=aR<;>by_cases z:b=aX<;>simp[t,z]
def Rc(UJ:List (Int×Int))(n:Int×Int):((UJ.map ah).any λf=>cu f<|ah n)=decide (n∈UJ):=by
 rw[ye,ll,oO,hA];constructor
 ·rintro⟨f,a,d⟩;have:decide (f=n)=aa:=by rw[<-mI];exact d
  rw[<-eR this];exact a
 ·intro e;refine⟨n,e,?_⟩;show cu (ah n) (ah n)=aa;rw[mI];exact df rfl
theorem EO:∀(M:List ab) (Uy:List (Int×Int)),(∀f∈M,f∈Uy.map ah)->M=(M.map ov).map ah
 |[],_,_=>rfl
 |f::M,Uy,e=>by
  let⟨@o,W,d⟩:=ew.mp (e f<|.head _);rw[cK,cK,<-EO M Uy λl a=>e l<|.tail _ a,<-d,GS]
def C4{M:List ab}(e:M.Perm (Uy.map ah)):∃O:List (Int×Int),O.Perm Uy/\M=O.map ah:=by
 refine⟨M.map ov,?_,EO M Uy λf a=>e.mem_iff.mp a⟩;have:=zB ov e;rw[gr]at this;have d:(ov ∘ ah:Int×Int->Int×Int)=id:=funext GS;rw[d,y9]at this;exact this
def uw(ai:Uy.Nodup)(a:Uy.length<=1000):oe (Uy.map ah):=by
 refine⟨⟨by rw[bS];exact a,λg b c e=>?_,?_⟩,.inl λv hd=>?_⟩
 ·let⟨@f,W,rfl⟩:=ew.mp b;let⟨@l,W,rfl⟩:=ew.mp e;rfl
 ·exact Bn ah (λg c s d=>s<|zx d) ai
 ·let⟨@f,W,rfl⟩:=ew.mp hd;rfl
def RG{UK:List (List ab×ab)}{q:List ab}:(eU UK q).isSome=UK.any λo=>decide (o.1=q):=by
 unfold eU;rw[tF,List.isSome_find?]
def bD(Uy:List (Int×Int)):List (List ab×ab):=(Uy.map λn=>(dS n,.aC aa))
def xj(Uy:List (Int×Int))(n:Int×Int):((bD Uy).any λo=>decide (o.1=dS n))=decide (n∈Uy):=by
 unfold bD;rw[ye,ll,oO,hA];constructor
 ·rintro⟨f,a,d⟩;have:dS f=dS n:=eR d;rw[<-o_ this];exact a
 ·intro e;exact⟨n,e,df rfl⟩
def Tn(Uy:List (Int×Int))(n:Int×Int):(eU (bD Uy)<|dS n).isSome=decide (n∈Uy):=by rw[RG,xj]
def O9(e:n∉Uy):g_ (bD Uy) (dS n) (.aC aa)=bD (Uy++[n]):=by
 unfold g_;rw[aO (by rw[xj];simpa using e)];unfold bD;rw[fz];rfl
def I0{U1:Type}{a:List U1}(e:a≠[]):∃b C,a=b++[C]:=⟨a.dropLast,a.getLast e,(List.dropLast_concat_getLast e).symm⟩
def KR(o:Int×Int):eH [ab.int o.1,.int o.2] 0=Z (.int o.1):=rfl
def N6(o:Int×Int):eH [ab.int o.1,.int o.2] 1=Z (.int o.2):=rfl
def qs{cs:List (Int×Int)}{b:Int}(Vx:0<=b)(e:cs[b.toNat]?=Z n):eH (cs.map ah) b=Z (ah n):=xN Vx (by rw[gy,e];rfl)
def yU(UJ:List (Int×Int))(n:Int×Int):ho (ah n) (a3 UJ)=Z (decide (n∈UJ)):=by
 rw[MV,tY,t5,Rc];rfl
theorem GZ{U1 VH:Type}(L:U1->VH):∀(M:List U1) (q:Nat),(M.map L).eraseIdx q=(M.eraseIdx q).map L
 |[],_=>rfl
 |_::_,0=>rfl
 |g::M,q+1=>by simp[GZ L M q]
def mid:bt:=((d3 (iT (bx<|aw es (ag 2)<|V<|au<|.int 1)<|bx<|aw es (ag 2)<|V<|au<|.int 2) (gv (nc<|aj (V<|bh 2 G.ri<|aj (ag 0)<|aj (V<|aw dg (V<|au<|.int 1)<|V<|aw om (V<|bR eo<|aj (ag 5) aA)<|V<|au<|.int 2) aA) aA) (bb 6) G.M1)<|d3 (bx<|aw es (ag 2)<|V<|au<|.int 3) (cj 5<|de 1 [] (dD<|ag 5) (bb 0) G.M9 G.Mx)<|d3 (bx<|aw p6 (ag 2)<|V<|au<|.int 3) (cj 5<|bh 2 G.OZ<|aj (ag 0)<|aj (ag 1) aA) eX))
abbrev ba:=(Int×Int)×(Int×Int)
def ig(d:ba):List ab:=([ah d.1,ah d.2])
def Gf{g c:ba}(e:ig g=ig c):g=c:=by
 unfold ig at e;injection e with t z;injection z with z _;exact eD (zx t) (zx z)
def iL(g c:Int×Int):ba:=((if a9 (ah c) (ah g)=aa then c else g,if a9 (ah g) (ah c)=aa then c else g))
def Sz(g c:Int×Int):vI [.im (ah g),.im<|ah c]=Z (.im<|ah (iL g c).1):=by
 show (if eA 6 (ah c) (ah g)=aa then Z (ak.im<|if a9 (ah c) (ah g)=aa then ah c else ah g) else Y)=Z (.im<|ah<|if a9 (ah c) (ah g)=aa then c else g);rw[aJ (show eA 6 (ah c) (ah g)=aa from rfl)];split<;>rfl
def Ls(g c:Int×Int):tP [.im (ah g),.im<|ah c]=Z (.im<|ah (iL g c).2):=by
 show (if eA 6 (ah c) (ah g)=aa then Z (ak.im<|if a9 (ah g) (ah c)=aa then ah c else ah g) else Y)=Z (.im<|ah<|if a9 (ah g) (ah c)=aa then c else g);rw[aJ (show eA 6 (ah c) (ah g)=aa from rfl)];split<;>rfl
def BL:List (ba×Int)->ba->List (ba×Int)
 |[],d=>[(d,1)]
 | (L,s)::r,d=>if L=d then (L,s+1)::r else (L,s)::BL r d
def cnt(Vz:List (ba×Int))(UJ:List ba):List (ba×Int):=(UJ.foldl (λVz o=>BL Vz<|iL o.1 o.2) Vz)
def Rn(g c:Int×Int):sF [.im (ah g),.im<|ah c]=Z (.im<|.tup<|ig<|iL g c,[.im (ah g),.im<|ah c]):=by
 have t:=Sz g c;have z:=Ls g c;simp -implicitDefEqProofs [sF,Cm,t,z,ig]
end G
namespace L2
open Spec PyProof.Rows PySem.W
variable{w b:Int}{g:ae}
structure lx(Q:Φ)(UB:bC)(C:bg)(Vr:List (ae×List ab))(cz:List (ae×List (List ab×ae))):Prop where
 tup:∀o∈Vr,∃y,(∀h,cp Q h o.1 y)/\∀h,bP h o.2 y
 M6:∀o∈cz,∃y:List (List ab×ae×af),(∀e:aZ,Q.In e->e.DictOfH (hS UB C) o.1 y)/\(y.map λf=>(f.1,f.2.2))=o.2.map λp=>(p.1,af.ref p.2)
structure dM where
 gB:ae
 kt:List (ae×List ab)
 cz:List (ae×List (List ab×ae))
@[simp] def vQ(cz:List (ae×List (List ab×ae)))(g:ae)(q:List ab):Option ae:=(cz.find? λo=>decide (o.1=g)).bind λo=>(o.2.find? λp=>decide (p.1=q)).map (·.2)
@[simp] def j3(Vr:List (ae×List ab))(g:ae)(b:Int):Option ab:=(Vr.find? λo=>decide (o.1=g)).bind λo=>eH o.2 b
@[simp] def d9(Vr:List (ae×List ab))(cz:List (ae×List (List ab×ae))):fM:=λg c=>match g,c with
 |.im (.fn g),.im (.int b)=>(j3 Vr g b).map .im
 |.im (.fn g),.im (.tup q)=>if ab.keys 7 q=aa then (vQ cz g q).map λv=>.im (.fn v) else Y
 |g,c=>a4 g c
theorem DT:∀{y:List (List ab×ae×af)}{UL:List (List ab×ae)}{q:List ab}{p:List ab×ae},(y.map λf=>(f.1,f.2.2))=(UL.map λp=>(p.1,af.ref p.2))->(UL.find? λp=>decide (p.1=q))=Z p->∃n,kg y q=Z (n,.ref p.2)
 |[],[],q,p,_,L=>by cases L
 |[],l::UL,q,p,d,L=>by cases d
 |f::y,[],q,p,d,L=>by cases d
 |f::y,l::UL,q,p,d,L=>by
  rw[cK,cK]at d;injection d with a b;injection a with c g;rw[jl]at L;unfold kg;rw[jl,c];split at L
  ·rename_i e;cases L;rw[e];exact⟨f.2.1,by rw[<-g];rfl⟩
  ·rename_i e;rw[e];exact DT b L
section
variable{a:aK}{Vr:List (ae×List ab)}{cz:List (ae×List (List ab×ae))}
def M7(i:a.A.units+20<b9)(F:lx a.K a.prog a.w Vr cz):iq a (λf l h A=>∃g q c v,f=.ref g/\l=.ref c/\hH h q c/\vQ cz g q=Z v/\A (.ref v) h):=by
 intro D L G j x h f l u H A b m r ⟨g,q,c,v,s,t,z,hd,p⟩ UH;subst s t;cases m;cases r;let⟨@o,e,B⟩:=bE.mp hd;let⟨@y,k,Vl⟩:=F.M6 o (F2 e);have bQ:=FP e;have bQ:o.1=g:=eR bQ;let⟨@E,I,rfl⟩:=cx.mp B;have d:=k j.heap b.kd;rw[bQ]at d;let⟨@n,J⟩:=DT Vl I;exact x4 d.typeIs Dv.lookup (CK (o9 i) (lR b.aT z) d J ⟨.ref E.2,h,b.tok _,rfl,p⟩) UH
def jB(n:a.A.units+20<b9)(F:lx a.K a.prog a.w Vr cz):iq a (λf l h A=>∃U_ Vi v,e8 h U_ f/\e8 h Vi l/\d9 Vr cz U_ Vi=Z v/\∀u P UA,c1 h P->cE P v u UA->UA.Nodup->(∀g∈UA,h g=Y)->A u P):=by
 refine ((EX n).or<|EH.or<|M7 n F).imp λf l h A s=>?_;let⟨U_,Vi,@v,e,j,d,p⟩:=s;unfold d9 at d;split at d
 ·let⟨@q,k,m⟩:=cx.mp d;cases m;let⟨@o,r,t⟩:=bE.mp k;let⟨@y,UW,Vh⟩:=F.tup o (F2 r);have bQ:=FP r;have bQ:=eR bQ;let⟨@u,x,z⟩:=wi (Vh h) t;exact .inr (.inl ⟨o.1,y,_,u,by rw[bQ];exact e.i,j.i,UW h,x,b7.i p z⟩)
 ·split at d
  ·rename_i B;let⟨@q,k,m⟩:=cx.mp d;cases m;let⟨c,@y,rfl,U3,U9⟩:=j.i;exact .inr (.inr ⟨_,_,c,q,e.i,rfl,⟨B,c,y,rfl,U3,U9⟩,k,b7.i p rfl⟩)
  ·cases d
 ·exact .inl ⟨U_,Vi,v,e,j,d,p⟩
end
def oE(a x VK b U0 c d e f g h i j:ae):dM:=(⟨a,[(x,[.fn VK,.fn b]),(U0,[.fn c,.fn d]),(e,[.fn f,.fn g]),(h,[.fn i,.fn j]),(VK,[.int (-1),.int 0]),(b,[.int 0,.int 1]),(c,[.int 0,.int 1]),(d,[.int 1,.int 0]),(f,[.int 1,.int 0]),(g,[.int 0,.int<|-1]),(i,[.int 0,.int<|-1]),(j,[.int (-1),.int 0])],
 [(a,[([.int 0,.int 0],x),([.int 0,.int 1],U0),([.int 1,.int 1],e),([.int 1,.int 0],h)])]⟩)
def hu(Q:Φ)(g:ae)(b w:Int):Prop:=(∃v I H s j,Q.lookup g=Z ⟨.type "tuple",v,.seq #[.int b I,.int w H] s,j⟩)
def oo(Q:Φ)(g f l:ae):Prop:=(∃v s j,Q.lookup g=Z ⟨.type "tuple",v,.seq #[.ref f,.ref l] s,j⟩)
variable{Q:Φ}{UB:bC}{C:bg}
def hu.tup(e:hu Q g b w):∃y,(∀h,cp Q h g y)/\∀h,bP h [.int b,.int w] y:=by
 let⟨v,I,H,s,@j,d⟩:=e;refine⟨[.int b,.int w],λh=>.inr ⟨_,_,s,d,rfl,rfl,by show 2<=sizeLine;decide,.cons ⟨I,rfl⟩<|.cons ⟨H,rfl⟩ .nil⟩,λh=>⟨_,_,rfl,rfl,_,_,rfl,rfl,rfl⟩⟩
def oo.tup{f l:ae}(e:oo Q g f l):∃y,(∀h,cp Q h g y)/\∀h,bP h [.fn f,.fn l] y:=by
 let⟨v,s,@j,d⟩:=e;refine⟨[.ref f,.ref l],λh=>.inr ⟨_,_,s,d,rfl,rfl,by show 2<=sizeLine;decide,.cons rfl<|.cons rfl .nil⟩,λh=>⟨_,_,rfl,rfl,_,_,rfl,rfl,rfl⟩⟩
def hu.is(e:hu Q g b w){c:aZ}(a:Q.In c):(hS UB C).is c [.int b,.int w] g:=by
 let⟨v,I,H,s,@j,d⟩:=e;exact⟨rfl,g,_,_,s,rfl,a _ _ d,rfl,rfl,_,_,rfl,⟨I,rfl⟩,_,_,rfl,⟨H,rfl⟩,rfl⟩
def E4{n p x VK g U3 U0 h i U9 b j k q c l m:ae}{Vx t z r:Int}{s:Nat}(v:Q.lookup n=Z ⟨.type "dict",Y,.dict #[⟨Vx,.ref p,.ref x⟩,⟨t,.ref U3,.ref U0⟩,⟨z,.ref U9,.ref b⟩,⟨r,.ref q,.ref c⟩] s,#[]⟩)(w:Vx=nh C (.tup [.int 0,.int 0]))(y:t=nh C (.tup [.int 0,.int 1]))(A:z=nh C (.tup [.int 1,.int 1]))(B:r=nh C (.tup [.int 1,.int 0]))(D:hu Q p 0 0)(E:hu Q U3 0 1)(F:hu Q U9 1 1)(G:hu Q q 1 0)(H:oo Q x VK g)(I:oo Q U0 h i)(J:oo Q b j k)(L:oo Q c l m)(VF:hu Q VK (-1) 0)(M:hu Q g 0 1)(N:hu Q h 0 1)(O:hu Q i 1 0)(P:hu Q j 1 0)(R:hu Q k 0 (-1))(S:hu Q l 0 (-1))(T:hu Q m (-1) 0):
  lx Q UB C (oE n x VK g U0 h i b j k c l m).kt (oE n x VK g U0 h i b j k c l m).cz:=by
 constructor
 ·intro o d;simp only[oE,bI,hs,e_]at d;rcases d with e|e|e|e|e|e|e|e|e|e|e|e<;>subst e
  ·exact H.tup
  ·exact I.tup
  ·exact J.tup
  ·exact L.tup
  ·exact VF.tup
  ·exact M.tup
  ·exact N.tup
  ·exact O.tup
  ·exact P.tup
  ·exact R.tup
  ·exact S.tup
  ·exact T.tup
 ·intro o d;simp only[oE,bI,hs,e_]at d;subst d;subst w y A B;refine⟨[([.int 0,.int 0],p,.ref x),([.int 0,.int 1],U3,.ref U0),([.int 1,.int 1],U9,.ref b),([.int 1,.int 0],q,.ref c)],λe a=>⟨_,_,s,a _ _ v,⟨rfl,rfl,rfl⟩,rfl,rfl,λf u=>?_,?_⟩,rfl⟩
  ·simp only[bI,hs,e_]at u;rcases u with e|e|e|e<;>subst e
   ·exact D.is a
   ·exact E.is a
   ·exact F.is a
   ·exact G.is a
  ·simp
end L2
namespace L2
open Spec PyProof.Rows PySem.W
variable{b:Nat}
def oN(k:a0)(b:Nat)(B:List ab):Bool:=(match k[b]? with
 |some (Z<|.lst l)=>decide (l=B)
 |_=>aq)
def lu(b:Nat)(B:List ab)(Vc:fi)(c:bt):List ab->bt
 |[]=>λk=>if oN k b B=aa then Z (.aM,k) else Y
 |f::r=>λk=>if oN k b B=aa then (Vc (.im f) k).bind λUE=>(c UE).bind λp=>match p.1 with
  |.aM=>lu b B Vc c r p.2
  |.cG=>lu b B Vc c r p.2
  |.dI=>Z (.aM,p.2)
  |.dR v=>Z (.dR v,p.2) else Y
def y8(b:Nat)(Vc:fi)(c:bt):bt:=(λk=>match k[b]? with
 |some (Z<|.lst B)=>lu b B Vc c B k
 |_=>Y)
def ET{k:a0}{B:List ab}(e:oN k b B=aa):k[b]?=Z (Z<|.lst B):=by
 unfold oN at e;split at e
 ·rename_i l d;rw[d,eR e]
 ·cases e
section
variable{a:aK}
def KD{UU Vm:List Nat}{Vc Vy:bj}{VN:List bz}{l:fi}{Vp:bt}{UM:Pos}(bv:oW (aS a.prog a.w) a.A a.env a.cL)(ca:a.calm=aa)(Uw:dH a Vy (ag b))(cd:hD a Vm Vc l)(ce:hX a Vm VN Vp)(ch:∀b∈UU,b∈Vm)(UH:b∈Vm)(ci:∀f,lS Vy a.env f=pure f:=by intro W;rfl):gG a UU (.For Vc Vy VN [] UM) (y8 b l Vp):=by
 refine ke (BD bv ca (FH Uw) cd ce ci) λUv x h cl=>?_;let⟨k,N,L,@Vd,X,ai,M,p⟩:=cl;unfold y8 at M;split at M
 ·rename_i B as;refine⟨k,N,.aY b,k,X,ai,by unfold ag;rw[as],λu UD UQ UA a1 U0 a2=>?_⟩;let@⟨U0,rfl⟩:=U0;rw[b_]at a2;have T:∀{P:az}{c:a0}{j:a5}{U8:List ae},bA P c j U8->j[b]?=Z (Z u)->c[b]?=Z (Z<|.lst B)->∃g y,u=.ref g/\P g=Z (.lst y)/\bP P B y:=λD co cr=>by
   let⟨f4,f8,@ga,bd,cs,W⟩:=D.out cr;rw[co]at bd;cases bd;let⟨g,@y,d,t,z,W⟩:=cs;exact⟨g,y,d,t,z⟩
  let⟨g,@y,rfl,t,z⟩:=T a1 U0 as;refine⟨g,rfl,.inl ⟨⟨y,dm.of t⟩,?_⟩⟩;have al:∀{G:a5},c3 Vm x G->c3 UU x G:=λL=>⟨L.1,λb Uw=>L.2 b<|ch b Uw⟩;refine⟨λw E j P=>E+w=B.length/\∃c U8,c3 Vm x j/\bA P c j U8/\bk h N P U8/\lu b B l Vp (B.drop w) c=Z (L,Vd),⟨B.length,rfl,k,UQ,c3.refl,a1,a2,M⟩,?_⟩;rintro w E j P ⟨ge,c,U8,n,D,Ux,i⟩;by_cases be:w<B.length
  ·rw[jK be,lu]at i;dsimp only at i;split at i
   ·rename_i am;let⟨db,@ds,d,U3,U9⟩:=T D ((n.2 b UH).trans U0) (ET am);cases d;let@⟨dL,eq⟩:=(Ah (Q:=a.K) U3 U9).go P (eL.of (λ_ W d=>d)<|λ_ W W d=>d) (λ_ W W d=>d) w B[w] (by simp[be]);let⟨@F,dC,dc⟩:=bE.mp i;let⟨@⟨bi,an⟩,fo,R⟩:=bE.mp dc;refine .inr ⟨dL,λG UT=>(E-1)+(w+1)=B.length/\∃c U8,c3 Vm x G/\bA UT c G U8/\bk h N UT U8/\lu b B l Vp (B.drop<|w+1) c=Z (L,Vd),λG UT e=>⟨E-1,⋯,e⟩,λf UT ev=>?_⟩;let@⟨ap,ex⟩:=eq f UT ev;have fd:=D.mono ap.tupS λg W m d=>ap g m d;have bm:=Ux.same ap;refine⟨c,U8,.im B[w],[],F,fd,⟨ex,rfl⟩,by rw[b_];exact bm.ai,dC,λgl fn bn S fr bs=>?_⟩;have H:bk h N fn bn:=bm.seq (by rw[b_]at bs;exact bs);refine⟨F,bn,bi,an,fr,H.ai,fo,?_⟩;cases bi with
    |aM=>exact λI J o q r s=>⟨⋯,an,o,(n.trans S).trans q,r,H.seq s,R⟩
    |cG=>exact λI J o q r s=>⟨⋯,an,o,(n.trans S).trans q,r,H.seq s,R⟩
    |dI=>
     cases R;exact λI J o q r s=>p I J o (al<|(n.trans S).trans q) r (H.seq s)
    |dR v=>
     cases R;exact λu I J o f0 q r f1 s=>p u I J o f0 (al<|(n.trans S).trans q) r f1 (H.seq s)
   ·cases i
  ·have f2:w=B.length:=⋯
   subst f2;rw[m2 (bT _),lu]at i;dsimp only at i;split at i
   ·rename_i am;cases i;let⟨db,@ds,d,U3,U9⟩:=T D ((n.2 b UH).trans U0) (ET am);cases d;exact .inl ⟨(Ah (Q:=a.K) U3 U9).stop P (eL.of (λ_ W d=>d)<|λ_ W W d=>d)<|λ_ W W d=>d,p j P U8 (al n) D Ux⟩
   ·cases i
 ·cases M
end
end L2
namespace G
open L2
def CS:bt:=((cy<|cY<|aj (V<|aw iy (V<|aw a4 (ag 1)<|V<|au<|.int 0)<|V<|aw fN (V<|aw iy (V<|aw a4 (ag 1)<|V<|au<|.int 0)<|V<|aw a4 (V<|aw a4 (ag 0)<|V<|au<|.int 0)<|V<|au<|.int 0)<|V<|au<|.int 2)<|aj (V<|aw iy (V<|aw a4 (ag 1)<|V<|au<|.int 1)<|V<|aw fN (V<|aw iy (V<|aw a4 (ag 1)<|V<|au<|.int 1)<|V<|aw a4 (V<|aw a4 (ag 0)<|V<|au<|.int 0)<|V<|au<|.int 1)<|V<|au<|.int 2) aA))
def n5:cP:=(c5 2 2 [0,1] CS)
def Io(Uy:dM):bt:=((cy<|cY<|aj (V<|aw dg (V<|aw (d9 Uy.kt Uy.cz) (ag 0)<|V<|au<|.int 0)<|V<|aw el (V<|aw (d9 Uy.kt Uy.cz) (ag 1)<|V<|au<|.int 0)<|ag 2)<|aj (V<|aw dg (V<|aw (d9 Uy.kt Uy.cz) (ag 0)<|V<|au<|.int 1)<|V<|aw el (V<|aw (d9 Uy.kt Uy.cz) (ag 1)<|V<|au<|.int 1)<|ag 2) aA))
def lE(Uy:dM):cP:=(c5 3 3 [0,1,2] (Io Uy))
def HR(Uy:dM):bt:=((bL (cj 3<|bh 2 G.n5<|aj (ag 0)<|aj (ag 2) aA)<|bL (cj 4<|aw (d9 Uy.kt Uy.cz) (V<|au<|.fn Uy.gB)<|V<|cY<|aj (V<|aw iy (V<|aw (d9 Uy.kt Uy.cz) (ag 2)<|V<|au<|.int 0)<|V<|aw (d9 Uy.kt Uy.cz) (ag 3)<|V<|au<|.int 0)<|aj (V<|aw iy (V<|aw (d9 Uy.kt Uy.cz) (ag 2)<|V<|au<|.int 1)<|V<|aw (d9 Uy.kt Uy.cz) (ag 3)<|V<|au<|.int 1) aA)<|bL (d3 (bx<|aw ie (V<|bh 2 G.sF<|aj (ag 3)<|aj (V<|bh 3 (G.lE Uy)<|aj (ag 3)<|aj (V<|aw (d9 Uy.kt Uy.cz) (ag 4)<|V<|au<|.int 0)<|aj (V<|au<|.int 2) aA) aA)<|ag 1) (cy<|bh 3 (G.lE Uy)<|aj (ag 2)<|aj (V<|aw (d9 Uy.kt Uy.cz) (ag 4)<|V<|au<|.int 0)<|aj (V<|au<|.int 1) aA) eX)<|cy<|bh 3 (G.lE Uy)<|aj (ag 2)<|aj (V<|aw (d9 Uy.kt Uy.cz) (ag 4)<|V<|au<|.int 1)<|aj (V<|au<|.int 1) aA))
def kT(Uy:dM):cP:=(c5 3 5 [0,1,2] (HR Uy))
def zW:bt:=((bL (d3 (bx<|aw ny (ag 1)<|V<|bR eo<|aj (ag 0) aA) (cy<|aw a4 (ag 0)<|ag 1) eX)<|cy<|au<|.int 0))
def rn:cP:=(c5 2 2 [0,1] zW)
def Fw:bt:=((bL (cj 2<|bh 2 G.rn<|aj (ag 0)<|aj (ag 1) aA)<|bL (cj 3<|aw el (V<|aw el (V<|aw nJ (V<|au<|.int 10)<|V<|au<|.int 60)<|V<|aw nJ (V<|au<|.int 10)<|V<|au<|.int 60)<|V<|aw nJ (V<|au<|.int 10)<|V<|au<|.int 60)<|bL (cj 4<|aw fN (V<|aw el (V<|aw dg (V<|aw dg (V<|aw fN (ag 2)<|V<|au<|.int 2147483629)<|V<|aw el (V<|aw el (V<|au<|.int 7919)<|ag 1)<|ag 1)<|V<|au<|.int 11)<|V<|au<|.int 48271)<|V<|au<|.int 2147483647)<|cy<|eC<|aj (V<|aw el (V<|aw fN (ag 2)<|ag 3)<|V<|bR vInt<|aj (V<|aw Dr (ag 2)<|V<|aw nJ (V<|au<|.int 10)<|V<|au<|.int 18) aA)<|aj (ag 4)<|aj (V<|au<|.int 0) aA))
def rP:cP:=(c5 2 5 [0,1] Fw)
def zg:bt:=((bL (d3 (bx<|aw p6 (V<|aw a4 (ag 0)<|V<|au<|.int 0)<|V<|au<|.int 0) (bL (cj 2<|aw fN (V<|aw a4 (ag 0)<|V<|au<|.int 0)<|ag 1)<|bL (fE (aw om (V<|aw a4 (ag 0)<|V<|au<|.int 0)<|ag 1)<|jE 0 (au<|.int 0) lK)<|cy<|fO 2) eX)<|bL (fE (aw dg (V<|aw a4 (ag 0)<|V<|au<|.int 2)<|V<|au<|.int 1)<|jE 0 (au<|.int 2) lK)<|bL (fE (aw fN (V<|aw dg (V<|aw dg (V<|aw el (V<|aw a4 (ag 0)<|V<|au<|.int 1)<|V<|au<|.int 48271)<|V<|au<|.int 12345)<|V<|aw el (V<|au<|.int 7919)<|V<|aw a4 (ag 0)<|V<|au<|.int 2)<|V<|au<|.int 2147483647)<|jE 0 (au<|.int 1) lK)<|cy<|aw fN (V<|aw om (V<|aw fN (V<|aw el (V<|aw a4 (ag 0)<|V<|au<|.int 1)<|V<|aw a4 (ag 0)<|V<|au<|.int 1)<|V<|au<|.int 1999999973)<|V<|au<|.int 31)<|ag 1))
def gm:cP:=(c5 2 3 [0,1] zg)
def uj:bt:=((bL (fE (aw a4 (ag 2)<|V<|bh 2 G.gm<|aj (ag 0)<|aj (V<|bR eo<|aj (ag 2) aA) aA)<|d6 2<|cc (bb 4)<|cc (bb 5) eb)<|bL (d3 (bx<|aw es (V<|bh 2 G.gm<|aj (ag 0)<|aj (V<|au<|.int 3) aA)<|V<|au<|.int 0) (fE (aw a4 (ag 2)<|V<|kV<|au<|.int 1)<|d6 2<|cc (bb 4)<|cc (bb 5) eb) eX)<|bL (fE (aw a4 (V<|eC<|aj (V<|cY<|aj (V<|au<|.int 0)<|aj (V<|au<|.int 2) aA)<|aj (V<|cY<|aj (V<|au<|.int 2)<|aj (V<|au<|.int 0) aA)<|aj (V<|cY<|aj (V<|au<|.int 0)<|aj (V<|kV<|au<|.int 2) aA)<|aj (V<|cY<|aj (V<|kV<|au<|.int 2)<|aj (V<|au<|.int 0) aA) aA)<|V<|bh 2 G.gm<|aj (ag 0)<|aj (V<|au<|.int 4) aA)<|d6 2<|cc (bb 6)<|cc (bb 7) eb)<|bL (cj 8<|cY<|aj (V<|aw dg (ag 4)<|ag 6)<|aj (V<|aw dg (ag 5)<|ag 7) aA)<|d3 (eO (bx<|aw mc (ag 8)<|ag 2)<|eO (bx<|aw ny (V<|bR eo<|aj (ag 2) aA)<|ag 1)<|eO (bx<|gF e5 e5 (V<|au<|.int 0) (V<|aw a4 (ag 8)<|V<|au<|.int 0)<|V<|au<|.int 29)<|bx<|gF e5 e5 (V<|au<|.int 0) (V<|aw a4 (ag 8)<|V<|au<|.int 1)<|V<|au<|.int 29) (jg<|gu iP 2 hW<|aj (ag 8) aA) eX))
def Cd:bt:=((bL (cj 1<|aw dg (V<|au<|.int 1)<|V<|bh 2 G.gm<|aj (ag 0)<|aj (V<|aw a4 (V<|eC<|aj (V<|au<|.int 3)<|aj (V<|au<|.int 8)<|aj (V<|au<|.int 14)<|aj (V<|au<|.int 40) aA)<|V<|bh 2 G.gm<|aj (ag 0)<|aj (V<|au<|.int 4) aA) aA)<|bL (cj 2<|eC<|aj (V<|cY<|aj (V<|bh 2 G.gm<|aj (ag 0)<|aj (V<|au<|.int 30) aA)<|aj (V<|bh 2 G.gm<|aj (ag 0)<|aj (V<|au<|.int 30) aA) aA) aA)<|bL (gv (nc<|aj (V<|aw el (V<|au<|.int 3)<|ag 1) aA) (bb 3) G.uj)<|cy<|bR fk<|aj (ag 2) aA))
def rZ:cP:=(c5 1 9 [0] Cd)
def AR:bt:=((bL (fE (fO 0)<|d6 2<|cc (bb 1)<|cc (bb 2) eb)<|cy<|eC<|aj (V<|cY<|aj (ag 1)<|aj (ag 2) aA)<|aj (V<|cY<|aj (ag 1)<|aj (V<|aw dg (ag 2)<|V<|au<|.int 1) aA)<|aj (V<|cY<|aj (V<|aw dg (ag 1)<|V<|au<|.int 1)<|aj (V<|aw dg (ag 2)<|V<|au<|.int 1) aA)<|aj (V<|cY<|aj (V<|aw dg (ag 1)<|V<|au<|.int 1)<|aj (ag 2) aA) aA))
def tc:cP:=(c5 1 3 [0] AR)
def vA:bt:=((jg<|gu iP 1 nE<|aj (V<|bh 1 G.tc<|aj (ag 2) aA) aA))
def BP:bt:=((bL (cj 1<|eC aA)<|bL (gv (dD<|ag 0) (bb 2) G.vA)<|cy<|bR jv<|aj (V<|bR fk<|aj (ag 1) aA) aA))
def sH:cP:=(c5 1 3 [0] BP)
def BZ:aE ak:=((cY<|aj (V<|cY<|aj (ag 2)<|aj (ag 3) aA)<|aj (ag 0) aA))
def AF:aE Bool:=((bx<|aw ie (ag 0)<|ag 1))
def sv:bt:=((jg<|gu iP 1 nE<|aj (V<|de 1 [0,2,3] (dD<|V<|eC<|aj (V<|cY<|aj (ag 2)<|aj (V<|aw dg (ag 3)<|V<|au<|.int 2) aA)<|aj (V<|cY<|aj (V<|aw dg (ag 2)<|V<|au<|.int 2)<|aj (ag 3) aA) aA) (bb 0) G.AF G.BZ) aA))
def Dj:bt:=((bL (cj 1<|eC aA)<|bL (y8 0 (d6 2<|cc (bb 2)<|cc (bb 3) eb) G.sv)<|cy<|bR fk<|aj (ag 1) aA))
def qU:cP:=(c5 1 4 [0] Dj)
def z8:aE ak:=((cY<|aj (ag 0)<|aj (ag 0) aA))
def FU:aE ak:=((cY<|aj (ag 0)<|aj (V<|qi (bx<|aw es (V<|aw a4 (ag 1)<|ag 0)<|ag 2) (fO 3)<|aw a4 (ag 1)<|ag 0) aA))
def Di:aE Bool:=((bx<|aw eV (ag 2)<|V<|eC aA))
def s6:bt:=((bL (fE (gu iP 2 qa<|aj (V<|bh 2 G.gm<|aj (ag 0)<|aj (V<|bR eo<|aj (ag 2) aA) aA) aA)<|d6 2<|cc (bb 5)<|cc (bb 6) eb)<|d3 (bx<|aw eV (V<|aw a4 (ag 4)<|ag 5)<|V<|aw a4 (ag 4)<|ag 6) (bL (jg<|gu iP 3 hW<|aj (V<|cY<|aj (ag 5)<|aj (ag 6) aA) aA)<|bL (fE (cY<|aj (V<|aw a4 (ag 4)<|ag 5)<|aj (V<|aw a4 (ag 4)<|ag 6) aA)<|d6 2<|cc (bb 7)<|cc (bb 8) eb)<|cj 4<|bR oC<|aj (V<|de 1 [4,7,8] (dD<|ag 1) (bb 0) d5 G.FU) aA) eX))
def GF:bt:=((bL (q0 2 3<|aj (V<|bh 1 G.qU<|aj (ag 1) aA)<|aj (V<|eC aA) aA)<|bL (cj 4<|bR oC<|aj (V<|de 1 [] (dD<|ag 1) (bb 0) d5 G.z8) aA)<|bL (jV G.Di G.s6 1000000)<|cy<|bR jv<|aj (V<|bR fk<|aj (ag 3) aA) aA))
def lA:cP:=(c5 2 9 [0,1] GF)
end G
namespace L2
open Spec PyProof.Rows PySem.W
def vP:ak->ak
 |.im (.aU f)=>.cF f
 |v=>v
@[simp] theorem T_(f:List ab):vP (.im<|.aU f)=.cF f:=rfl
@[simp] theorem T9(f:List ab):vP (.im<|.tup f)=.im (.tup f):=rfl
@[simp] def lW(J:aE ak):aE ak:=λk=>(J k).map λo=>(vP o.1,o.2)
section
variable{a:aK}
def yl{d:bj}{J:aE ak}(e:cv a d J):cv a d (lW J):=by
 refine en e λx h A i=>?_;let⟨k,N,r,@UO,X,ai,j,p⟩:=i;let⟨@⟨c,UE⟩,t,z⟩:=cx.mp j;cases z;refine⟨k,N,c,UE,X,ai,t,λu UD UQ UA l b n=>p u UD UQ UA l ?_ n⟩;cases c with
 |im v=>
  cases v with
  |aU f=>
   let@⟨⟨g,y,@m,rfl,U3,U9⟩,rfl⟩:=b;exact⟨g,y,m,rfl,U3,U9,rfl⟩
  |_=>exact b
 |_=>exact b
end
end L2
namespace L2
section
variable{k UE Vd:a0}
variable{v:ak}
def cA{J:aE ak}(e:J k=Z (v,UE)):V J k=Z (.cB v,UE):=by unfold V;rw[e];rfl
variable{f:bN}
def dF{J:aE bN}{e:aE (List bN)}{y:List bN}(a:J k=Z (f,UE))(b:e UE=Z (y,Vd)):aj J e k=Z (f::y,Vd):=by unfold aj;rw[a];show (e UE).map _=_;rw[b];rfl
variable{U_ Vi:ak}
def dX{Vk:ak->ak->Option ak}{VB Vp:aE bN}{l:bN}(a:VB k=Z (f,UE))(b:Vp UE=Z (l,Vd))(c:dn Vd f=Z U_)(d:dn Vd l=Z Vi)(e:Vk U_ Vi=Z v):aw Vk VB Vp k=Z (v,Vd):=by
 unfold aw;rw[a];show (Vp UE).bind _=_;rw[b];show (dn Vd f).bind _=_;rw[c];show (dn Vd l).bind _=_;rw[d];show (Vk U_ Vi).map _=_;rw[e];rfl
variable{J:aE (List bN)}{s:Nat}{UN:List bN}{B I:List ak}
def gO{R:cP}{r:ak}(a:J k=Z (UN,UE))(b:UN.length=s)(c:ec UN UE=Z (B,Vd))(d:R B=Z (r,I)):bh s R J k=Z (r,gW UN I Vd):=by
 unfold bh;rw[a];show (if UN.length=s then _ else _)=_;rw[aJ b];show (ec UN UE).bind _=_;rw[c];show (R B).map _=_;rw[d];rfl
def qu{Vk:List ak->Option ak}(a:J k=Z (UN,UE))(b:h4 UE UN=Z B)(c:Vk B=Z v):bR Vk J k=Z (v,UE):=by
 unfold bR;rw[a];show (h4 UE UN).bind _=_;rw[b];show (Vk B).map _=_;rw[c];rfl
variable{c:Bool}
def mV{J:aE ak}(d:J k=Z (.im<|.aC c,UE)):bx J k=Z (c,UE):=by unfold bx;rw[d];rfl
def zr{J:aE Bool}(d:J k=Z (c,UE)):fK J k=Z (!c,UE):=by unfold fK;rw[d];rfl
def Nh{J:aE bN}(d:J k=Z (f,UE))(a:dn UE f=Z v)(b:qb v=Z c):f5 J k=Z (c,UE):=by
 unfold f5;rw[d];show (dn UE f).bind _=_;rw[a];show (qb v).map _=_;rw[b];rfl
def iY{J:aE ak}{e:fi}(d:J k=Z (v,UE))(a:e v UE=Z Vd):fE J e k=Z (.aM,Vd):=by unfold fE;rw[d];show (e v UE).map _=_;rw[a];rfl
def ng{J:aE ak}(d:J k=Z (v,UE)):jg J k=Z (.aM,UE):=by unfold jg;rw[d];rfl
variable{F:a0}
def ly{ty:ak->Bool}{b:Nat}{bD:ak->List ak->Option (ak×ak)}{a n r c:ak}(d:k[b]?=Z (Z a))(e:ty a=aa)(f:J k=Z (UN,UE))(g:ec UN UE=Z (B,Vd))(h:Vd[b]?=Z (Z n))(i:bD n B=Z (r,c))(q:Vd.set b (Z c)=F):gu ty b bD J k=Z (r,F):=by
 subst q;unfold gu;rw[d];show (if ty a=aa then _ else _)=_;rw[aJ e,f];show (ec UN UE).bind _=_;rw[g];show (match Vd[b]? with|some (Z n)=>_|_=>Y)=_;rw[h];show (bD n B).map _=_;rw[i];rfl
def yq(a:J k=Z (UN,UE))(b:ec UN UE=Z (B,Vd))(c:B.length<=100000)(q:rv B=v):cY J k=Z (v,Vd):=by
 unfold cY;rw[a];show (ec UN UE).bind _=_;rw[b];show (if _ then _ else _)=_;rw[aJ c,q]
def rC(a:J k=Z (UN,UE))(b:ec UN UE=Z (B,Vd))(c:B.length<=100000)(q:r8 B=v):eC J k=Z (v,Vd):=by
 unfold eC;rw[a];show (ec UN UE).bind _=_;rw[b];show (if _ then _ else _)=_;rw[aJ c,q]
variable{b:Int}
def G2{J:aE ak}(d:J k=Z (.im<|.int b,UE)):kV J k=Z (.im<|.int<|-b,UE):=by unfold kV;rw[d];rfl
variable{f:List ab}
def u_{v:ab}(e:f.length<100000):hW (.lst f) [.im v]=Z (.im .a6,.lst<|f++[v]):=aJ e
def nU(b w:Int):es (.im<|.int b) (.im<|.int w)=Z (.im<|.aC<|decide (b=w)):=by
 show Z (ak.im<|.aC<|b==w)=_;by_cases e:b=w<;>simp[e]
def QB(b w:Int):eV (.im<|.int b) (.im<|.int w)=Z (.im<|.aC<|!decide (b=w)):=by
 show Z (ak.im<|.aC<|!(b==w))=_;by_cases e:b=w<;>simp[e]
variable{w:Int}
def iK(e:gx b w=aa):el (.im<|.int b) (.im<|.int w)=Z (.im<|.int<|b*w):=aJ e
def l4(e:0<w):fN (.im<|.int b) (.im<|.int w)=Z (.im<|.int<|b%w):=aJ (df e)
def DP(e:0<w)(z:w<1073741824):om (.im<|.int b) (.im<|.int w)=Z (.im<|.int<|b/w):=aJ (df (⟨e,z⟩:0<w/\w<1073741824))
def EB(e:decide (0<=w/\w<=1000000/\b.natAbs<2^64)=aa):nJ (.im<|.int b) (.im<|.int w)=Z (.im<|.int<|b^w.toNat):=aJ e
variable{r:Option (nz×a0)}{c:bt}{n:aE Bool}
theorem p_{g:bt}(d:n k=Z (aa,UE))(e:g UE=r):d3 n g c k=r:=(pZ d).trans e
theorem gZ{g:bt}(d:n k=Z (aq,UE))(e:c UE=r):d3 n g c k=r:=(pW d).trans e
theorem cR{J e:bt}(d:J k=Z (.aM,UE))(q:e UE=r):bL J e k=r:=(ee d).trans q
variable{b:Nat}
theorem i8{J:aE ak}(d:J k=Z (v,UE))(e:b<UE.length)(q:UE.set b (Z v)=Vd):cj b J k=Z (.aM,Vd):=(sg d e).trans (by rw[q])
variable{y:List ab}{Vc:fi}{m:Option (Nat×ak)}
theorem jz{J:jm}{aU:nz}(d:J k=Z ((y,m),UE))(e:dK Vc c y UE=Z (aU,Vd))(q:lM m Vd=F):gv J Vc c k=Z (aU,F):=(As d e).trans (by rw[q])
theorem l7{own:Nat}{Ve:List Nat}{VU:jm}{d:aE ak}{a:a0}{B:List ab}(t:VU k=Z ((y,m),UE))(z:hG own Vc n d y [] (lz Ve UE)=Z (B,a))(q:lM m (ji Ve a UE)=F):de own Ve VU Vc n d k=Z (.lst B,F):=(nX t z).trans (by rw[q])
variable{r:Option (Bool×a0)}{c g:aE Bool}
def k8(d:g k=Z (aq,UE))(e:c UE=r):iT g c k=r:=by unfold iT;rw[d];exact e
def kM(d:g k=Z (aa,UE))(e:c UE=r):eO g c k=r:=by unfold eO;rw[d];exact e
def qt(d:g k=Z (aq,UE)):eO g c k=Z (aq,UE):=by unfold eO;rw[d];rfl
variable{r:Option (ak×a0)}{c g:aE ak}
def PK(d:n k=Z (aa,UE))(e:g UE=r):qi n g c k=r:=by unfold qi;rw[d];exact e
def JD(d:n k=Z (aq,UE))(e:c UE=r):qi n g c k=r:=by unfold qi;rw[d];exact e
def Jp{w:Nat}(a:J k=Z (UN,UE))(c:ec UN UE=Z ([U_,Vi],Vd))(Uw:b<Vd.length)(d:w<Vd.length)(q:(Vd.set b<|Z U_).set w (Z Vi)=F):q0 b w J k=Z (.aM,F):=by
 unfold q0;rw[a];show (ec UN UE).bind _=_;rw[c];show (if b<Vd.length/\w<Vd.length then _ else _)=_;rw[aJ ⟨Uw,d⟩,q]
def sy{J:aE Bool}{c:Bool}(d:J k=Z (c,UE)):gK J k=Z (.im<|.aC c,UE):=by unfold gK;rw[d];rfl
variable{r:ak}
def c0{R:cP}(a:J k=Z (UN,UE))(b:UN.length=s)(c:ec UN UE=Z (B,Vd))(d:R B=Z (r,I))(q:gW UN I Vd=F):bh s R J k=Z (r,F):=by rw[<-q];exact gO a b c d
def ks{J:aE Bool}(d:J k=Z (aa,UE)):fK J k=Z (aq,UE):=zr d
def Rb{J:aE Bool}(d:J k=Z (aq,UE)):fK J k=Z (aa,UE):=zr d
variable{l:List ab}
def v3(a:J k=Z (UN,UE))(b:h4 UE UN=Z [.im (.tup f),.im<|.tup l]):jW J k=Z ((e3 f l,Y),UE):=by
 unfold jW;rw[a];show (h4 UE UN).bind _=_;rw[b];rfl
def wQ{U0 a:bN}(b:J k=Z ([U0,a],UE))(c:ec [U0,a] UE=Z ([U_,Vi],Vd))(d:gq U_=Z f)(e:gq Vi=Z l)(g:Vi.dA=aa)(q:(if U_.dA=aa then Y else su U0 U_)=m):kE J k=Z ((e3 f l,m),Vd):=by
 unfold kE;rw[b];show (ec [U0,a] UE).bind _=_;rw[c];show (gq U_).bind _=_;rw[d];show (gq Vi).bind _=_;rw[e];show (if Vi.dA=aa then _ else _)=_;rw[aJ g,q]
def nI{J:aE bN}{M e:aE (Option Int)}{f:bN}{D Uw:Option Int}{a:ak}(b:J k=Z (f,UE))(c:M UE=Z (D,Vd))(d:e Vd=Z (Uw,F))(g:dn F f=Z v)(h:i_ v D Uw=Z a):gj J M e k=Z (a,F):=by
 unfold gj;rw[b];show (M UE).bind _=_;rw[c];show (e Vd).bind _=_;rw[d];show (dn F f).bind _=_;rw[g];show (i_ v D Uw).map _=_;rw[h];rfl
def yF{J:aE ak}(d:J k=Z (v,UE)):l_ J k=Z (vY v,UE):=by unfold l_;rw[d];rfl
def xx{J:aE ak}(d:J k=Z (v,UE)):lW J k=Z (vP v,UE):=by unfold lW;rw[d];rfl
def EZ(a:J k=Z (UN,UE))(b:h4 UE UN=Z [.im (.int w)])(e:sA w):nc J k=Z ((iF 0 w.toNat,Y),UE):=by
 unfold nc;rw[a];show (h4 UE UN).bind _=_;rw[b];show (if sA w then _ else _)=_;rw[aJ e]
def fD{E:Nat}{UU:List Nat}{J:bt}(a:B.length=s)(d:J (B.map Z++replicate (E-s) Y)=Z (.dR r,k))(b:jM UU B k 0=I):c5 s E UU J B=Z (r,I):=h_ k a d b
end
end L2
namespace G
open L2
variable{F:List ba}
abbrev aD:=Int×Int
variable{D:List aD}{n c:aD}
def bM(c:aD):Nat->aD
 |0=>c
 |1=>(c.1,c.2+1)
 |2=>(c.1+1,c.2+1)
 |_=>(c.1+1,c.2)
def dG(c:aD):Nat->aD
 |0=>(c.1-2,c.2)
 |1=>(c.1,c.2+2)
 |2=>(c.1+2,c.2)
 |_=>(c.1,c.2-2)
def eW(c:aD):List aD:=([c,(c.1,c.2+1),(c.1+1,c.2+1),(c.1+1,c.2)])
def eE(F:List ba)(g c:aD):Bool:=(decide ((g,c)∈F\/(c,g)∈F))
def AH(F:List ba)(g c:aD):eE F g c=eE F c g:=by
 unfold eE;rw[ll,hA,hA];exact Or.comm
def aM(F:List ba)(o:aD×Nat):aD×Nat:=(if eE F o.1 (dG o.1 o.2)=aa then (dG o.1 o.2,(o.2+3)%4) else (o.1,(o.2+1)%4))
def jR(F:List ba)(o:aD×Nat):aD×Nat:=(if eE F o.1 (dG o.1<|(o.2+3)%4)=aa then (dG o.1<|(o.2+3)%4,(o.2+1)%4) else (o.1,(o.2+3)%4))
def DL(F:List ba)(c:aD){q:Nat}(a:q<4):jR F (aM F (c,q))=(c,q):=by
 unfold aM;by_cases e:eE F c (dG c q)=aa
 ·rw[aJ e];rw[AH]at e;have d:dG (dG c q) (((q+3)%4+3)%4)=c:=by
   match q,a with
   |0,_=>simp[dG]
   |1,_=>simp[dG]
   |2,_=>simp[dG]
   |3,_=>simp[dG]
  unfold jR;dsimp only;rw[d,aJ e];exact eD rfl (by show ((q+3)%4+1)%4=q;omega)
 ·rw[aO e];have d:((q+1)%4+3)%4=q:=by omega
  unfold jR;dsimp only;rw[d,aO e]
def Ql(F:List ba)(o:aD×Nat):(aM F o).2<4:=by
 unfold aM;split<;>exact Bg _ ∅
structure e7(D:List aD):Prop where
 ne:D≠[]
 ai:D.Nodup
 len:D.length<=40
 lX:∀c∈D,0<=c.1/\c.1<=29/\0<=c.2/\c.2<=29
 par:∀g∈D,∀c∈D,(g.1-c.1)%2=0/\(g.2-c.2)%2=0
 con:∀o:aD->aD,(∀g∈D,∀c∈D,(c=(g.1,g.2+2)\/c=(g.1+2,g.2))->o g=o c)->∀g∈D,∀c∈D,o g=o c
def vS:n∈eW c↔(n.1=c.1\/n.1=c.1+1)/\(n.2=c.2\/n.2=c.2+1):=by
 let⟨f,l⟩:=n;let⟨H,u⟩:=c;simp only[eW,bI,hs,e_,ox];constructor
 ·lia
 ·lia
def wh(c:aD){q:Nat}(a:q<4):bM c q∈eW c:=by
 match q,a with
 |0,_=>simp[bM,eW]
 |1,_=>simp[bM,eW]
 |2,_=>simp[bM,eW]
 |3,_=>simp[bM,eW]
def Qn(e:n∈eW c):∃q,q<4/\n=bM c q:=by
 simp only[eW,bI,hs,e_]at e;rcases e with e|e|e|e
 ·exact⟨0,by decide,e⟩
 ·exact⟨1,by decide,e⟩
 ·exact⟨2,by decide,e⟩
 ·exact⟨3,by decide,e⟩
def e7.one(UY:e7 D){g c n:aD}(a:g∈D)(b:c∈D)(t:n∈eW g)(z:n∈eW c):g=c:=by
 have o:=UY.par g a c b;rw[vS]at t z;exact eD (by omega) (by omega)
def KU{q w:Nat}(a:q<4)(b:w<4)(e:bM c q=bM c w):q=w:=by
 let⟨f,l⟩:=c
 match q,a,w,b with
 |0,_,0,_=>rfl
 |1,_,1,_=>rfl
 |2,_,2,_=>rfl
 |3,_,3,_=>rfl
 |0,_,1,_|0,_,2,_|0,_,3,_|1,_,0,_|1,_,2,_|1,_,3,_|2,_,0,_|2,_,1,_|2,_,3,_|3,_,0,_|3,_,1,_|3,_,2,_=>
  simp only[bM,ox]at e;lia
def aC(m n:aD):aD:=((n.1-(n.1-m.1)%2,n.2-(n.2-m.2)%2))
def fc(m n:aD):Nat:=(if (n.1-m.1)%2=0 then (if (n.2-m.2)%2=0 then 0 else 1) else (if (n.2-m.2)%2=0 then 3 else 2))
def JQ{m:aD}(t:(c.1-m.1)%2=0)(z:(c.2-m.2)%2=0){q:Nat}(a:q<4):aC m (bM c q)=c/\fc m (bM c q)=q:=by
 match q,a with
 |0,_=>
  refine⟨eD ?_ ?_,?_⟩
  ·simp only[aC,bM];lia
  ·simp only[aC,bM];lia
  ·simp only[fc,bM];rw[aJ t,aJ z]
 |1,_=>
  refine⟨eD ?_ ?_,?_⟩
  ·simp only[aC,bM];lia
  ·simp only[aC,bM];lia
  ·simp only[fc,bM];rw[aJ t,aO ⋯]
 |2,_=>
  refine⟨eD ?_ ?_,?_⟩
  ·simp only[aC,bM];lia
  ·simp only[aC,bM];lia
  ·simp only[fc,bM];rw[aO ⋯,aO ⋯]
 |3,_=>
  refine⟨eD ?_ ?_,?_⟩
  ·simp only[aC,bM];lia
  ·simp only[aC,bM];lia
  ·simp only[fc,bM];rw[aO ⋯,aJ z]
def gd(o:aD×Nat):aD:=(bM o.1 o.2)
def e9(D:List aD)(d:ba):Prop:=(d.1∈D/\d.2∈D/\(d.2=(d.1.1,d.1.2+2)\/d.2=(d.1.1+2,d.1.2)))
def KL(a:∀d∈F,e9 D d){g c:aD}(e:eE F g c=aa):g∈D/\c∈D:=by
 rcases eR e with e|e
 ·exact⟨(a _ e).1,(a _ e).2.1⟩
 ·exact⟨(a _ e).2.1,(a _ e).1⟩
def Kz(a:∀d∈F,e9 D d){c:aD}(b:c∈D)(q:Nat):(aM F (c,q)).1∈D:=by
 unfold aM;split
 ·rename_i e;exact (KL a e).2
 ·exact b
theorem Hf{U1:Type}[DecidableEq U1]:∀{M E:List U1},M.Nodup->(∀f∈M,f∈E)->E.length<=M.length->M.Perm E
 |[],E,_,_,e=>by rw[List.length_eq_zero_iff.mp (Nat.le_zero.mp e)]
 |f::M,E,ai,j,e=>by
  have b:=j f (.head _);let@⟨c,g⟩:=iI.mp ai;have o:=Cp b;refine .trans (.cons f (Hf g (λl a=>(zQ (λd=>c (by rw[<-d];exact a))).mpr<|j l<|.tail _ a) ?_)) o.symm;have:=o.length_eq;simp at this e;lia
def cells(D:List aD):List aD:=(D.flatMap eW)
def GX:n∈cells D↔∃c∈D,∃q,q<4/\n=bM c q:=by
 unfold cells;rw[mm];constructor
 ·rintro⟨c,a,e⟩;exact⟨c,a,Qn e⟩
 ·rintro⟨c,a,q,b,rfl⟩;exact⟨c,a,wh c b⟩
def SU(c:aD):(eW c).Nodup:=by
 let⟨f,l⟩:=c;simp[eW,iI];lia
theorem s_{U1 VH:Type}{L:U1->List VH}:∀{M:List U1},M.Nodup->(∀g∈M,(L g).Nodup)->(∀g∈M,∀c∈M,∀f,f∈L g->f∈L c->g=c)->(M.flatMap L).Nodup
 |[],_,_,_=>by simp
 |g::M,ai,t,z=>by
  let@⟨e,h⟩:=iI.mp ai;rw[mM,dz];refine⟨t g<|.head _,s_ h (λc a=>t c<|.tail _ a)<|λc a n i=>z c (.tail _ a) n<|.tail _ i,λf j l b d=>?_⟩;let⟨@c,a,b⟩:=mm.mp b;subst d;have:=z g (.head _) c (.tail _ a) f j b;subst this;exact e a
def e7.w2(UY:e7 D):(cells D).Nodup:=s_ UY.ai (λc W=>SU c) λg a c b f t z=>UY.one a b t z
theorem r7:∀D:List aD,(cells D).length=4*D.length
 |[]=>rfl
 |c::D=>by
  have:=r7 D;unfold cells at *;rw[mM,d7,this];simp[eW];lia
def zz{U1 VH:Type}{L:U1->VH}{M:List U1}(ai:M.Nodup)(e:∀g∈M,∀c∈M,L g=L c->g=c):(M.map L).Nodup:=by
 unfold List.Nodup;rw[t7];exact Rr (λa b s d=>s<|e _ a _ b d) ai
end G
namespace L2
section
variable{k UE:a0}
variable{v:ak}
def aW{J:aE ak}(e:J k=Z (v,k)):V J k=Z (.cB v,k):=cA e
variable{f:bN}
def bV{J:aE bN}{e:aE (List bN)}{y:List bN}(a:J k=Z (f,k))(b:e k=Z (y,k)):aj J e k=Z (f::y,k):=dF a b
variable{Vk:ak->ak->Option ak}{VB Vp:aE bN}{l:bN}{U_ Vi:ak}
def bY(a:VB k=Z (f,k))(b:Vp k=Z (l,k))(c:dn k f=Z U_)(d:dn k l=Z Vi)(e:Vk U_ Vi=Z v):aw Vk VB Vp k=Z (v,k):=dX a b c d e
def dj(a:Vk U_ Vi=Z v)(b:VB k=Z (f,k):=by rfl)(c:Vp k=Z (l,k):=by rfl)(d:dn k f=Z U_:=by rfl)(e:dn k l=Z Vi:=by rfl):aw Vk VB Vp k=Z (v,k):=dX b c d e a
variable{J:aE (List bN)}{UN:List bN}{B:List ak}
def et{Vk:List ak->Option ak}(a:J k=Z (UN,k))(b:h4 k UN=Z B)(c:Vk B=Z v):bR Vk J k=Z (v,k):=qu a b c
variable{c:Bool}
def d1{J:aE ak}(d:J k=Z (.im<|.aC c,k)):bx J k=Z (c,k):=mV d
def h5{J:aE bN}(d:J k=Z (f,k))(a:dn k f=Z v)(b:qb v=Z c):f5 J k=Z (c,k):=Nh d a b
def mB(a:J k=Z (UN,k))(b:ec UN k=Z (B,k))(c:B.length<=100000)(q:rv B=v):cY J k=Z (v,k):=yq a b c q
def CJ(a:J k=Z (UN,k))(b:ec UN k=Z (B,k))(c:B.length<=100000)(q:r8 B=v):eC J k=Z (v,k):=rC a b c q
def xJ{J:aE bN}{M e:aE (Option Int)}{D Uw:Option Int}{a:ak}(b:J k=Z (f,k))(c:M k=Z (D,k))(d:e k=Z (Uw,k))(g:dn k f=Z v)(h:i_ v D Uw=Z a):gj J M e k=Z (a,k):=nI b c d g h
def kL{b:Nat}{J:aE ak}(d:J k=Z (v,k))(e:b<k.length)(q:k.set b (Z v)=UE):cj b J k=Z (.aM,UE):=i8 d e q
end
end L2
namespace G
open L2
variable{F Vv U2 Uy:List ba}{ar O D:List aD}{U_ N q E:Int}{n m c:aD}{o:aD->aD}{J:aE ak}{UE k:a0}{b s:Nat}{B A a Vq:Option ak}{UP:List Int}{e:ak}
def nd(f:f9 (s+1) e)(a:0<E)(d:E<1073741824):∃u Uu,gm [e,aI E]=Z (aI u,[Uu,aI E])/\0<=u/\u<E/\f9 s Uu:=by
 let⟨v,j,@I,rfl,t,z,g,h,w⟩:=f;have x:¬ E=0:=⋯
 by_cases hd:0<v
 ·refine⟨v%E,hp (v/E) j I,?_,q9 _ ⋯,tH _ a,v/E,j,I,rfl,Int.ediv_nonneg t ⋯,z,g,h,⋯⟩;unfold gm zg;have l:p6 (aI v) (aI 0)=Z (.im<|.aC aa):=congrArg (λc=>Z<|ak.im<|.aC c) (df hd);refine h_ [Z (hp (v/E) j I),Z<|aI E,Z<|aI<|v%E] rfl (rl ((pZ<|d1<|bY (aW<|bY (v:=aI v) rfl rfl rfl rfl rfl) rfl rfl rfl l).trans ((ee ((sg (bY (aW<|bY (v:=aI v) rfl rfl rfl rfl rfl) rfl rfl rfl<|l4 a) (show 2<3 by decide)).trans rfl)).trans<|(ee<|iY (Vd:=[Z (hp (v/E) j I),Z<|aI E,Z<|aI<|v%E]) (bY (aW<|bY (v:=aI v) rfl rfl rfl rfl rfl) rfl rfl rfl<|DP a d) rfl).trans rfl))) rfl
 ·obtain⟨Ux,b⟩:∃Ux:Int,Ux=(j*48271+12345+7919*(I+1))%2147483647:=⟨_,rfl⟩;have i:0<=Ux:=by rw[b];exact q9 _ ∅
  have y:Ux<2147483647:=by
   rw[b];exact tH _ ∅
  have k:gx j 48271=aa:=mr ∅ ∅;have m:gx 7919 (I+1)=aa:=zK ∅ ∅;have n:gx Ux Ux=aa:=mr ⋯ ⋯;refine⟨Ux*Ux%1999999973/31%E,hp v Ux<|I+1,?_,q9 _ ⋯,tH _ a,v,Ux,I+1,rfl,t,i,⋯,⋯,⋯⟩;unfold gm zg;have l:p6 (aI v) (aI 0)=Z (.im<|.aC aq):=congrArg (λc=>Z<|ak.im<|.aC c) (ep hd);have o:aw el (V<|aw a4 (ag 0)<|V<|au<|.int 1) (V<|au<|.int 48271) [Z (hp v j<|I+1),Z<|aI E,Y]=Z (aI<|j*48271,[Z (hp v j<|I+1),Z<|aI E,Y]):=bY (aW<|bY (v:=aI j) rfl rfl rfl rfl rfl) rfl rfl rfl (iK k);have p:aw el (V<|au<|.int 7919) (V<|aw a4 (ag 0)<|V<|au<|.int 2) [Z (hp v j<|I+1),Z<|aI E,Y]=Z (aI<|7919*(I+1),[Z (hp v j<|I+1),Z<|aI E,Y]):=bY rfl (aW<|bY (v:=aI (I+1)) rfl rfl rfl rfl rfl) rfl rfl (iK m);have q:aw fN (V<|aw dg (V<|aw dg (V<|aw el (V<|aw a4 (ag 0)<|V<|au<|.int 1)<|V<|au<|.int 48271)<|V<|au<|.int 12345)<|V<|aw el (V<|au<|.int 7919)<|V<|aw a4 (ag 0)<|V<|au<|.int 2) (V<|au<|.int 2147483647) [Z (hp v j<|I+1),Z<|aI E,Y]=Z (aI Ux,[Z (hp v j<|I+1),Z<|aI E,Y]):=by
   rw[b];exact bY (aW<|bY (aW<|bY (aW o) rfl rfl rfl rfl) (aW p) rfl rfl rfl) rfl rfl rfl (l4 ∅)
  have r:aw el (V<|aw a4 (ag 0)<|V<|au<|.int 1) (V<|aw a4 (ag 0)<|V<|au<|.int 1) [Z (hp v Ux<|I+1),Z<|aI E,Y]=Z (aI<|Ux*Ux,[Z (hp v Ux<|I+1),Z<|aI E,Y]):=bY (aW<|bY (v:=aI Ux) rfl rfl rfl rfl rfl) (aW<|bY (v:=aI Ux) rfl rfl rfl rfl rfl) rfl rfl (iK n);exact h_ [Z (hp v Ux<|I+1),Z<|aI E,Y] rfl ((ee<|(pW<|d1<|bY (aW<|bY (v:=aI v) rfl rfl rfl rfl rfl) rfl rfl rfl l).trans rfl).trans ((ee<|iY (Vd:=[Z (hp v j<|I+1),Z<|aI E,Y]) (bY (v:=aI (I+1)) (aW<|bY (v:=aI I) rfl rfl rfl rfl rfl) rfl rfl rfl rfl) rfl).trans ((ee<|iY (Vd:=[Z (hp v Ux<|I+1),Z<|aI E,Y]) q rfl).trans (d_ (bY (aW (bY (aW (bY (aW r) rfl rfl rfl (l4 ∅))) rfl rfl rfl (DP ∅ ∅))) rfl rfl rfl<|l4 a))))) rfl
def Su(b:0<=q):∃n,rn [.cF (UP.map .int),aI q]=Z (aI n,[.cF (UP.map .int),aI q]):=by
 by_cases a:q<(UP.length:Int)
 ·obtain⟨n,d⟩:∃n,UP[q.toNat]?=Z n:=⟨UP[q.toNat]'(by omega),by simp⟩;have e:eH (UP.map ab.int) q=Z (.int n):=xN b (by rw[gy,d];rfl);have lt:ny (aI q) (aI ((UP.map ab.int).length:Int))=Z (.im<|.aC aa):=congrArg (λc=>Z<|ak.im<|.aC c) (df (by rw[bS];exact a));have f:a4 (.cF<|UP.map .int) (aI q)=Z (aI n):=congrArg (Option.map ak.im) e;unfold rn zW;exact⟨n,h_ [Z (.cF<|UP.map .int),Z<|aI q] rfl (rl<|(pZ<|d1<|bY rfl (aW<|et rfl rfl rfl) rfl rfl lt).trans<|d_<|dj f) rfl⟩
 ·have lt:ny (aI q) (aI ((UP.map ab.int).length:Int))=Z (.im<|.aC aq):=congrArg (λc=>Z<|ak.im<|.aC c) (ep (by rw[bS];exact a));unfold rn zW;exact⟨0,h_ [Z (.cF<|UP.map .int),Z<|aI q] rfl ((ee<|(pW<|d1<|bY rfl (aW<|et rfl rfl rfl) rfl rfl lt).trans rfl).trans rfl) rfl⟩
def Lw(d:0<=q)(r:q<1000):∃e,rP [.cF (UP.map .int),aI q]=Z (e,[.cF (UP.map .int),aI q])/\f9 1000000 e:=by
 let⟨@n,g⟩:=Su (UP:=UP) d;have h:gx 7919 q=aa:=zK ∅ ∅;have i:gx (7919*q) q=aa:=mr ⋯ ⋯;have k:gx (n%2147483629+7919*q*q+11) 48271=aa:=mr ∅ ∅;obtain⟨j,UH⟩:∃j:Int,j=(n%2147483629+7919*q*q+11)*48271%2147483647:=⟨_,rfl⟩;have VF:0<=j:=by rw[UH];exact q9 _ ∅
 have s:j<2147483647:=by rw[UH];exact tH _ ∅
 have l:gx (10^60) (10^60)=aa:=by decide +kernel
 have Vj:gx (10^60*10^60) (10^60)=aa:=by decide +kernel
 have m:∀(f:Int) (c:Bool),gx f (if c then 1 else 0)=aa:=λf c=>mr (by cases c<;>decide) (by cases c<;>decide);have o:(0:Int)<10^60*10^60*10^60:=by decide
 have a:nJ (aI 10) (aI 60)=Z (aI<|10^(60:Int).toNat):=EB ∅;have b:nJ (aI 10) (aI 18)=Z (aI<|10^(18:Int).toNat):=EB ∅;rw[show (60:Int).toNat=60 from rfl]at a;rw[show (18:Int).toNat=18 from rfl]at b;have R:f9 1000000 (hp (n%(10^60*10^60*10^60)*(if decide ((10:Int)^18<=n) then 1 else 0)) j 0):=by
  have t:=q9 n (show (10^60*10^60*10^60:Int)≠0 by decide);refine⟨_,_,_,rfl,?_,VF,⋯,lH 0,by decide⟩;split
  ·rw[H_];exact t
  ·rw[Int.mul_zero];exact lH 0
 refine⟨_,?_,R⟩;generalize (10:Int)^60=UB at *;generalize (10:Int)^18=UA at *;unfold rP Fw;have p:cj 4 (aw fN (V<|aw el (V<|aw dg (V<|aw dg (V<|aw fN (ag 2)<|V<|au<|.int 2147483629)<|V<|aw el (V<|aw el (V<|au<|.int 7919)<|ag 1)<|ag 1)<|V<|au<|.int 11)<|V<|au<|.int 48271)<|V<|au<|.int 2147483647) [Z (.cF<|UP.map .int),Z<|aI q,Z<|aI n,Z<|aI<|UB*UB*UB,Y]=Z (.aM,[Z (.cF<|UP.map .int),Z<|aI q,Z<|aI n,Z<|aI<|UB*UB*UB,Z<|aI j]):=by
  rw[UH];exact kL (bY (aW (bY (aW (bY (aW (bY (aW (dj (l4 ∅))) (aW<|bY (aW<|dj<|iK h) rfl rfl rfl<|iK i) rfl rfl rfl)) rfl rfl rfl rfl)) rfl rfl rfl<|iK k)) rfl rfl rfl (l4 ∅)) (show 4<5 by decide) rfl
 exact fD rfl (cR (i8 (gO rfl rfl rfl g) (show 2<5 by decide) rfl) (cR (i8 (dX (cA<|dX (cA<|dX rfl rfl rfl rfl a) (cA<|dX rfl rfl rfl rfl a) rfl rfl<|iK l) (cA<|dX rfl rfl rfl rfl a) rfl rfl<|iK Vj) (show 3<5 by decide) rfl)<|cR p<|d_<|rC (dF (cA<|dX (cA<|dX rfl rfl rfl rfl<|l4 o) (cA<|qu (dF (cA<|dX rfl (cA<|dX rfl rfl rfl rfl b) rfl rfl rfl) rfl) rfl rfl) rfl rfl<|iK<|m _ _) rfl) rfl (gT rfl) rfl)) rfl
def CQ{D:List (Int×Int)}{m:Int×Int}(e:D.length<100000):hW (a3 D) [.im (ah m)]=Z (.im .a6,a3<|D++[m]):=by
 have:hW (a3 D) [.im (ah m)]=Z (.im .a6,.lst<|D.map ah++[ah m]):=u_ (by rw[bS];exact e);rw[this];simp
def xP(D:List (Int×Int)):eo [a3 D]=Z (aI (D.length:Int)):=by
 show Z (aI ((D.map ah).length:Int))=_;rw[bS]
def rE(D:List (Int×Int)):eo [aL D]=Z (aI (D.length:Int)):=by
 show Z (aI ((D.map ah).length:Int))=_;rw[bS]
def CM{VB Vp VD:aE bN}{f l i:bN}{g c n:Int}(b:VB k=Z (f,k))(d:Vp k=Z (l,k))(e:dn k f=Z (aI g))(a:dn k l=Z (aI c))(h:VD k=Z (i,k))(j:dn k i=Z (aI n):=by rfl):bx (gF e5 e5 VB Vp VD) k=Z (decide (g<=c)&&decide (c<=n),k):=by
 unfold bx gF;rw[b];show ((Vp k).bind _).bind _=_;rw[d];show ((dn k f).bind _).bind _=_;rw[e];show ((dn k l).bind _).bind _=_;rw[a];show ((if decide (g<=c)=aa then _ else _):Option (ak×a0)).bind _=_;cases decide (g<=c) with
 |false=>rfl
 |true=>
  rw[aJ rfl];show ((VD k).bind _).bind _=_;rw[h];show ((dn k l).bind _).bind _=_;rw[a];show ((dn k i).bind _).bind _=_;rw[j];rfl
structure nQ(E:Int)(D:List aD):Prop where
 ne:D≠[]
 ai:D.Nodup
 len:(D.length:Int)<=E
 lX:∀c∈D,0<=c.1/\c.1<=29/\0<=c.2/\c.2<=29
 par:∀g∈D,∀c∈D,(g.1-c.1)%2=0/\(g.2-c.2)%2=0
 con:∀o:aD->aD,(∀g∈D,∀c∈D,(c=(g.1,g.2+2)\/c=(g.1+2,g.2))->o g=o c)->∀g∈D,∀c∈D,o g=o c
def rJ:List aD:=([(0,2),(2,0),(0,-2),(-2,0)])
def nQ.add{E:Int}{D:List aD}(J:nQ E D){n v:aD}(m:n∈D)(hd:v∈rJ)(q:(n.1+v.1,n.2+v.2)∉D)(x:(D.length:Int)<E)(r:0<=n.1+v.1/\n.1+v.1<=29/\0<=n.2+v.2/\n.2+v.2<=29):nQ E (D++[(n.1+v.1,n.2+v.2)]):=by
 have Vi:v.1%2=0/\v.2%2=0:=by
  simp only[rJ,bI,hs,e_]at hd;rcases hd with e|e|e|e<;>subst e<;>exact⟨by decide,by decide⟩
 refine⟨by simp,dz.mpr ⟨J.ai,fJ _ _,λf b l s d=>q (by rw[cD.mp s]at d;rw[<-d];exact b)⟩,by simp;lia,λc a=>?_,λg h c a=>?_,λo i g h c a=>?_⟩
 ·rcases dv.mp a with e|e
  ·exact J.lX c e
  ·rw[cD.mp e];exact r
 ·have R:∀f∈D,(f.1-(n.1+v.1))%2=0/\(f.2-(n.2+v.2))%2=0:=λf b=>by
   have:=J.par f b n m;exact⟨⋯,⋯⟩
  rcases dv.mp h with t|t<;>rcases dv.mp a with z|z
  ·exact J.par g t c z
  ·rw[cD.mp z];exact R g t
  ·rw[cD.mp t];have:=R c z;exact⟨by show ((n.1+v.1)-c.1)%2=0;lia,by show ((n.2+v.2)-c.2)%2=0;lia⟩
  ·rw[cD.mp t,cD.mp z];exact⟨by simp,by simp⟩
 ·have u:=J.con o λg h c a=>i g (eG _ h) c (eG _ a);have j:n∈D++[(n.1+v.1,n.2+v.2)]:=eG _ m;have k:(n.1+v.1,n.2+v.2)∈D++[(n.1+v.1,n.2+v.2)]:=ei _ (.head _);have w:o n=o (n.1+v.1,n.2+v.2):=by
   simp only[rJ,bI,hs,e_]at hd;rcases hd with e|e|e|e
   ·subst e;exact i _ j _ k (.inl (eD ↥0 ↥0))
   ·subst e;exact i _ j _ k (.inr (eD ↥0 ↥0))
   ·subst e;exact (i _ k _ j (.inl (eD ↥0 (by simp;lia)))).symm
   ·subst e;exact (i _ k _ j (.inr (eD (by simp;lia) ↥0))).symm
  have p:∀f∈D++[(n.1+v.1,n.2+v.2)],o f=o n:=λf b=>by
   rcases dv.mp b with e|e
   ·exact u f e n m
   ·rw[cD.mp e];exact w.symm
  rw[p g h,p c a]
abbrev iO(e:ak)(E:Int)(D:List aD)(q U Vq a A B:Option ak):a0:=[Z e,Z<|aI E,Z<|a3 D,q,U,Vq,a,A,B]
def Lg{q U:Option ak}(h:f9 (s+3) e)(J:nQ E D)(ds:E<=40):
  ∃Uu y al am an ap as,uj (iO e E D q U Vq a A B)=Z (.aM,iO Uu E y q al am an ap as)/\f9 s Uu/\nQ E y:=by
 have dL:=nM.mpr J.ne;have eq:=J.len;let⟨C,@t,a1,a2,ev,UD⟩:=nd (s:=s+2) (E:=(D.length:Int)) h ⋯ ⋯;obtain⟨f,F⟩:∃n,D[C.toNat]?=Z n:=⟨D[C.toNat]'⋯,by simp⟩;let⟨u,@z,H,aR,aX,UT⟩:=nd (s:=s+1) (E:=3) UD ⋯ ⋯;let⟨j,@ex,bd,U_,Vi,w⟩:=nd (s:=s) (E:=4) UT ⋯ ⋯;obtain⟨v,hd⟩:∃v,rJ[j.toNat]?=Z v:=⟨rJ[j.toNat]'(by show j.toNat<4;lia),by simp⟩;have be:=qs a2 F;have bi:=qs U_ hd;let⟨I,@M,rfl⟩:=I0 J.ne;have bm:eH ((I++[M]).map ah) (-1)=Z (ah M):=HK ↥0;let⟨@bn,rfl⟩:=h.lst;let⟨@L,rfl⟩:=UD.lst;let⟨@N,rfl⟩:=UT.lst;let⟨@g,rfl⟩:=w.lst;generalize bs:I++[M]=D at *;have O:fE (aw a4 (ag 2)<|V<|bh 2 G.gm<|aj (ag 0)<|aj (V<|bR eo<|aj (ag 2) aA) aA) (d6 2<|cc (bb 4)<|cc (bb 5) eb) (iO (.lst bn) E D q U Vq a A B)=Z (.aM,iO (.lst L) E D q (Z<|aI f.1) (Z<|aI f.2) a A B):=by
  exact iY (dX rfl (cA<|gO (dF rfl<|dF (cA<|qu rfl rfl<|xP D) rfl) rfl rfl a1) rfl rfl<|congrArg (Option.map ak.im) be) rfl
 obtain⟨n,bv,P⟩:∃n∈D,d3 (bx<|aw es (V<|bh 2 G.gm<|aj (ag 0)<|aj (V<|au<|.int 3) aA)<|V<|au<|.int 0) (fE (aw a4 (ag 2)<|V<|kV<|au<|.int 1)<|d6 2<|cc (bb 4)<|cc (bb 5) eb) eX (iO (.lst L) E D q (Z<|aI f.1) (Z<|aI f.2) a A B)=Z (.aM,iO (.lst N) E D q (Z<|aI n.1) (Z<|aI n.2) a A B):=by
  by_cases Q:u=0
  ·have p:=nU u 0;rw[df Q]at p;exact⟨M,by rw[<-bs];simp,p_ (mV<|dX (cA<|gO rfl rfl rfl H) rfl rfl rfl p)<|iY (dX rfl (cA<|G2 rfl) rfl rfl<|congrArg (Option.map ak.im) bm) rfl⟩
  ·have p:=nU u 0;rw[ep Q]at p;exact⟨f,nF F,gZ (mV<|dX (cA<|gO rfl rfl rfl H) rfl rfl rfl p) rfl⟩
 have S:fE (aw a4 (V<|eC<|aj (V<|cY<|aj (V<|au<|.int 0)<|aj (V<|au<|.int 2) aA)<|aj (V<|cY<|aj (V<|au<|.int 2)<|aj (V<|au<|.int 0) aA)<|aj (V<|cY<|aj (V<|au<|.int 0)<|aj (V<|kV<|au<|.int 2) aA)<|aj (V<|cY<|aj (V<|kV<|au<|.int 2)<|aj (V<|au<|.int 0) aA) aA)<|V<|bh 2 G.gm<|aj (ag 0)<|aj (V<|au<|.int 4) aA) (d6 2<|cc (bb 6)<|cc (bb 7) eb) (iO (.lst N) E D q (Z<|aI n.1) (Z<|aI n.2) a A B)=Z (.aM,iO (.lst g) E D q (Z<|aI n.1) (Z<|aI n.2) (Z<|aI v.1) (Z<|aI v.2) B):=by
  have ca:eH [ab.tup [.int 0,.int 2],.tup [.int 2,.int 0],.tup [.int 0,.int<|-2],.tup [.int (-2),.int 0]] j=Z (.tup [.int v.1,.int v.2]):=bi;exact iY (dX rfl (cA<|gO rfl rfl rfl bd) rfl rfl<|congrArg (Option.map ak.im) ca) rfl
 obtain⟨m,x⟩:∃m:aD,m=(n.1+v.1,n.2+v.2):=⟨_,rfl⟩;obtain⟨k,b⟩:∃k:a0,k=iO (.lst g) E D q (Z<|aI n.1) (Z<|aI n.2) (Z<|aI v.1) (Z<|aI v.2) (Z<|.im<|ah m):=⟨_,rfl⟩;have T:cj 8 (cY<|aj (V<|aw dg (ag 4)<|ag 6)<|aj (V<|aw dg (ag 5)<|ag 7) aA) (iO (.lst g) E D q (Z<|aI n.1) (Z<|aI n.2) (Z<|aI v.1) (Z<|aI v.2) B)=Z (.aM,k):=by
  rw[b,x];rfl
 have cd:=yU D m;have fd:=KR m;have fn:=N6 m;have ce:bx (aw mc (ag 8)<|ag 2) k=Z (!decide (m∈D),k):=by
  rw[b];show (((ho (ah m)<|a3 D).map λr=>ak.im<|.aC<|!r).map λv=>(v,_)).bind (λo=>(l0 o.1).map λc=>(c,o.2))=_;rw[cd];rfl
 have ch:bx (gF e5 e5 (V<|au<|.int 0) (V<|aw a4 (ag 8)<|V<|au<|.int 0)<|V<|au<|.int 29) k=Z (decide (0<=m.1)&&decide (m.1<=29),k):=by
  rw[b];exact CM rfl rfl rfl rfl rfl
 have ci:bx (gF e5 e5 (V<|au<|.int 0) (V<|aw a4 (ag 8)<|V<|au<|.int 1)<|V<|au<|.int 29) k=Z (decide (0<=m.2)&&decide (m.2<=29),k):=by
  rw[b];exact CM rfl rfl rfl rfl rfl
 have cl:bx (aw ny (V<|bR eo<|aj (ag 2) aA)<|ag 1) k=Z (decide ((D.length:Int)<E),k):=by
  rw[b];exact d1 (bY (aW<|et rfl rfl<|xP D) rfl rfl rfl rfl)
 have fin:∀c:Bool,c=(!decide (m∈D)&&(decide ((D.length:Int)<E)&&((decide (0<=m.1)&&decide (m.1<=29))&&(decide (0<=m.2)&&decide (m.2<=29)))))->
   eO (bx<|aw mc (ag 8)<|ag 2) (eO (bx<|aw ny (V<|bR eo<|aj (ag 2) aA)<|ag 1)<|eO (bx<|gF e5 e5 (V<|au<|.int 0) (V<|aw a4 (ag 8)<|V<|au<|.int 0)<|V<|au<|.int 29)<|bx<|gF e5 e5 (V<|au<|.int 0) (V<|aw a4 (ag 8)<|V<|au<|.int 1)<|V<|au<|.int 29) k=Z (c,k):=by
  intro c co;rw[co];simp -implicitDefEqProofs only[eO,ce,ch,ci,cl,qq];generalize (decide (0<=m.1)&&decide (m.1<=29))=l;generalize (decide (0<=m.2)&&decide (m.2<=29))=i;cases decide (m∈D)<;>cases decide ((D.length:Int)<E)<;>cases l<;>rfl
 unfold uj;by_cases d:m∉D/\(D.length:Int)<E/\0<=m.1/\m.1<=29/\0<=m.2/\m.2<=29
 ·have cr:=fin aa (by simp[d]);refine⟨.lst g,D++[m],Z<|aI n.1,Z<|aI n.2,Z<|aI v.1,Z<|aI v.2,Z<|.im<|ah m,(ee O).trans<|(ee P).trans<|(ee S).trans<|(ee T).trans<|(pZ cr).trans ?_,w,?_⟩
  ·have cs:D.length<100000:=⋯
   rw[b];exact ng (ly rfl rfl rfl rfl rfl (CQ cs) rfl)
  ·rw[x];rw[x]at d;exact J.add bv (nF hd) d.1 d.2.1 d.2.2
 ·have db:=fin aq (by
   cases i:(!decide (m∈D)&&(decide ((D.length:Int)<E)&&((decide (0<=m.1)&&decide (m.1<=29))&&(decide (0<=m.2)&&decide (m.2<=29))))) with
   |false=>rfl
   |true=>
    simp at i;exact absurd ⟨i.1,⋯,i.2.2.1.1,i.2.2.1.2,i.2.2.2.1,i.2.2.2.2⟩ d)
  exact⟨.lst g,D,Z<|aI n.1,Z<|aI n.2,Z<|aI v.1,Z<|aI v.2,Z<|.im<|ah m,(ee O).trans ((ee P).trans ((ee S).trans ((ee T).trans ((pW db).trans (by rw[b];rfl))))),w,J⟩
def nk{g:aD}:a9 (ah g) (ah c)=aa↔g.1<c.1\/(g.1=c.1/\g.2<c.2):=by
 let⟨f,l⟩:=g;let⟨H,u⟩:=c;show (if ab.beq (.int f) (.int H)=aa then (if ab.beq (.int l) (.int u)=aa then aq else decide (l<u)) else decide (f<H))=aa↔_;have d:∀b w:Int,ab.beq (.int b) (.int w)=decide (b=w):=λb w=>by
  show (b==w)=_;by_cases e:b=w<;>simp[e]
 rw[d,d];by_cases t:f=H<;>by_cases z:l=u<;>simp[t,z]
def jd(M:List aD):Prop:=((M.map ah).Pairwise (λg c=>a9 g c=aa))
def zC{Uy:List aD}(ai:Uy.Nodup)(c:Uy.length<=1000):∃O:List aD,O.Perm Uy/\g9 (Uy.map ah)=Z (a3 O)/\jd O:=by
 have a:=uw ai c;let⟨@O,U5,b⟩:=C4 (jc<|Uy.map ah);refine⟨O,U5,?_,?_⟩
 ·unfold g9;rw[aJ (oJ.mpr a),b]
 ·unfold jd;rw[<-b];exact pI a.1.3 a.1.2
def Pw{Uy:List aD}(o:O.Perm Uy)(r:jd O)(b:Uy.length<=1000)(ai:Uy.Nodup):g9 (Uy.map ah)=Z (a3 O):=by
 have a:=uw ai b;unfold g9;rw[aJ (oJ.mpr a),<-tC a.1 (o.map ah) r]
theorem zp:∀{f:List ab},(∀v∈f,∃r,v=.tup r)->fk [.lst f]=g9 f
 |[],_=>rfl
 |v::f,e=>by
  let⟨@r,rfl⟩:=e v (.head _);rfl
def Hd{Uy:List aD}(a:k[b]?=Z (Z<|a3 Uy))(e:g9 (Uy.map ah)=Z (a3 O)):bR fk (aj (ag b) aA) k=Z (a3 O,k):=by
 have c:fk [a3 Uy]=Z (a3 O):=by
  rw[zp,e];intro v hd;let⟨@n,W,rfl⟩:=ew.mp hd;exact⟨_,rfl⟩
 simp -implicitDefEqProofs only[bR,aj,ag,tv,a,qq,rM,vZ,u6,FK,q7,c]
def sS{f:List ab}(e:J k=Z (.lst f,UE)):bR jv (aj (V J) aA) k=Z (.im<|.tup f,UE):=by
 simp -implicitDefEqProofs only[bR,aj,V,tv,e,qq,rM,vZ,u6,Fd,jv,gq]
def I2(h:f9 (s+1000) e):∃Uu D,rZ [e]=Z (a3 D,[Uu])/\f9 s Uu/\e7 D/\jd D:=by
 let⟨m,@Vx,H,cd,ce,VW⟩:=nd (s:=s+999) (E:=4) h ⋯ ⋯;obtain⟨C,I,dC,dc⟩:∃C:Int,eH [ab.int 3,.int 8,.int 14,.int 40] m=Z (.int C)/\0<C/\C<=40:=by
  have:m=0\/m=1\/m=2\/m=3:=⋯
  rcases this with rfl|rfl|rfl|rfl
  ·exact⟨3,rfl,by decide,by decide⟩
  ·exact⟨8,rfl,by decide,by decide⟩
  ·exact⟨14,rfl,by decide,by decide⟩
  ·exact⟨40,rfl,by decide,by decide⟩
 let⟨L,@t,M,aR,aX,UD⟩:=nd (s:=s+998) (E:=C) VW dC ⋯;let⟨n,@z,N,Q,ch,UT⟩:=nd (s:=s+997) (E:=30) UD ⋯ ⋯;let⟨r,@w,S,U_,Vi,x⟩:=nd (s:=s+996) (E:=30) UT ⋯ ⋯;obtain⟨E,al⟩:∃E:Int,E=1+L:=⟨_,rfl⟩;have am:nQ E [(n,r)]:=⟨by simp,by simp,by simp;lia,λc j=>by rw[cD.mp j];exact⟨Q,by show n<=29;lia,U_,by show r<=29;lia⟩,λg l c j=>by rw[cD.mp j,cD.mp l];exact⟨by simp,by simp⟩,λo W g l c j=>by rw[cD.mp j,cD.mp l]⟩;let⟨@UO,an,⟨ap,D,u,U,Vq,a,A,@B,rfl,v,J⟩⟩:=Ii (Vc:=bb 3) (c:=uj) (y:=iF 0 (3*E).toNat) (λb k=>∃e D u U Vq a A B,k=iO e E D u U Vq a A B/\f9 (s+996-3*b) e/\nQ E D) (k:=iO w E [(n,r)] Y Y Y Y Y Y) ⟨w,[(n,r)],Y,Y,Y,Y,Y,Y,rfl,x,am⟩
  (λb f k as a1=>by
   let⟨e,D,u,U,Vq,a,A,@B,rfl,a2,J⟩:=a1;have Uw:b<(3*E).toNat:=by
    have:=(gp.mp as).1
    rwa [iF,bS,i0]at this
   let⟨Uu,bd,ci,cl,co,cr,@cs,d,P,be⟩:=Lg (s:=s+996-3*(b+1)) (q:=Z (.im f)) (U:=U) (Vq:=Vq) (a:=a) (A:=A) (B:=B) (a2.mono ⋯) J ⋯;exact⟨iO e E D (Z<|.im f) U Vq a A B,.aM,_,rfl,d,.inl rfl,Uu,bd,_,_,_,_,_,_,rfl,P,be⟩)
 have bi:(iF 0 (3*E).toNat).length=(3*E).toNat:=by rw[iF,bS,i0]
 rw[bi]at v;have db:=J.len;let⟨@O,U5,T,Vv⟩:=zC J.ai ⋯;refine⟨ap,O,?_,v.mono ⋯,⟨λi=>?_,U5.nodup_iff.mpr J.ai,by rw[U5.length_eq];lia,λc j=>J.lX c<|U5.mem_iff.mp j,λg l c j=>J.par g (U5.mem_iff.mp l) c<|U5.mem_iff.mp j,λo bm g l c j=>J.con o (λg l c j=>bm g (U5.mem_iff.mpr l) c<|U5.mem_iff.mpr j) g (U5.mem_iff.mp l) c<|U5.mem_iff.mp j⟩,Vv⟩
 ·let⟨@p,rfl⟩:=h.lst;let⟨@ds,rfl⟩:=VW.lst;let⟨@F,rfl⟩:=UD.lst;let⟨@dL,rfl⟩:=UT.lst;let⟨@bn,rfl⟩:=x.lst;let⟨@eq,rfl⟩:=v.lst;have bs:sA (3*E):=⟨⋯,⋯⟩;have mk:gx 3 E=aa:=zK ∅ ∅;have bv:cj 1 (aw dg (V<|au<|.int 1)<|V<|bh 2 G.gm<|aj (ag 0)<|aj (V<|aw a4 (V<|eC<|aj (V<|au<|.int 3)<|aj (V<|au<|.int 8)<|aj (V<|au<|.int 14)<|aj (V<|au<|.int 40) aA)<|V<|bh 2 G.gm<|aj (ag 0)<|aj (V<|au<|.int 4) aA) aA) [Z (.lst p),Y,Y,Y,Y,Y,Y,Y,Y]=Z (.aM,[Z (.lst F),Z<|aI E,Y,Y,Y,Y,Y,Y,Y]):=by
   rw[al];exact i8 (dX rfl (cA<|gO (dF rfl<|dF (cA<|dX (cA<|rC rfl rfl (gT rfl) rfl) (cA<|gO rfl rfl rfl H) rfl rfl<|congrArg (Option.map ak.im) I) rfl) rfl rfl M) rfl rfl rfl) (show 1<9 by decide) rfl
  have ca:cj 2 (eC<|aj (V<|cY<|aj (V<|bh 2 G.gm<|aj (ag 0)<|aj (V<|au<|.int 30) aA)<|aj (V<|bh 2 G.gm<|aj (ag 0)<|aj (V<|au<|.int 30) aA) aA) aA) [Z (.lst F),Z<|aI E,Y,Y,Y,Y,Y,Y,Y]=Z (.aM,iO (.lst bn) E [(n,r)] Y Y Y Y Y Y):=
   i8 (rC (dF (cA<|yq (dF (cA<|gO rfl rfl rfl N)<|dF (cA<|gO rfl rfl rfl S) rfl) rfl (gT rfl) rfl) rfl) rfl (gT rfl) rfl) (show 2<9 by decide) rfl;unfold rZ Cd;exact fD rfl (cR bv<|cR ca<|cR (jz (EZ (bV (aW<|dj<|iK mk) rfl) rfl bs) an rfl)<|d_<|Hd rfl T) rfl
 ·subst i;have:=U5.length_eq;have t:=nM.mpr J.ne;simp at this;lia
def Tg(c:aD):tc [.im (ah c)]=Z (a3<|eW c,[.im (ah c)]):=by
 unfold tc AR;exact h_ [Z (.im<|ah c),Z<|aI c.1,Z<|aI c.2] rfl rfl rfl
theorem He:∀(D done:List aD) (x a:Option ak),4*(done.length+D.length)<=1000->∃b,dK (bb 2) vA (D.map ah) [x,Z<|a3<|cells done,a]=Z (.aM,[x,Z<|a3<|cells<|done++D,b])
 |[],done,x,a,_=>⟨a,by rw[b_];rfl⟩
 |c::D,done,x,a,e=>by
  rw[dT]at e;let⟨@b,f⟩:=He D (done++[c]) x (Z<|.im<|ah c) (by rw[d7,kK];lia);refine⟨b,?_⟩;have d:=Tg c;have bM:=r7 done;have g:(cells done).length+4<=100000:=⋯
  have h:(cells done).map ah++(eW c).map ah=(cells<|done++[c]).map ah:=by
   unfold cells;rw[List.flatMap_append];simp
  have i:(cells done).length+(eW c).length<=100000:=g;rw[cK,dK];dsimp only;rw[show bb 2 (.im<|ah c) [x,Z<|a3<|cells done,a]=Z [x,Z<|a3<|cells done,Z<|.im<|ah c] from rfl];show (vA _).bind _=_;have j:nE (a3<|cells done) [a3 (eW c)]=Z (.im .a6,a3<|cells<|done++[c]):=by
   show _=Z (ak.im .a6,ak.lst<|(cells<|done++[c]).map ah);rw[<-h];exact aJ (by rw[bS,bS];exact i)
  rw[show vA [x,Z<|a3<|cells done,Z<|.im<|ah c]=Z (.aM,[x,Z<|a3<|cells<|done++[c],Z<|.im<|ah c]) from ng (ly rfl rfl (dF (cA<|gO rfl rfl rfl d) rfl) rfl rfl j (by rfl))];rw[show done++c::D=done++[c]++D by simp];exact f
def PI(UY:e7 D):∃ar,sH [a3 D]=Z (aL ar,[a3 D])/\ar.Perm (cells D)/\jd ar:=by
 have d:=UY.len;have bM:=r7 D;let⟨@a,c⟩:=He D [] (Z<|.dd) Y (by simp;lia);let⟨@ar,U5,T,Vv⟩:=zC UY.w2 ⋯;refine⟨ar,?_,U5,Vv⟩;unfold sH BP;refine h_ [Z (a3 D),Z<|a3<|cells D,a] rfl ((ee (UE:=[Z (a3 D),Z<|a3<|cells [],Y]) rfl).trans<|(ee<|(As (m:=Z (0,a3 D)) (y:=D.map ah) (UE:=[Z .dd,Z<|a3<|cells [],Y]) rfl c).trans rfl).trans<|d_ ?_) rfl;exact sS (Hd (k:=[Z (a3 D),Z<|a3<|cells D,a]) (b:=1) rfl T)
def aP(d:ba):ab:=(.tup (ig d))
abbrev bf(T:List ba):ak:=.lst (T.map aP)
def rh:ab->ba
 |.tup [g,c]=>(ov g,ov c)
 |_=>((0,0),(0,0))
def vT(d:ba):rh (aP d)=d:=rfl
def B7{g c:ba}(e:aP g=aP c):g=c:=by rw[<-vT g,e,vT]
theorem DM:∀(M:List ab) (Uy:List ba),(∀f∈M,f∈Uy.map aP)->M=(M.map rh).map aP
 |[],_,_=>rfl
 |f::M,Uy,e=>by
  let⟨@o,W,d⟩:=ew.mp (e f<|.head _);rw[cK,cK,<-DM M Uy λl a=>e l<|.tail _ a,<-d,vT]
def Cq{M:List ab}(e:M.Perm (Uy.map aP)):∃O:List ba,O.Perm Uy/\M=O.map aP:=by
 refine⟨M.map rh,?_,DM M Uy λf a=>e.mem_iff.mp a⟩;have:=zB rh e;rw[gr]at this;have d:(rh ∘ aP:ba->ba)=id:=funext vT;rw[d,y9]at this;exact this
def uf(ai:Uy.Nodup)(a:Uy.length<=1000):oe (Uy.map aP):=by
 refine⟨⟨by rw[bS];exact a,λg b c e=>?_,?_⟩,.inr λv hd=>?_⟩
 ·let⟨@f,W,rfl⟩:=ew.mp b;let⟨@l,W,rfl⟩:=ew.mp e;rfl
 ·exact Bn aP (λg c s d=>s<|B7 d) ai
 ·let⟨@f,W,rfl⟩:=ew.mp hd;rfl
def Fe(ai:Uy.Nodup)(e:Uy.length<=1000)(f:k[b]?=Z (Z<|bf Uy)):∃O:List ba,O.Perm Uy/\bR fk (aj (ag b) aA) k=Z (bf O,k)/\(O.map aP).Pairwise (λg c=>a9 g c=aa):=by
 have a:=uf ai e;let⟨@O,U5,d⟩:=Cq (jc<|Uy.map aP);refine⟨O,U5,?_,by rw[<-d];exact pI a.1.3 a.1.2⟩;have h:fk [bf Uy]=Z (bf O):=by
  rw[zp]
  ·unfold g9;rw[aJ (oJ.mpr a),d]
  ·intro v hd;let⟨@n,W,rfl⟩:=ew.mp hd;exact⟨_,rfl⟩
 simp -implicitDefEqProofs only[bR,aj,ag,tv,f,qq,rM,vZ,u6,FK,q7,h]
def Kq(ai:Uy.Nodup)(a:Uy.length<=1000)(c:k[b]?=Z (Z<|bf Uy)):∃O:List ba,O.Perm Uy/\bR fk (aj (ag b) aA) k=Z (bf O,k):=by
 let⟨@O,t,z,W⟩:=Fe ai a c;exact⟨O,t,z⟩
def fb(D:List aD)(c:aD):List ba:=(([(c.1,c.2+2),(c.1+2,c.2)].filter λm=>decide (m∈D)).map λm=>(c,m))
def c_(D:List aD):List ba:=(D.flatMap (fb D))
def h9{d:ba}:d∈c_ D↔e9 D d:=by
 unfold c_ fb e9;simp only[mm,ew,zq,bI,hs,e_,uQ];constructor
 ·rintro⟨c,a,m,⟨b,z⟩,rfl⟩;exact⟨a,z,b⟩
 ·rintro⟨t,z,e⟩;exact⟨d.1,t,d.2,⟨e,z⟩,rfl⟩
def sj(D:List aD)(c:aD):(fb D c).length<=2:=by
 unfold fb;rw[bS];exact List.length_filter_le _ _
theorem r1(D:List aD):∀M:List aD,(M.flatMap<|fb D).length<=2*M.length
 |[]=>bT _
 |c::M=>by
  rw[mM,d7,dT];have:=r1 D M;have:=sj D c;lia
def tX(ai:D.Nodup):(c_ D).Nodup:=by
 refine s_ ai (λc W=>?_) λg W c W f t z=>?_
 ·unfold fb;refine zz (RW _ ?_) λg W c W d=>by injection d
  simp;lia
 ·unfold fb at t z;let⟨@m,W,rfl⟩:=ew.mp t;let⟨@Vb,W,d⟩:=ew.mp z;injection d with a b;exact a.symm
def Mv{UJ:List ba}(f:UJ.length<=1000):sv [Z (a3 D),Z<|bf UJ,Z<|aI c.1,Z<|aI c.2]=Z (.aM,[Z (a3 D),Z<|bf<|UJ++fb D c,Z<|aI c.1,Z<|aI c.2]):=by
 have a:de 1 [0,2,3] (dD<|V<|eC<|aj (V<|cY<|aj (ag 2)<|aj (V<|aw dg (ag 3)<|V<|au<|.int 2) aA)<|aj (V<|cY<|aj (V<|aw dg (ag 2)<|V<|au<|.int 2)<|aj (ag 3) aA) aA) (bb 0) G.AF G.BZ [Z (a3 D),Z<|bf UJ,Z<|aI c.1,Z<|aI c.2]=Z (bf<|fb D c,[Z (a3 D),Z<|bf UJ,Z<|aI c.1,Z<|aI c.2]):=by
  refine (nX (y:=[(c.1,c.2+2),(c.1+2,c.2)].map ah) (m:=Y) (UE:=[Z (a3 D),Z<|bf UJ,Z<|aI c.1,Z<|aI c.2]) ?_ (qy _ (λm=>decide (m∈D)) (λm=>aP (c,m)) [(c.1,c.2+2),(c.1+2,c.2)] [] (λm g=>?_) (by show 0+2<=100000;decide))).trans ?_
  ·rfl
  ·refine⟨[Z (.im<|ah m),Z<|a3 D,Z<|aI c.1,Z<|aI c.2],[Z (.im<|ah m),Z<|a3 D,Z<|aI c.1,Z<|aI c.2],rfl,?_,λ_=>rfl,λ_=>⟨_,rfl,rfl⟩⟩;have b:=yU D m;show (((ho (ah m)<|a3 D).map λr=>ak.im<|.aC r).map λv=>(v,_)).bind (λo=>(l0 o.1).map λc=>(c,o.2))=_;rw[b];rfl
  ·show Z (ak.lst _,_)=Z (ak.lst<|(fb D c).map aP,_);unfold fb;rw[gr];rfl
 have bF:=sj D c;have d:(UJ.map aP).length+((fb D c).map aP).length<=100000:=by rw[bS,bS];lia
 have e:nE (bf UJ) [bf (fb D c)]=Z (.im .a6,bf<|UJ++fb D c):=by
  show (if _ then _ else _)=_;rw[aJ d,<-fz]
 unfold sv;exact ng (ly rfl rfl (bV (aW a) rfl) rfl rfl e rfl)
def Bj(D:List aD)(r:a0):oN (Z (a3 D)::r) 0 (D.map ah)=aa:=by
 unfold oN;simp
theorem CG{D:List aD}:∀(a:List aD) (UJ:List ba) (b d:Option ak),UJ.length+2*a.length<=1000->∃Vj e,lu 0 (D.map ah) (d6 2<|cc (bb 2)<|cc (bb 3) eb) sv (a.map ah) [Z (a3 D),Z<|bf UJ,b,d]=Z (.aM,[Z (a3 D),Z<|bf<|UJ++a.flatMap (fb D),Vj,e])
 |[],UJ,b,d,_=>⟨b,d,by
  rw[z9,lu];dsimp only;rw[aJ (Bj D _),Bm,b_]⟩
 |c::a,UJ,b,d,f=>by
  rw[dT]at f;have bF:=sj D c;let⟨Vj,e,g⟩:=CG a (UJ++fb D c) (Z<|aI c.1) (Z<|aI c.2) (by rw[d7];lia);refine⟨Vj,e,?_⟩;rw[cK,lu];dsimp only;rw[aJ (Bj D _),show d6 2 (cc (bb 2)<|cc (bb 3) eb) (.im<|ah c) [Z (a3 D),Z<|bf UJ,b,d]=Z [Z (a3 D),Z<|bf UJ,Z<|aI c.1,Z<|aI c.2] from rfl];show (sv _).bind _=_;rw[Mv ⋯,mM,<-bu];exact g
def MC(UY:e7 D):∃UJ,qU [a3 D]=Z (bf UJ,[a3 D])/\UJ.Perm (c_ D):=by
 have e:=UY.len;have bF:=r1 D D;let⟨Vj,@a,c⟩:=CG (D:=D) D [] Y Y (by simp;lia);rw[lF]at c;let⟨@UJ,U5,d⟩:=Kq (k:=[Z (a3 D),Z<|bf<|c_ D,Vj,a]) (b:=1) (tX UY.ai) (by show (D.flatMap<|fb D).length<=1000;lia) rfl;refine⟨UJ,?_,U5⟩;unfold qU Dj;exact h_ [Z (a3 D),Z<|bf<|c_ D,Vj,a] rfl ((ee (UE:=[Z (a3 D),Z<|bf [],Y,Y]) rfl).trans<|(ee (UE:=[Z (a3 D),Z<|bf<|c_ D,Vj,a]) c).trans<|d_ d) rfl
def cn(D:List aD)(o:aD->aD):List (List ab×ab):=(D.map λc=>(dS c,ah<|o c))
theorem E9:∀(M a:List (List ab×ab)),((a++M).map (·.1)).Nodup->M.foldl (λg o=>g_ g o.1 o.2) a=a++M
 |[],a,_=>by simp
 |o::M,a,ai=>by
  have e:¬ (a.any λb=>decide (b.1=o.1))=aa:=λi=>by
   let⟨@p,c,d⟩:=oO.mp i;have d:=eR d;rw[fz,dz]at ai;exact ai.2.2 p.1 (zL c) o.1 ↥0 d
  rw[mU,show g_ a o.1 o.2=a++[o] by unfold g_;rw[aO e],E9 M (a++[o]) (by rw[bu];exact ai),bu];rfl
def NF(ai:D.Nodup)(o:aD->aD):m_ (cn D o)=cn D o:=by
 unfold m_;rw[E9 _ [] ?_,lF];unfold cn;rw[lF,gr];exact zz ai λg W c W d=>o_ d
def KH(o:aD->aD){n:aD}(e:n∈D):eU (cn D o) (dS n)=Z (ah<|o n):=by
 induction D with
 |nil=>cases e
 |cons c D a=>
  unfold eU cn;rw[cK,jl];by_cases d:c=n
  ·subst d;simp
  ·rw[show decide (((dS c,ah<|o c):List ab×ab).1=dS n)=aq from ep λi=>d<|o_ i];exact a ((bI.mp e).resolve_left λi=>d i.symm)
def JJ(D:List aD)(o:aD->aD):pw (D.map λc=>.tup [ah c,ah<|o c])=Z (cn D o):=by
 unfold cn;induction D with
 |nil=>rfl
 |cons n r a=>
  rw[cK,zP,pw,a];rfl
def Pd(D:List aD)(o:aD->aD):((cn D o).all λp=>ab.keys 7 p.1)=aa:=by
 unfold cn;rw[yQ,iU];intro n W;rfl
def FD(ai:D.Nodup)(a:D.length<=1000)(e:J k=Z (.lst<|D.map λc=>.tup [ah c,ah<|o c],UE)):bR oC (aj (V J) aA) k=Z (.aQ<|cn D o,UE):=by
 have M:(cn D o).length<=1000:=by unfold cn;rw[bS];exact a
 have m:=Pd D o;have L:=NF ai o;have r:=JJ D o;simp -implicitDefEqProofs only[bR,aj,V,e,tv,qq,rM,vZ,Fd,u6,oC,r,m,M,L,and_self,hK]
inductive hQ (D:List aD):List ba->(aD->aD)->Prop where
 |nil:hQ D [] λc=>c
 |add {U2:List ba}{o:aD->aD}{d:ba}:hQ D U2 o->e9 D d->o d.1≠o d.2->hQ D (U2++[d]) λc=>if o c=o d.1 then o d.2 else o c
def hQ.wJ(q:hQ D U2 o):∀d∈U2,e9 D d:=by
 induction q with
 |nil=>intro d e;cases e
 |add q t z a=>
  intro d e;rcases dv.mp e with e|e
  ·exact a d e
  ·rw[cD.mp e];exact t
structure kp(D:List aD)(Vv U2:List ba)(o:aD->aD):Prop where
 gR:hQ D U2 o
 ai:(U2++Vv).Nodup
 len:U2.length+Vv.length<=80
 eJ:∀d∈Vv,e9 D d
 xW:∀d,e9 D d->d∈Vv\/o d.1=o d.2
def kp.drop(Q:kp D Vv U2 o){w:Nat}{d:ba}(c:Vv[w]?=Z d)(g:o d.1=o d.2):kp D (Vv.eraseIdx w) U2 o:=by
 let⟨@h,j⟩:=gp.mp c;refine⟨Q.gR,Q.ai.sublist<|Pf (List.eraseIdx_sublist _ _) _,?_,λf a=>Q.eJ f<|DH a,λf a=>?_⟩
 ·have:=Q.len;rw[zZ,aJ h];lia
 ·rcases Q.xW f a with e|e
  ·by_cases i:f=d
   ·rw[i];exact .inr g
   ·left;rw[List.mem_eraseIdx_iff_getElem?];let⟨@b,Uw⟩:=List.mem_iff_getElem?.mp e;exact⟨b,λp=>i (by rw[p,c]at Uw;exact (Option.some.inj Uw).symm),Uw⟩
  ·exact .inr e
theorem GW{U1:Type}:∀{M:List U1}{w:Nat} (e:w<M.length),(M[w]::M.eraseIdx w).Perm M
 |g::M,0,_=>List.Perm.refl _
 |g::M,w+1,e=>(List.Perm.swap _ _ _).trans (.cons g<|GW<|Nat.lt_of_succ_lt_succ e)
def kp.take(Q:kp D Vv U2 o){w:Nat}{d:ba}(b:Vv[w]?=Z d)(j:o d.1≠o d.2):kp D (Vv.eraseIdx w) (U2++[d]) (λc=>if o c=o d.1 then o d.2 else o c):=by
 let⟨@g,k⟩:=gp.mp b;have h:(d::Vv.eraseIdx w).Perm Vv:=by
  rw[<-k];exact GW g
 refine⟨.add Q.gR (Q.eJ d<|nF b) j,?_,?_,λf a=>Q.eJ f<|DH a,λf a=>?_⟩
 ·rw[bu];exact (ed U2 h).nodup_iff.mpr Q.ai
 ·have:=Q.len;rw[zZ,aJ g,d7,kK];omega
 ·by_cases i:f=d
  ·right;subst i;show (if o f.1=o f.1 then _ else _)=(if o f.2=o f.1 then _ else _);rw[aJ rfl];split<;>rfl
  ·rcases Q.xW f a with e|e
   ·left;rcases bI.mp (h.mem_iff.mpr e) with e|e
    ·exact absurd e i
    ·exact e
   ·right;show (if o f.1=o d.1 then _ else _)=(if o f.2=o d.1 then _ else _);rw[e]
abbrev hR(e:ak)(D:List aD)(Vv U2:List ba)(o:aD->aD)(Vq a A B:Option ak):a0:=[Z e,Z<|a3 D,Z<|bf Vv,Z<|bf U2,Z<|.aQ<|cn D o,Vq,a,A,B]
def si(g c:aD):eV (.im<|ah g) (.im<|ah c)=Z (.im<|.aC<|!decide (g=c)):=by
 have e:=mI g c;show (if ab.bF 8 (ah g)=aa then Z (ak.im<|.aC<|!cu (ah g) (ah c)) else Y)=_;rw[aJ (tY g),e]
def Cn(g c:aD):es (.im<|ah g) (.im<|ah c)=Z (.im<|.aC<|decide (g=c)):=by
 have e:=mI g c;show (if ab.bF 8 (ah g)=aa then Z (ak.im<|.aC<|cu (ah g)<|ah c) else Y)=_;rw[aJ (tY g),e]
def qA(o:aD->aD){n:aD}(e:n∈D):a4 (.aQ<|cn D o) (.im<|ah n)=Z (.im<|ah<|o n):=by
 have J:=KH o e;show (if ab.keys 7 (dS n)=aa then (eU (cn D o)<|dS n).map ak.im else Y)=_;rw[aJ (QM n),J];rfl
def Kn(D:List ba):eo [bf D]=Z (aI (D.length:Int)):=by
 show Z (aI ((D.map aP).length:Int))=_;rw[bS]
def Lr{C:aD}(d:D.length<=1000):de 1 [4,7,8] (dD<|ag 1) (bb 0) d5 G.FU (hR e D Vv U2 o Vq a (Z<|.im<|ah m)<|Z<|.im<|ah C)=Z (.lst<|D.map λc=>.tup [ah c,ah<|if o c=m then C else o c],hR e D Vv U2 o Vq a (Z<|.im<|ah m)<|Z<|.im<|ah C):=by
 refine (nX (y:=D.map ah) (m:=Z (1,a3 D)) (UE:=[Z e,Z .dd,Z<|bf Vv,Z<|bf U2,Z<|.aQ<|cn D o,Vq,a,Z<|.im<|ah m,Z<|.im<|ah C]) rfl (jr _ (λc=>.tup [ah c,ah<|if o c=m then C else o c]) D (λc b=>?_) ⋯)).trans rfl;have f:=qA o b;have p:=Cn (o c) m;refine⟨[Z (.im<|ah c),Z<|.aQ<|cn D o,Z<|.im<|ah m,Z<|.im<|ah C],_,[Z (.im<|ah c),Z<|.aQ<|cn D o,Z<|.im<|ah m,Z<|.im<|ah C],rfl,rfl,?_,rfl⟩;by_cases i:o c=m
 ·rw[aJ i];rw[df i]at p;exact mB (bV rfl<|bV (aW<|PK (d1<|bY (aW<|dj f) rfl rfl rfl p) rfl) rfl) rfl (gT rfl) rfl
 ·rw[aO i];rw[ep i]at p;exact mB (bV rfl<|bV (aW<|JD (d1<|bY (aW<|dj f) rfl rfl rfl p)<|dj f) rfl) rfl (gT rfl) rfl
def Rd(UY:e7 D)(h:f9 (s+1) e)(Q:kp D Vv U2 o)(x:Vv≠[]):
  ∃Uu j n p y z C F,s6 (hR e D Vv U2 o Vq a A B)=Z (.aM,hR Uu D j n p y z C F)/\f9 s Uu/\kp D j n p/\j.length<Vv.length:=by
 have T:=nM.mpr x;have U:=Q.len;have aC:=UY.len;let⟨u,@t,H,I,J,UD⟩:=nd (s:=s) (E:=(Vv.length:Int)) h (by omega) (by omega);obtain⟨d,c⟩:∃d,Vv[u.toNat]?=Z d:=⟨Vv[u.toNat]'(by omega),by simp⟩;let⟨@L,rfl⟩:=h.lst;let⟨@b,rfl⟩:=UD.lst;have q:=Q.eJ d (nF c);have l:fE (gu iP 2 qa<|aj (V<|bh 2 G.gm<|aj (ag 0)<|aj (V<|bR eo<|aj (ag 2) aA) aA) aA) (d6 2<|cc (bb 5)<|cc (bb 6) eb) (hR (.lst L) D Vv U2 o Vq a A B)=Z (.aM,hR (.lst b) D (Vv.eraseIdx u.toNat) U2 o (Z<|.im<|ah d.1) (Z<|.im<|ah d.2) A B):=by
  have M:(Vv.map aP)[u.toNat]?=Z (aP d):=by rw[gy,c];rfl
  have N:(0<=u/\u<((Vv.map aP).length:Int)):=⟨I,by rw[bS];exact J⟩;have O:=GZ aP Vv u.toNat;have m:qa (bf Vv) [aI u]=Z (.im<|aP d,bf<|Vv.eraseIdx u.toNat):=by
   show (if 0<=u/\u<((Vv.map aP).length:Int) then _ else Y)=_;rw[aJ N,M,O];rfl
  exact iY (ly rfl rfl (dF (cA<|gO (dF rfl<|dF (cA<|qu rfl rfl<|Kn Vv) rfl) rfl rfl H) rfl) rfl rfl m (by rfl)) (by rfl)
 have r:(Vv.eraseIdx u.toNat).length<Vv.length:=by rw[zZ,aJ (by omega)];omega
 have v:=qA o q.1;have w:=qA o q.2.1;have P:=si (o d.1) (o d.2);obtain⟨k,f⟩:∃k:a0,k=hR (.lst b) D (Vv.eraseIdx u.toNat) U2 o (Z<|.im<|ah d.1) (Z<|.im<|ah d.2) A B:=⟨_,rfl⟩;have g:bx (aw eV (V<|aw a4 (ag 4)<|ag 5)<|V<|aw a4 (ag 4)<|ag 6) k=Z (!decide (o d.1=o d.2),k):=by
  rw[f];exact d1 (bY (aW<|dj v) (aW<|dj w) rfl rfl P)
 rw[<-f]at l;unfold s6;by_cases i:o d.1=o d.2
 ·rw[df i]at g;exact⟨.lst b,_,U2,o,Z<|.im<|ah d.1,Z<|.im<|ah d.2,A,B,(ee l).trans ((pW g).trans (by rw[f];rfl)),UD,Q.drop c i,r⟩
 ·rw[ep i]at g;refine⟨.lst b,_,U2++[d],_,Z<|.im<|ah d.1,Z<|.im<|ah d.2,Z<|.im<|ah<|o d.1,Z<|.im<|ah<|o d.2,(ee l).trans<|(pZ g).trans<|(ee (UE:=hR (.lst b) D (Vv.eraseIdx u.toNat) (U2++[d]) o (Z<|.im<|ah d.1) (Z<|.im<|ah d.2) A B) ?_).trans<|(ee (UE:=hR (.lst b) D (Vv.eraseIdx u.toNat) (U2++[d]) o (Z<|.im<|ah d.1) (Z<|.im<|ah d.2) (Z<|.im<|ah<|o d.1) (Z<|.im<|ah<|o d.2)) ?_).trans ?_,UD,Q.take c i,r⟩
  ·have S:U2.length<100000:=by omega
   rw[f];have m:hW (bf U2) [.im (aP d)]=Z (.im .a6,bf<|U2++[d]):=by
    have:hW (bf U2) [.im (aP d)]=Z (.im .a6,.lst<|U2.map aP++[aP d]):=u_ (by rw[bS];exact S);rw[this];simp
   exact ng (ly rfl rfl rfl rfl rfl m rfl)
  ·exact iY (mB (bV (aW<|dj v)<|bV (aW<|dj w) rfl) rfl (gT rfl) rfl) rfl
  ·refine (sg (FD UY.ai (by omega) (Lr (by omega))) (show 4<9 by decide)).trans rfl
def G0(UY:e7 D)(h:f9 (s+100) e):∃(Uu:ak) (F U2:List ba) (o:aD->aD),lA [e,a3 D]=Z (.im<|.tup<|F.map aP,[Uu,a3 D])/\f9 s Uu/\F.Perm U2/\hQ D U2 o/\(F.map aP).Pairwise (λg c=>a9 g c=aa)/\∀d,e9 D d->o d.1=o d.2:=by
 have aC:=UY.len;have bF:=r1 D D;let⟨@UJ,I,U5⟩:=MC UY;have w:kp D UJ [] (λc=>c):=⟨.nil,by rw[lF];exact U5.nodup_iff.mpr (tX UY.ai),by
  have:UJ.length=(D.flatMap<|fb D).length:=U5.length_eq;rw[sX];lia,λd u=>h9.mp<|U5.mem_iff.mp u,λd u=>.inl<|U5.mem_iff.mpr<|h9.mpr u⟩
 let⟨@q,rfl⟩:=h.lst;have J:q0 2 3 (aj (V<|bh 1 G.qU<|aj (ag 1) aA)<|aj (V<|eC aA) aA) [Z (.lst q),Z<|a3 D,Y,Y,Y,Y,Y,Y,Y]=Z (.aM,[Z (.lst q),Z<|a3 D,Z<|bf UJ,Z<|bf [],Y,Y,Y,Y,Y]):=by
  refine Jp (dF (cA<|gO rfl rfl rfl I) rfl) rfl (show 2<9 by decide) (show 3<9 by decide) rfl
 have L:de 1 [] (dD<|ag 1) (bb 0) d5 G.z8 [Z (.lst q),Z<|a3 D,Z<|bf UJ,Z<|bf [],Y,Y,Y,Y,Y]=Z (.lst<|D.map λc=>.tup [ah c,ah c],[Z (.lst q),Z<|a3 D,Z<|bf UJ,Z<|bf [],Y,Y,Y,Y,Y]):=by
  refine (nX (y:=D.map ah) (m:=Z (1,a3 D)) (UE:=[Z (.lst q),Z .dd,Z<|bf UJ,Z<|bf [],Y,Y,Y,Y,Y]) rfl (jr _ (λn=>.tup [ah n,ah n]) _ (λn bs=>?_) ⋯)).trans rfl;exact⟨[Z (.im<|ah n)],_,[Z (.im<|ah n)],rfl,rfl,rfl,rfl⟩
 have N:cj 4 (bR oC<|aj (V<|de 1 [] (dD<|ag 1) (bb 0) d5 G.z8) aA) [Z (.lst q),Z<|a3 D,Z<|bf UJ,Z<|bf [],Y,Y,Y,Y,Y]=Z (.aM,hR (.lst q) D UJ [] (λc=>c) Y Y Y Y):=
  (sg (FD (o:=λc=>c) UY.ai ⋯ L) (show 4<9 by decide)).trans rfl;let⟨@UO,O,⟨Uu,U2,o,f,j,l,@p,rfl,P,t⟩⟩:=yu (n:=Di) (c:=s6) (λE k=>∃e Vv U2 o f j l p,k=hR e D Vv U2 o f j l p/\f9 (s+Vv.length) e/\kp D Vv U2 o/\Vv.length<=E) (λk=>∃e U2 o f j l p,k=hR e D [] U2 o f j l p/\f9 s e/\kp D [] U2 o)
  (λE k Q=>by
   let⟨e,Vv,U2,o,f,j,l,@p,rfl,x,z,S⟩:=Q;cases Vv with
   |nil=>exact⟨aq,_,rfl,(λi=>by cases i),λ_=>⟨e,U2,o,f,j,l,p,rfl,x,z⟩⟩
   |cons r Vv=>
    refine⟨aa,hR e D (r::Vv) U2 o f j l p,?_,λ_=>?_,(λi=>by cases i)⟩
    ·have T:ab.cQ 8 ((r::Vv).map aP)=aa:=by
      have:∀M:List ba,ab.cQ 8 (M.map aP)=aa:=λM=>by
       induction M with
       |nil=>rfl
       |cons g M U=>rw[cK,ab.cQ,U];rfl
      exact this _
     have al:eV (bf (r::Vv)) (.lst [])=Z (.im<|.aC aa):=by
      have am:eP ((r::Vv).map aP) []=aq:=rfl;simp only[eV,T,am];rfl
     show (((eV (bf (r::Vv))<|.lst []).map λv=>(v,hR e D (r::Vv) U2 o f j l p)).bind λo=>(l0 o.1).map λc=>(c,o.2))=_;rw[al];rfl
    ·let⟨Uu,C,an,ap,fZ,as,a1,@a2,d,P,t,M⟩:=Rd (s:=s+Vv.length) (Vq:=f) (a:=j) (A:=l) (B:=p) UY x z ↥0;rw[dT]at M S;exact⟨.aM,_,d,.inl rfl,C.length,⋯,Uu,C,an,ap,fZ,as,a1,a2,rfl,P.mono ⋯,t,bT _⟩) 1000000 UJ.length _ ⟨.lst q,UJ,[],_,Y,Y,Y,Y,rfl,h.mono (by have:=w.len;simp at this;lia),w,bT _⟩ (by have:=w.len;simp at this;lia)
 have H:=t.ai;have bd:=t.len;rw[b_]at H;rw[sX]at bd;let⟨@F,be,bi,bm⟩:=Fe (k:=hR Uu D [] U2 o f j l p) (b:=3) H ⋯ rfl;refine⟨Uu,F,U2,o,?_,P,be,t.gR,bm,λd u=>(t.xW d u).resolve_left ↥0⟩;let⟨@bn,rfl⟩:=P.lst;unfold lA GF;exact h_ (hR (.lst bn) D [] U2 o f j l p) rfl ((ee J).trans<|(ee N).trans<|(ee O).trans<|d_<|sS bi) rfl
def o1(Uy:dM)(b w N U_ a c:Int):Prop:=(∃g f l,vQ Uy.cz Uy.gB [.int b,.int w]=Z g/\j3 Uy.kt g 0=Z (.fn f)/\j3 Uy.kt g 1=Z (.fn l)/\j3 Uy.kt f 0=Z (.int N)/\j3 Uy.kt f 1=Z (.int U_)/\j3 Uy.kt l 0=Z (.int a)/\j3 Uy.kt l 1=Z (.int c))
structure l3(Uy:dM):Prop where
 iN:o1 Uy 0 0 (-1) 0 0 1
 dC:o1 Uy 0 1 0 1 1 0
 dc:o1 Uy 1 1 1 0 0 (-1)
 fo:o1 Uy 1 0 0 (-1) (-1) 0
def yz{Uy:dM}{f:ae}(Vx:j3 Uy.kt f 0=Z (.int N))(t:j3 Uy.kt f 1=Z (.int U_))(e:0<=E)(g:E<10):lE Uy [.im (ah n),.im<|.fn f,aI E]=Z (.im<|ah (n.1+N*E,n.2+U_*E),[.im (ah n),.im<|.fn f,aI E]):=by
 have a:gx N E=aa:=mr ⋯ ⋯;have U3:gx U_ E=aa:=mr ⋯ ⋯;have b:d9 Uy.kt Uy.cz (.im<|ah n) (aI 0)=Z (aI n.1):=rfl;have c:d9 Uy.kt Uy.cz (.im<|ah n) (aI 1)=Z (aI n.2):=rfl;have VK:d9 Uy.kt Uy.cz (.im<|.fn f) (aI 0)=Z (aI N):=congrArg (Option.map ak.im) Vx;have d:d9 Uy.kt Uy.cz (.im<|.fn f) (aI 1)=Z (aI U_):=congrArg (Option.map ak.im) t;unfold lE Io;exact h_ [Z (.im<|ah n),Z<|.im<|.fn f,Z<|aI E] rfl (d_<|mB (bV (aW<|bY (aW<|dj b) (aW<|bY (aW<|dj VK) rfl rfl rfl<|iK a) rfl rfl rfl)<|bV (aW<|bY (aW<|dj c) (aW<|bY (aW<|dj d) rfl rfl rfl<|iK U3) rfl rfl rfl) rfl) rfl (gT rfl) rfl) rfl
def Hi(b:ar[0]?=Z m):n5 [aL ar,.im<|ah n]=Z (.im<|ah<|aC m n,[aL ar,.im<|ah n]):=by
 have I:eH (ar.map ah) 0=Z (ah m):=qs ∅ ⇑b;have VG:a4 (.im<|ah n) (aI 0)=Z (aI n.1):=rfl;have a:a4 (.im<|ah n) (aI 1)=Z (aI n.2):=rfl;have S:a4 (.im<|ah m) (aI 0)=Z (aI m.1):=rfl;have aR:a4 (.im<|ah m) (aI 1)=Z (aI m.2):=rfl;have Va:a4 (aL ar) (aI 0)=Z (.im<|ah m):=by
  show (eH (ar.map ah) 0).map ak.im=_;rw[I];rfl
 unfold n5 CS;exact h_ [Z (aL ar),Z<|.im<|ah n] rfl (d_ (mB (bV (aW (bY (aW<|dj VG) (aW (bY (aW<|bY (aW<|dj VG) (aW<|bY (aW<|dj Va) rfl rfl rfl S) rfl rfl rfl) rfl rfl rfl (l4 ∅))) rfl rfl rfl)) (bV (aW (bY (aW<|dj a) (aW (bY (aW<|bY (aW<|dj a) (aW<|bY (aW<|dj Va) rfl rfl rfl aR) rfl rfl rfl) rfl rfl rfl (l4 ∅))) rfl rfl rfl)) rfl)) rfl (gT rfl) rfl)) rfl
def Df(d:ba):ab.bF 8 (aP d)=aa:=rfl
theorem Ia:∀UJ:List ba,ab.cQ 8 (UJ.map aP)=aa
 |[]=>rfl
 |o::r=>by rw[cK,ab.cQ,Df,Ia r];rfl
def xl(g c:ba):cu (aP g) (aP c)=decide (g=c):=by
 show (cu (ah g.1) (ah c.1)&&(cu (ah g.2) (ah c.2)&&aa))=_;rw[mI,mI];let⟨a,b⟩:=g;let⟨aR,aX⟩:=c;by_cases t:a=aR<;>by_cases z:b=aX<;>simp[t,z]
def Q1(UJ:List ba)(d:ba):ho (aP d) (.im<|.tup<|UJ.map aP)=Z (decide (d∈UJ)):=by
 rw[TA,Df,Ia,ye];show (if (aa&&aa)=aa then _ else _)=_;rw[aJ (show (aa&&aa)=aa from rfl)];congr 1;rw[ll,oO,hA];constructor
 ·rintro⟨f,a,e⟩;have:decide (f=d)=aa:=by rw[<-xl];exact e
  rw[<-eR this];exact a
 ·intro e;refine⟨d,e,?_⟩;show cu (aP d) (aP d)=aa;rw[xl];exact df rfl
def k1(F:List ba):Prop:=(∀d∈F,d.1.1<d.2.1\/(d.1.1=d.2.1/\d.1.2<d.2.2))
def k1.of(e:∀d∈F,e9 D d):k1 F:=λd a=>by
 have:=(e d a).2.2;rcases this with e|e
 ·rw[e];exact .inr ⟨rfl,by show d.1.2<d.1.2+2;lia⟩
 ·rw[e];exact .inl (by show d.1.1<d.1.1+2;lia)
def Rt(a:k1 F)(g c:aD):decide (iL g c∈F)=eE F g c:=by
 unfold eE;rw[ll,hA,hA];by_cases t:a9 (ah g) (ah c)=aa
 ·have b:=nk.mp t;have z:¬ a9 (ah c) (ah g)=aa:=λi=>by have:=nk.mp i;lia
  have d:iL g c=(g,c):=by unfold iL;rw[aJ t,aO z]
  rw[d];constructor
  ·exact .inl
  ·rintro (e|e)
   ·exact e
   ·have:=a _ e;simp only at this;lia
 ·by_cases z:a9 (ah c) (ah g)=aa
  ·have f:=nk.mp z;have d:iL g c=(c,g):=by unfold iL;rw[aO t,aJ z]
   rw[d];constructor
   ·exact .inr
   ·rintro (e|e)
    ·have:=a _ e;simp only at this;lia
    ·exact e
  ·have b:=λi=>t (nk.mpr i);have f:=λi=>z (nk.mpr i);have d:g=c:=eD ⋯ ⋯;subst d;have d:iL g g=(g,g):=by unfold iL;rw[aO t]
   rw[d];exact⟨.inl,λe=>e.elim id id⟩
def I3{Uy:dM}{b w d e:Int}(q:o1 Uy b w N U_ d e)(s:ar[0]?=Z m)(u:aC m n=c)(t:n.1-c.1=b)(z:n.2-c.2=w)(x:k1 F):
  kT Uy [aL ar,.im<|.tup<|F.map aP,.im<|ah n]=Z (.im<|ah<|if eE F c (c.1+N*2,c.2+U_*2)=aa then (n.1+N*1,n.2+U_*1) else (n.1+d*1,n.2+e*1),[aL ar,.im<|.tup<|F.map aP,.im<|ah n]):=by
 let⟨g,f,@l,iN,dC,dc,fo,h,y,A⟩:=q;have j:=Hi (n:=n) s;rw[u]at j;have B:=yz (n:=c) (E:=2) fo h ∅ ∅;have C:=yz (n:=n) (E:=1) fo h ∅ ∅;have D:=yz (n:=n) (E:=1) y A ∅ ∅;have VG:d9 Uy.kt Uy.cz (.im<|ah n) (aI 0)=Z (aI n.1):=rfl;have H:d9 Uy.kt Uy.cz (.im<|ah n) (aI 1)=Z (aI n.2):=rfl;have S:d9 Uy.kt Uy.cz (.im<|ah c) (aI 0)=Z (aI c.1):=rfl;have aR:d9 Uy.kt Uy.cz (.im<|ah c) (aI 1)=Z (aI c.2):=rfl;have a8:d9 Uy.kt Uy.cz (.im<|.fn Uy.gB) (.im<|.tup [.int b,.int w])=Z (.im<|.fn g):=by
  show (if ab.keys 7 [.int b,.int w]=aa then (vQ Uy.cz Uy.gB [.int b,.int w]).map λv=>ak.im (.fn v) else Y)=_;rw[aJ (show ab.keys 7 [.int b,.int w]=aa from rfl),iN];rfl
 have o:d9 Uy.kt Uy.cz (.im<|.fn g) (aI 0)=Z (.im<|.fn f):=by
  show (j3 Uy.kt g 0).map ak.im=_;rw[dC];rfl
 have I:d9 Uy.kt Uy.cz (.im<|.fn g) (aI 1)=Z (.im<|.fn l):=by
  show (j3 Uy.kt g 1).map ak.im=_;rw[dc];rfl
 have le:=Rn c (c.1+N*2,c.2+U_*2);have p:=Q1 F (iL c (c.1+N*2,c.2+U_*2));rw[Rt x]at p;have J:ie (.im<|.tup<|ig<|iL c (c.1+N*2,c.2+U_*2)) (.im<|.tup<|F.map aP)=Z (.im<|.aC<|eE F c (c.1+N*2,c.2+U_*2)):=by
  show (ho (aP<|iL c (c.1+N*2,c.2+U_*2))<|.im<|.tup<|F.map aP).map (λr=>ak.im<|.aC r)=_;rw[p];rfl
 unfold kT HR;obtain⟨k,a⟩:∃k:a0,k=[Z (aL ar),Z<|.im<|.tup<|F.map aP,Z<|.im<|ah n,Z<|.im<|ah c,Z<|.im<|.fn g]:=⟨_,rfl⟩;have L:cj 3 (bh 2 G.n5<|aj (ag 0)<|aj (ag 2) aA) [Z (aL ar),Z<|.im<|.tup<|F.map aP,Z<|.im<|ah n,Y,Y]=Z (.aM,[Z (aL ar),Z<|.im<|.tup<|F.map aP,Z<|.im<|ah n,Z<|.im<|ah c,Y]):=by
  exact i8 (gO rfl rfl rfl j) (show 3<5 by decide) rfl
 have M:cj 4 (aw (d9 Uy.kt Uy.cz) (V<|au<|.fn Uy.gB)<|V<|cY<|aj (V<|aw iy (V<|aw (d9 Uy.kt Uy.cz) (ag 2)<|V<|au<|.int 0)<|V<|aw (d9 Uy.kt Uy.cz) (ag 3)<|V<|au<|.int 0)<|aj (V<|aw iy (V<|aw (d9 Uy.kt Uy.cz) (ag 2)<|V<|au<|.int 1)<|V<|aw (d9 Uy.kt Uy.cz) (ag 3)<|V<|au<|.int 1) aA) [Z (aL ar),Z<|.im<|.tup<|F.map aP,Z<|.im<|ah n,Z<|.im<|ah c,Y]=Z (.aM,k):=by
  rw[a];subst t;subst z;exact kL (bY rfl (aW<|mB (bV (aW<|bY (aW<|dj VG) (aW<|dj S) rfl rfl rfl)<|bV (aW<|bY (aW<|dj H) (aW<|dj aR) rfl rfl rfl) rfl) rfl (gT rfl) rfl) rfl rfl a8) (show 4<5 by decide) rfl
 have U3:bx (aw ie (V<|bh 2 G.sF<|aj (ag 3)<|aj (V<|bh 3 (G.lE Uy)<|aj (ag 3)<|aj (V<|aw (d9 Uy.kt Uy.cz) (ag 4)<|V<|au<|.int 0)<|aj (V<|au<|.int 2) aA) aA)<|ag 1) k=Z (eE F c (c.1+N*2,c.2+U_*2),k):=by
  rw[a];exact mV (dX (cA<|gO (dF rfl<|dF (cA<|gO (dF rfl<|dF (cA<|dX rfl rfl rfl rfl o) rfl) rfl rfl B) rfl) rfl rfl le) rfl rfl rfl J)
 have O:cy (bh 3 (G.lE Uy)<|aj (ag 2)<|aj (V<|aw (d9 Uy.kt Uy.cz) (ag 4)<|V<|au<|.int 0)<|aj (V<|au<|.int 1) aA) k=Z (.dR<|.im<|ah (n.1+N*1,n.2+U_*1),k):=by
  rw[a];exact d_ (c0 (bV rfl<|bV (aW<|dj o) rfl) rfl rfl C rfl)
 have P:cy (bh 3 (G.lE Uy)<|aj (ag 2)<|aj (V<|aw (d9 Uy.kt Uy.cz) (ag 4)<|V<|au<|.int 1)<|aj (V<|au<|.int 1) aA) k=Z (.dR<|.im<|ah (n.1+d*1,n.2+e*1),k):=by
  rw[a];exact d_ (c0 (bV rfl<|bV (aW<|dj I) rfl) rfl rfl D rfl)
 refine h_ k rfl ((ee L).trans<|(ee M).trans ?_) (by rw[a];rfl);by_cases i:eE F c (c.1+N*2,c.2+U_*2)=aa
 ·rw[aJ i];rw[i]at U3;exact rl ((pZ U3).trans O)
 ·rw[aO i];rw[Bool.not_eq_true]at i;rw[i]at U3;exact (ee<|pW U3).trans P
def X(c:aD):Nat->aD
 |0=>(c.1-1,c.2)
 |1=>(c.1,c.2+1)
 |2=>(c.1+1,c.2)
 |_=>(c.1,c.2-1)
def Cs(F:List ba)(c:aD){q:Nat}(a:q<4):gd (aM F (c,q))=if eE F c (dG c q)=aa then X (bM c q) q else bM c ((q+1)%4):=by
 unfold aM;dsimp only;split
 ·match q,a with
  |0,_=>simp[gd,bM,dG,X];lia
  |1,_=>simp[gd,bM,dG,X];lia
  |2,_=>simp[gd,bM,dG,X];lia
  |3,_=>simp[gd,bM,dG,X];lia
 ·rfl
def AY{Uy:dM}(d:l3 Uy){D ar:List aD}{F:List ba}{c m:aD}{q:Nat}(UY:e7 D)(g:ar[0]?=Z m)(h:m∈D)(i:c∈D)(e:q<4)(j:k1 F):
  kT Uy [aL ar,.im<|.tup<|F.map aP,.im<|ah<|bM c q]=Z (.im<|ah<|gd<|aM F (c,q),[aL ar,.im<|.tup<|F.map aP,.im<|ah<|bM c q]):=by
 have f:=UY.par c i m h;have k:=(JQ f.1 f.2 e).1;rw[Cs F c e];have fin:∀{N U_ a b:Int},o1 Uy ((bM c q).1-c.1) ((bM c q).2-c.2) N U_ a b->(c.1+N*2,c.2+U_*2)=dG c q->((bM c q).1+N*1,(bM c q).2+U_*1)=X (bM c q) q->((bM c q).1+a*1,(bM c q).2+b*1)=bM c ((q+1)%4)->
   kT Uy [aL ar,.im<|.tup<|F.map aP,.im<|ah<|bM c q]=Z (.im<|ah<|if eE F c (dG c q)=aa then X (bM c q) q else bM c ((q+1)%4),[aL ar,.im<|.tup<|F.map aP,.im<|ah<|bM c q]):=λC l n o=>by
  rw[I3 C g k rfl rfl j,l,n,o]
 match q,e with
 |0,_=>
  refine fin (N := -1) (U_:=0) (a:=0) (b:=1) ?_ (eD ?_ ?_) (eD ?_ ?_) (eD ?_ ?_)
  ·rw[show (bM c 0).1-c.1=0 by simp[bM],show (bM c 0).2-c.2=0 by simp[bM]];exact d.iN
  all_goals (simp[bM,dG,X];try lia)
 |1,_=>
  refine fin (N:=0) (U_:=1) (a:=1) (b:=0) ?_ (eD ?_ ?_) (eD ?_ ?_) (eD ?_ ?_)
  ·rw[show (bM c 1).1-c.1=0 by simp[bM],show (bM c 1).2-c.2=1 by simp[bM];lia];exact d.dC
  all_goals (simp[bM,dG,X])
 |2,_=>
  refine fin (N:=1) (U_:=0) (a:=0) (b := -1) ?_ (eD ?_ ?_) (eD ?_ ?_) (eD ?_ ?_)
  ·rw[show (bM c 2).1-c.1=1 by simp[bM];lia,show (bM c 2).2-c.2=1 by simp[bM];lia];exact d.dc
  all_goals (simp[bM,dG,X];try lia)
 |3,_=>
  refine fin (N:=0) (U_ := -1) (a := -1) (b:=0) ?_ (eD ?_ ?_) (eD ?_ ?_) (eD ?_ ?_)
  ·rw[show (bM c 3).1-c.1=1 by simp[bM];lia,show (bM c 3).2-c.2=0 by simp[bM]];exact d.fo
  all_goals (simp[bM,dG,X];try lia)
def uO(UY:e7 D)(U5:ar.Perm (cells D))(Vv:jd ar):∃m,ar[0]?=Z m/\m∈D:=by
 cases ar with
 |nil=>
  have t:=U5.length_eq;rw[r7]at t;have:=nM.mpr UY.ne;simp at t;lia
 |cons m r=>
  refine⟨m,rfl,?_⟩;let⟨@c,a,⟨@q,b,d⟩⟩:=GX.mp (U5.mem_iff.mp<|.head _);have e:c∈m::r:=U5.mem_iff.mpr (GX.mpr ⟨c,a,0,by decide,rfl⟩);by_cases i:c=m
  ·rw[<-i];exact a
  ·have f:c∈r:=(bI.mp e).resolve_left i;unfold jd at Vv;rw[cK,hb]at Vv;have lt:=nk.mp (Vv.1 _<|zL f);have L:=vS.mp (wh c b);rw[<-d]at L;lia
def Kr:eV (a3 ar) (a3 ar)=Z (.im<|.aC aq):=by
 have a:=t5 ar;have b:eP (ar.map ah) (ar.map ah)=aa:=by
  induction ar with
  |nil=>rfl
  |cons g r c=>
   show (cu (ah g) (ah g)&&eP (r.map ah) (r.map ah))=aa;rw[mI,c<|t5 r];simp
 simp only[eV,a,b];rfl
end G
namespace G
section
variable{U1:Type}[DecidableEq U1]
theorem w4:∀{M E:List U1},M.Nodup->(∀f∈M,f∈E)->M.length<=E.length
 |[],E,_,_=>lB _
 |f::M,E,ai,j=>by
  have b:=j f (.head _);let@⟨c,e⟩:=iI.mp ai;have o:=Cp b;have:=w4 e (E:=E.erase f) λl a=>(zQ (λd=>c (by rw[<-d];exact a))).mpr (j l<|.tail _ a);have p:=o.length_eq;rw[dT]at p ⊢;lia
def ct(L:U1->U1)(j:U1):Nat->U1
 |0=>j
 |s+1=>L (ct L j s)
theorem xo(L:U1->U1)(j:U1)(E:Nat):∀s,ct L j (E+s)=ct L (ct L j E) s
 |0=>rfl
 |s+1=>congrArg L (xo L j E s)
structure jy(L:U1->U1)(a:List U1):Prop where
 l9:∀f∈a,L f∈a
 inj:∀f∈a,∀l∈a,L f=L l->f=l
variable{L J:U1->U1}{a:List U1}
theorem jy.ct(UB:jy L a){f:U1}(e:f∈a):∀s,ct L f s∈a
 |0=>e
 |s+1=>UB.l9 _ (UB.ct e s)
theorem jy.back(UB:jy L a){f:U1}(e:f∈a):∀{b v:Nat},G.ct L f (b+v)=G.ct L f b->G.ct L f v=f
 |0,v,d=>by rw[AK]at d;exact d
 |b+1,v,d=>by
  rw[show b+1+v=(b+v)+1 by lia]at d;exact UB.back e (UB.inj _ (UB.ct e _) _ (UB.ct e _) d)
def Ez(UB:jy L a){f:U1}(e:f∈a)(UZ:Nat):(∃v,0<v/\v<UZ/\G.ct L f v=f)\/((range UZ).map<|G.ct L f).Nodup:=by
 by_cases i:∃v,0<v/\v<UZ/\G.ct L f v=f
 ·exact .inl i
 ·right;refine zz DY λb Uw w c d=>?_;have Uw:=ip.mp Uw;have c:=ip.mp c;rcases Ey b w with M|M|M
  ·exfalso;refine i ⟨w-b,⋯,⋯,UB.back e (b:=b) ?_⟩;rw[show b+(w-b)=w by lia];exact d.symm
  ·exact M
  ·exfalso;refine i ⟨b-w,⋯,⋯,UB.back e (b:=w) ?_⟩;rw[show w+(b-w)=b by lia];exact d
def HO(UB:jy L a){f:U1}(e:f∈a):∃s,G.ct L f (s+1)=f:=by
 rcases Ez UB e (a.length+1) with ⟨v,t,z,d⟩|ai
 ·exact⟨v-1,by rw[show v-1+1=v by lia];exact d⟩
 ·have:=w4 ai (E:=a) λl c=>by
   let⟨@b,W,rfl⟩:=ew.mp c;exact UB.ct e b
  rw[bS,i0]at this;lia
inductive dZ (L:U1->U1) (a:List U1):U1->U1->Prop where
 | step {f:U1}:f∈a->dZ L a f (L f)
 | refl {f:U1}:dZ L a f f
 | symm {f l:U1}:dZ L a f l->dZ L a l f
 | trans {f l i:U1}:dZ L a f l->dZ L a l i->dZ L a f i
def dZ.La(UB:jy L a){m:U1}(h:m∈a){g c:U1}(e:dZ L a g c):(∃s,G.ct L m s=g)↔∃s,G.ct L m s=c:=by
 induction e with
 |@step f i=>
  constructor
  ·rintro⟨s,d⟩;exact⟨s+1,congrArg L d⟩
  ·rintro⟨s,d⟩;cases s with
   |succ q=>exact⟨q,UB.inj _ (UB.ct h q) _ i d⟩
   |zero=>
    let⟨@E,j⟩:=HO UB h;exact⟨E,UB.inj _ (UB.ct h E) _ i<|j.trans d⟩
 |refl=>exact Iff.rfl
 |symm _ k=>exact k.symm
 |trans _ _ b w=>exact b.trans w
def IL(UB:jy L a){f l:U1}(h:f∈a)(r:l∈a)(t:J f=L l)(u:J l=L f)(VV:∀n∈a,n≠f->n≠l->J n=L n)(v:∀s,G.ct L f s≠l):
  (∀g c,dZ L a g c->dZ J a g c)/\dZ J a f l:=by
 have x:∀s,dZ J a (L f) (G.ct L f<|s+1)\/dZ J a (L f) f:=λs=>by
  induction s with
  |zero=>exact .inl .refl
  |succ s k=>
   rcases k with e|e
   ·by_cases i:G.ct L f (s+1)=f
    ·rw[i]at e;exact .inr e
    ·left;have j:dZ J a (G.ct L f<|s+1) (J<|G.ct L f<|s+1):=.step (UB.ct h _);rw[VV _ (UB.ct h _) i (v _)]at j;exact e.trans j
   ·exact .inr e
 have Vm:dZ J a (L f) f:=by
  let⟨@s,d⟩:=HO UB h;rcases x s with e|e
  ·rw[d]at e;exact e
  ·exact e
 have m:dZ J a l f:=by
  have j:dZ J a l (J l):=.step r;rw[u]at j;exact j.trans Vm
 have y:dZ J a f (L l):=by
  have j:dZ J a f (J f):=.step h;rw[t]at j;exact j
 refine⟨λg c e=>?_,m.symm⟩;induction e with
 |@step n o=>
  by_cases p:n=f
  ·rw[p];exact Vm.symm
  ·by_cases q:n=l
   ·rw[q];exact m.trans y
   ·have j:dZ J a n (J n):=.step o;rw[VV n o p q]at j;exact j
 |refl=>exact .refl
 |symm _ k=>exact k.symm
 |trans _ _ b w=>exact b.trans w
def SQ(UB:jy L a)(ai:a.Nodup){m:U1}(e:m∈a)(all:∀f∈a,dZ L a m f):((range a.length).map<|G.ct L m).Perm a/\G.ct L m a.length=m:=by
 have reach:∀f∈a,∃s,G.ct L m s=f:=λf g=>((all f g).La UB e).mp ⟨0,rfl⟩;have h:¬ ∃v,0<v/\v<a.length/\G.ct L m v=m:=by
  rintro⟨v,t,z,d⟩;have mul:∀p,G.ct L m (v*p)=m:=λp=>by
   induction p with
   |zero=>rfl
   |succ p j=>rw[Nat.mul_succ,tf,xo,d,j]
  have:=w4 ai (E:=(range v).map (G.ct L m)) λf g=>by
   let⟨@s,rfl⟩:=reach f g;refine ew.mpr ⟨s%v,ip.mpr<|Bg _ t,?_⟩
   conv=>rhs;rw[<-Nat.div_add_mod s v,xo,mul]
  rw[bS,i0]at this;lia
 have k:((range a.length).map<|G.ct L m).Nodup:=(Ez UB e a.length).resolve_left h;have U5:=Hf k (E:=a) (λl n=>by
  let⟨@b,W,rfl⟩:=ew.mp n;exact UB.ct e b) (by rw[bS,i0];exact bT _)
 refine⟨U5,?_⟩;let⟨@b,Uw,d⟩:=ew.mp (U5.mem_iff.mpr<|UB.ct e a.length);have Uw:=ip.mp Uw;have c:=UB.back e (b:=b) (v:=a.length-b) (by rw[show b+(a.length-b)=a.length by lia];exact d.symm);by_cases i:b=0
 ·subst i;rw[x6]at c;exact c
 ·exact absurd ⟨a.length-b,⋯,⋯,c⟩ h
end
variable{o:aD->aD}{U2 F:List ba}{D:List aD}
def c4(D:List aD):List (aD×Nat):=(D.flatMap λc=>[(c,0),(c,1),(c,2),(c,3)])
def fA{j:aD×Nat}:j∈c4 D↔j.1∈D/\j.2<4:=by
 unfold c4;rw[mm];constructor
 ·rintro⟨c,a,e⟩;simp only[bI,hs,e_]at e;rcases e with e|e|e|e<;>subst e<;>exact⟨a,by simp⟩
 ·rintro⟨t,z⟩;refine⟨j.1,t,?_⟩;let⟨c,q⟩:=j;simp only[bI,hs,e_,ox,true_and];simp only at z;lia
theorem EE:∀D:List aD,(c4 D).length=4*D.length
 |[]=>rfl
 |c::D=>by
  have:=EE D;unfold c4 at *;rw[mM,d7,this];simp;lia
def Oc(ai:D.Nodup):(c4 D).Nodup:=s_ ai (λc W=>by simp) λg W c W f t z=>by
 simp only[bI,hs,e_]at t z;have a:f.1=g:=by rcases t with e|e|e|e<;>rw[e]
 have b:f.1=c:=by rcases z with e|e|e|e<;>rw[e]
 exact a.symm.trans b
theorem o3(b:∀d∈F,e9 D d):jy (aM F) (c4 D) where
 l9:=λj UH=>by
  have e:=fA.mp UH;exact fA.mpr ⟨Kz b e.1 j.2,Ql F j⟩
 inj:=λf c l g d=>by
  have t:=(fA.mp c).2;have z:=(fA.mp g).2;have a:=DL F f.1 t;have Vj:=DL F l.1 z;rw[show ((f.1,f.2):aD×Nat)=f from rfl]at a;rw[show ((l.1,l.2):aD×Nat)=l from rfl]at Vj;rw[<-a,d,Vj]
def Ay{c:aD}{q w:Nat}(a:q<4)(b:w<4)(e:dG c q=dG c w):q=w:=by
 let⟨f,l⟩:=c
 match q,a,w,b with
 |0,_,0,_=>rfl
 |1,_,1,_=>rfl
 |2,_,2,_=>rfl
 |3,_,3,_=>rfl
 |0,_,1,_|0,_,2,_|0,_,3,_|1,_,0,_|1,_,2,_|1,_,3,_|2,_,0,_|2,_,1,_|2,_,3,_|3,_,0,_|3,_,1,_|3,_,2,_=>
  simp only[dG,ox]at e;lia
def x9(F:List ba)(d:ba)(g c:aD):eE (F++[d]) g c=(eE F g c || decide ((g,c)=d\/(c,g)=d)):=by
 unfold eE;rw[ll,wH,hA,hA,hA,dv,dv,cD,cD];constructor
 ·rintro ((e|e)|(e|e))
  ·exact .inl (.inl e)
  ·exact .inr (.inl e)
  ·exact .inl (.inr e)
  ·exact .inr (.inr e)
 ·rintro ((e|e)|(e|e))
  ·exact .inl (.inl e)
  ·exact .inr (.inl e)
  ·exact .inl (.inr e)
  ·exact .inr (.inr e)
structure Oh(D:List aD)(U2:List ba)(o:aD->aD):Prop where
 fs:∀j∈c4 D,o (aM U2 j).1=o j.1
 link:∀g∈c4 D,∀c∈c4 D,o g.1=o c.1->dZ (aM U2) (c4 D) g c
 eJ:∀d∈U2,o d.1=o d.2
def TB(q:hQ D U2 o):Oh D U2 o:=by
 induction q with
 |nil=>
  have VM:∀c q,aM [] (c,q)=(c,(q+1)%4):=λc q=>by
   unfold aM eE;simp
  refine⟨λj W=>by rw[show j=(j.1,j.2) from rfl,VM],λg k c u d=>?_,(λ_ e=>by cases e)⟩;have d:g.1=c.1:=d;let⟨f,b⟩:=g;let⟨l,w⟩:=c;have d:f=l:=d;subst d;have m:=(fA.mp k).1;have X:∀q,q<4->dZ (aM []) (c4 D) (f,q) (f,(q+1)%4):=λq r=>by
   have:=dZ.step (L:=aM []) (a:=c4 D) (f:=(f,q)) (fA.mpr ⟨m,r⟩);rw[VM]at this;exact this
  have i:∀q,q<4->dZ (aM []) (c4 D) (f,0) (f,q):=λq r=>by
   match q,r with
   |0,_=>exact .refl
   |1,_=>exact X 0 ∅
   |2,_=>exact (X 0 ∅).trans (X 1 ∅)
   |3,_=>exact ((X 0 ∅).trans (X 1 ∅)).trans (X 2 ∅)
  exact (i b (fA.mp k).2).symm.trans (i w (fA.mp u).2)
 |@add U2 o d q A v h=>
  let⟨aR,aX⟩:=d;let@⟨t,z,U⟩:=A;have t:aR∈D:=t;have z:aX∈D:=z;have v:o aR≠o aX:=v;obtain⟨U3,U9,J,M,U0,B,al,am⟩:∃U3 U9,U3<4/\U9<4/\dG aR U3=aX/\dG aX U9=aR/\(U3+3)%4=(U9+1)%4/\(U9+3)%4=(U3+1)%4:=by
   rcases U with e|e
   ·have e:aX=(aR.1,aR.2+2):=e;refine⟨1,3,by decide,by decide,e.symm,?_,by decide,by decide⟩;rw[e];exact eD rfl (by show aR.2+2-2=aR.2;lia)
   ·have e:aX=(aR.1+2,aR.2):=e;refine⟨2,0,by decide,by decide,e.symm,?_,by decide,by decide⟩;rw[e];exact eD (by show aR.1+2-2=aR.1;lia) rfl
  have UB:jy (aM U2) (c4 D):=o3 q.wJ;have m:(aR,U3)∈c4 D:=fA.mpr ⟨t,J⟩;have E:(aX,U9)∈c4 D:=fA.mpr ⟨z,M⟩;have N:eE U2 aR aX=aq:=by
   unfold eE;refine ep ?_;rintro (e|e)
   ·exact v (h.eJ _ e)
   ·exact v (h.eJ _ e).symm
  have an:eE U2 aX aR=aq:=by rw[AH];exact N
  have Vm:aM U2 (aR,U3)=(aR,(U3+1)%4):=by unfold aM;dsimp only;rw[U0,N];rfl
  have O:aM U2 (aX,U9)=(aX,(U9+1)%4):=by unfold aM;dsimp only;rw[B,an];rfl
  have P:aM (U2++[(aR,aX)]) (aR,U3)=aM U2 (aX,U9):=by
   rw[O];unfold aM;dsimp only;rw[U0,x9,df<|.inl rfl,Gd,aJ rfl,al]
  have Q:aM (U2++[(aR,aX)]) (aX,U9)=aM U2 (aR,U3):=by
   rw[Vm];unfold aM;dsimp only;rw[B,x9,df<|.inr rfl,Gd,aJ rfl,am]
  have VV:∀n∈c4 D,n≠(aR,U3)->n≠(aX,U9)->aM (U2++[(aR,aX)]) n=aM U2 n:=λn ap as a1=>by
   let⟨c,q⟩:=n;have r:q<4:=(fA.mp ap).2;unfold aM;dsimp only;rw[x9,ep,Bool.or_false];rintro (e|e)
   ·injection e with F G;subst F;exact as (by rw[Ay r J (G.trans U0.symm)])
   ·injection e with F G;subst G;exact a1 (by rw[Ay r M (F.trans B.symm)])
  have fs:∀s,o (ct (aM U2) (aR,U3) s).1=o aR:=λs=>by
   induction s with
   |zero=>rfl
   |succ s b=>exact (h.fs _<|UB.ct m s).trans b
  let@⟨x,R⟩:=IL UB m E P Q VV λs d=>v (by rw[<-fs s,d]);have H:(if o aR=o aR then o aX else o aR)=o aX:=aJ rfl;have Vj:(if o aX=o aR then o aX else o aX)=o aX:=by split<;>rfl
  refine⟨λj UH=>?_,λg k c u p=>?_,λd A=>?_⟩
  ·show (if o (aM (U2++[(aR,aX)]) j).1=o aR then o aX else o (aM (U2++[(aR,aX)]) j).1)=(if o j.1=o aR then o aX else o j.1);by_cases S:j=(aR,U3)
   ·rw[S,P,O];exact Vj.trans H.symm
   ·by_cases T:j=(aX,U9)
    ·rw[T,Q,Vm];exact H.trans Vj.symm
    ·rw[VV j UH S T,h.fs j UH]
  ·have p:(if o g.1=o aR then o aX else o g.1)=(if o c.1=o aR then o aX else o c.1):=p;by_cases i:o g.1=o c.1
   ·exact x _ _ (h.link g k c u i)
   ·by_cases y:o g.1=o aR
    ·rw[aJ y,aO λC=>i<|y.trans C.symm]at p;exact ((x _ _<|h.link g k _ m y).trans R).trans (x _ _<|h.link _ E c u p)
    ·rw[aO y]at p;by_cases I:o c.1=o aR
     ·rw[aJ I]at p;exact ((x _ _<|h.link g k _ E p).trans R.symm).trans (x _ _<|h.link _ m c u I.symm)
     ·rw[aO I]at p;exact absurd p i
  ·show (if o d.1=o aR then o aX else o d.1)=(if o d.2=o aR then o aX else o d.2);rcases dv.mp A with e|e
   ·rw[h.eJ d e]
   ·rw[cD.mp e];exact H.trans Vj.symm
def K7(e:F.Perm U2)(g c:aD):eE F g c=eE U2 g c:=by
 unfold eE;rw[ll,hA,hA,e.mem_iff,e.mem_iff]
def JK(e:F.Perm U2):aM F=aM U2:=by
 funext j;unfold aM;rw[K7 e]
def zk{m:aD}(UY:e7 D)(U5:F.Perm U2)(gR:hQ D U2 o)(f:∀d,e9 D d->o d.1=o d.2)(a:m∈D):
  ((range<|4*D.length).map<|ct (aM F) (m,0)).Perm (c4 D)/\ct (aM F) (m,0) (4*D.length)=(m,0):=by
 have h:=TB gR;have UB:jy (aM F) (c4 D):=o3 λd i=>gR.wJ d (U5.mem_iff.mp i);rw[JK U5]at UB ⊢;have n:=UY.con o λg k c l e=>f (g,c) ⟨k,l,e⟩;have b:(m,0)∈c4 D:=fA.mpr ⟨a,by simp⟩;have:=SQ UB (Oc UY.ai) b λj UH=>h.link _ b j UH (n m a j.1 (fA.mp UH).1);rw[EE]at this;exact this
def Br:(c4 D).map gd=cells D:=by
 unfold c4 cells;induction D with
 |nil=>rfl
 |cons c D a=>rw[mM,mM,fz,a];rfl
end G
namespace G
open L2
variable{v n:aD}{p:aD->aD}{F:List ba}{D:List aD}{U1:Type}{Uy:dM}
def CT(Uy:dM):aE Bool:=((bx<|aw ny (V<|bR eo<|aj (ag 2) aA)<|V<|bR eo<|aj (ag 0) aA))
def Ga(Uy:dM):bt:=((jg<|gu iP 2 hW<|aj (V<|bh 3 (G.kT Uy)<|aj (ag 0)<|aj (ag 1)<|aj (V<|aw a4 (ag 2)<|V<|kV<|au<|.int 1) aA) aA))
def AQ(Uy:dM):bt:=((bL (cj 2<|eC<|aj (V<|aw a4 (ag 0)<|V<|au<|.int 0) aA)<|bL (jV (G.CT Uy) (G.Ga Uy) 1000000)<|cy<|bR jv<|aj (ag 2) aA))
def kF(Uy:dM):cP:=(c5 2 3 [0,1] (AQ Uy))
def cI(F:List ba)(m:aD)(s:Nat):List aD:=((range s).map λb=>gd (ct (aM F) (m,0) b))
def wL(F:List ba)(m:aD)(s:Nat):(cI F m s).length=s:=by unfold cI;rw[bS,i0]
def xd(F:List ba)(m:aD)(s:Nat):cI F m (s+1)=cI F m s++[gd (ct (aM F) (m,0) s)]:=by
 unfold cI;rw[qW,fz];rfl
def Of(F:List ba)(m:aD)(s:Nat):eH ((cI F m<|s+1).map ah) (-1)=Z (ah<|gd<|ct (aM F) (m,0) s):=by
 refine HK ?_;rw[xd];simp
def vn(p:l3 Uy){D ar:List aD}{F:List ba}{m:aD}(UY:e7 D)(f:ar[0]?=Z m)(g:m∈D)(q:k1 F)(r:∀d∈F,e9 D d)(t:ar.length=4*D.length):
  kF Uy [aL ar,.im<|.tup<|F.map aP]=Z (aL<|cI F m<|4*D.length,[aL ar,.im<|.tup<|F.map aP]):=by
 have aC:=UY.len;have A:=nM.mpr UY.ne;have UB:=o3 r;have u:(m,0)∈c4 D:=fA.mpr ⟨g,by simp⟩;obtain⟨a,h⟩:∃a:ab,a=.tup (F.map aP):=⟨_,rfl⟩;have v:a4 (aL ar) (aI 0)=Z (.im<|ah m):=by
  show (eH (ar.map ah) 0).map ak.im=_;rw[qs ∅ ⇑f];rfl
 have w:cj 2 (eC<|aj (V<|aw a4 (ag 0)<|V<|au<|.int 0) aA) [Z (aL ar),Z<|.im a,Y]=Z (.aM,[Z (aL ar),Z<|.im a,Z<|a3<|cI F m 1]):=by
  exact kL (CJ (bV (aW<|dj v) rfl) rfl (gT rfl) rfl) (show 2<3 by decide) rfl
 let⟨@UO,x,rfl⟩:=yu (n:=CT Uy) (c:=Ga Uy) (λE k=>∃s,k=[Z (aL ar),Z<|.im a,Z<|a3<|cI F m<|s+1]/\s+1+E=4*D.length) (λk=>k=[Z (aL ar),Z<|.im a,Z<|a3<|cI F m<|4*D.length])
  (λE k y=>by
   let⟨@s,rfl,j⟩:=y;refine⟨decide (s+1<4*D.length),[Z (aL ar),Z<|.im a,Z<|a3<|cI F m<|s+1],?_,λhd=>?_,λhd=>?_⟩
   ·have l:=wL F m (s+1);have o:=xP (cI F m<|s+1);have b:=rE ar;rw[l]at o;rw[t]at b;refine (d1<|bY (aW<|et rfl rfl o) (aW<|et rfl rfl b) rfl rfl rfl).trans ?_;rw[show decide (((s+1:Nat):Int)<((4*D.length:Nat):Int))=decide (s+1<4*D.length) by rw[ll,hA,hA];lia]
   ·have hd:=eR hd;have UH:=fA.mp (UB.ct u s);have i:a4 (a3<|cI F m<|s+1) (aI<|-1)=Z (.im<|ah<|bM (ct (aM F) (m,0) s).1 (ct (aM F) (m,0) s).2):=by
     show (eH ((cI F m<|s+1).map ah)<|-1).map ak.im=_;rw[Of];rfl
    have e:=AY p (F:=F) UY f g UH.1 UH.2 q;rw[<-h]at e;have l:=wL F m (s+1);have z:(cI F m<|s+1).length<100000:=⋯
    refine⟨.aM,[Z (aL ar),Z<|.im a,Z<|a3<|cI F m<|s+1+1],?_,.inl rfl,E-1,⋯,s+1,rfl,⋯⟩;have b:(cI F m<|s+1).map ah++[ah (gd<|aM F<|ct (aM F) (m,0) s)]=(cI F m<|s+1+1).map ah:=by
     rw[xd F m (s+1),fz];rfl
    rw[show (((ct (aM F) (m,0) s).1,(ct (aM F) (m,0) s).2):aD×Nat)=ct (aM F) (m,0) s from rfl]at e;have j:hW (a3<|cI F m<|s+1) [.im (ah<|gd<|aM F<|ct (aM F) (m,0) s)]=Z (.im .a6,a3<|cI F m<|s+1+1):=by
     rw[xd F m (s+1)];exact CQ z
    exact ng (ly rfl rfl (dF (cA<|gO (dF rfl<|dF rfl<|dF (cA<|dX rfl (cA<|G2 rfl) rfl rfl i) rfl) rfl rfl e) rfl) rfl rfl j (by rfl))
   ·have hd:=of_decide_eq_false hd;rw[show s+1=4*D.length by lia]) 1000000 (4*D.length-1) _ ⟨0,rfl,⋯⟩ ⋯
 rw[<-h];unfold kF AQ;exact h_ [Z (aL ar),Z<|.im a,Z<|a3<|cI F m<|4*D.length] rfl ((ee w).trans<|(ee x).trans<|d_ rfl) rfl
def fB(b:Int):Int:=(if b<0 then -b else b)
def qL(g c:aD):Prop:=(fB (g.1-c.1)+fB (g.2-c.2)=1)
def Mi(F:List ba){j:aD×Nat}(UH:j.2<4):qL (gd j) (gd<|aM F j):=by
 let⟨c,q⟩:=j;have UH:q<4:=UH;rw[Cs F c UH];unfold qL fB gd;split
 ·match q,UH with
  |0,_=>simp only[bM,X];split<;>split<;>lia
  |1,_=>simp only[bM,X];split<;>split<;>lia
  |2,_=>simp only[bM,X];split<;>split<;>lia
  |3,_=>simp only[bM,X];split<;>split<;>lia
 ·match q,UH with
  |0,_=>simp only[bM];split<;>split<;>lia
  |1,_=>simp only[bM];split<;>split<;>lia
  |2,_=>simp only[bM];split<;>split<;>lia
  |3,_=>simp only[bM];split<;>split<;>lia
def OY(J:Nat->U1)(s:Nat)(e:J (s+1)=J 0):((range<|s+1).map J).drop 1++((range<|s+1).map J).take 1=(range<|s+1).map λb=>J (b+1):=by
 have d:(range<|s+1).map J=J 0::(range s).map λb=>J (b+1):=by
  rw[qP,cK,gr];rfl
 rw[d,qW,fz,cK,z9,e];rfl
theorem wD{U1:Type}(g c:U1->ab):∀M:List U1,e3 (M.map g) (M.map c)=M.map λb=>.tup [g b,c b]
 |[]=>rfl
 |f::M=>by rw[cK,cK,e3,wD g c M];rfl
theorem A_(UP:List Int):∀w:Nat,preSum (λb=>(UP[b]?).getD 0) w=(UP.take w).sum
 |0=>rfl
 |w+1=>by
  rw[preSum,A_ UP w,List.take_add_one,List.sum_append];cases UP[w]? with
  |none=>rfl
  |some f=>show _+f=_+(f+0);lia
def LX(UP:List Int):uB UP=UP.sum:=by
 have:=A_ UP UP.length;rw[p9]at this;exact this
def zM:aE ak:=((cY<|aj (V<|aw iy (V<|aw a4 (ag 1)<|V<|au<|.int 0)<|V<|aw a4 (ag 0)<|V<|au<|.int 0)<|aj (V<|aw iy (V<|aw a4 (ag 1)<|V<|au<|.int 1)<|V<|aw a4 (ag 0)<|V<|au<|.int 1) aA))
def CP:aE ak:=((au<|.int 1))
def Cr:aE Bool:=((bx<|aw eV (ag 0)<|ag 1))
def Bl:bt:=((bL (cj 1<|de 2 [] (kE<|aj (ag 0)<|aj (V<|lW<|l_<|gj (ag 0) (ht<|au<|.int 1) gX) aA) (d6 2<|cc (bb 0)<|cc (bb 1) eb) d5 G.zM)<|cy<|bR vf<|aj (V<|de 2 [] (kE<|aj (ag 1)<|aj (V<|lW<|l_<|gj (ag 1) (ht<|au<|.int 1) gX) aA) (d6 2<|cc (bb 0)<|cc (bb 1) eb) G.Cr G.CP) aA))
def pK:cP:=(c5 1 2 [0] Bl)
def AV(Uy:dM):bt:=((bL (cj 2<|bh 2 (G.kF Uy)<|aj (ag 0)<|aj (ag 1) aA)<|cy<|bh 1 G.pK<|aj (V<|aw dg (ag 2)<|V<|gj (ag 2) gX<|ht<|au<|.int 2) aA))
def sI(Uy:dM):cP:=(c5 2 3 [0,1] (AV Uy))
def sp(n:Nat->aD)(b:Nat):aD:=(((n<|b+1).1-(n b).1,(n<|b+1).2-(n b).2))
def sW(n:Nat->aD)(E:Nat):Nat:=(((range E).filter λb=>!decide (sp n b=sp n (b+1))).length)
theorem BF:∀(y UL VJ:List ab),y.length=VJ.length->e3 (y++UL) VJ=e3 y VJ
 |[],UL,[],_=>by cases UL<;>rfl
 |f::y,UL,i::VJ,e=>by rw[sG,e3,e3,BF y UL VJ ⇑e]
 |[],_,_::_,e=>by simp at e
 |_::_,_,[],e=>by simp at e
def zU(J:Nat->ab)(s:Nat):e3 ((range<|s+1).map J) (((range<|s+1).map J).drop 1)=(range s).map λb=>.tup [J b,J<|b+1]:=by
 have a:(range<|s+1).map J=(range s).map J++[J s]:=by rw[qW,fz];rfl
 have c:((range<|s+1).map J).drop 1=(range s).map λb=>J (b+1):=by
  rw[qP,cK,gr];rfl
 rw[c,a,BF _ _ _ ↥0];exact wD _ _ _
abbrev cs(n:Nat->aD)(s:Nat):List aD:=(range s).map n
def tb(n:Nat->aD)(s:Nat):(cs n s).map ah=(range s).map λb=>ah (n b):=by rw[gr];rfl
def Ko(g c:aD):zM [Z (.im<|ah g),Z<|.im<|ah c]=Z (.im<|ah (c.1-g.1,c.2-g.2),[Z (.im<|ah g),Z<|.im<|ah c]):=by
 have VG:a4 (.im<|ah g) (aI 0)=Z (aI g.1):=rfl;have a:a4 (.im<|ah g) (aI 1)=Z (aI g.2):=rfl;have S:a4 (.im<|ah c) (aI 0)=Z (aI c.1):=rfl;have aR:a4 (.im<|ah c) (aI 1)=Z (aI c.2):=rfl;exact yq (dF (cA<|dX (cA<|dX rfl rfl rfl rfl S) (cA<|dX rfl rfl rfl rfl VG) rfl rfl rfl)<|dF (cA<|dX (cA<|dX rfl rfl rfl rfl aR) (cA<|dX rfl rfl rfl rfl a) rfl rfl rfl) rfl) rfl (gT rfl) rfl
theorem BO:∀M:List Nat,(M.map λ_=>(1:Int)).sum=(M.length:Int)
 |[]=>rfl
 |f::M=>by rw[cK,List.sum_cons,BO M,dT];lia
def G1(n:Nat->aD)(E:Nat)(e:E<=1000):pK [aL (cs n<|E+2)]=Z (aI<|sW n E,[aL (cs n<|E+2)]):=by
 have dC:de 2 [] (kE<|aj (ag 0)<|aj (V<|lW<|l_<|gj (ag 0) (ht<|au<|.int 1) gX) aA) (d6 2<|cc (bb 0)<|cc (bb 1) eb) d5 G.zM [Z (aL<|cs n<|E+2),Y]=Z (a3<|cs (sp n)<|E+1,[Z (aL<|cs n<|E+2),Y]):=by
  refine (nX (y:=(range<|E+1).map λb=>.tup [ah (n b),ah<|n<|b+1]) (m:=Y) (UE:=[Z (aL<|cs n<|E+2),Y]) ?_ (jr _ (λb=>ah<|sp n b) (range<|E+1) (λb W=>?_) (by rw[i0];lia))).trans ?_
  ·have i:=zU (λb=>ah<|n b) (E+1);rw[<-tb]at i;have a:fy ((cs n<|E+2).map ah) (Z 1) Y=((cs n<|E+2).map ah).drop 1:=oi _ 1;have c:i_ (aL<|cs n<|E+2) (Z 1) Y=Z (.im<|.tup<|((cs n<|E+2).map ah).drop 1):=by
    show Z (ak.im<|.tup<|fy ((cs n<|E+2).map ah) (Z 1) Y)=_;rw[a]
   rw[<-i];exact wQ (dF rfl<|dF (cA<|xx<|yF<|nI rfl rfl rfl rfl c) rfl) rfl rfl rfl rfl rfl
  ·exact⟨[Z (.im<|ah<|n b),Z<|.im<|ah<|n<|b+1],_,[Z (.im<|ah<|n b),Z<|.im<|ah<|n<|b+1],rfl,rfl,Ko _ _,rfl⟩
  ·show Z (ak.lst _,_)=Z (ak.lst<|(cs (sp n)<|E+1).map ah,_);rw[tb];rfl
 have dc:de 2 [] (kE<|aj (ag 1)<|aj (V<|lW<|l_<|gj (ag 1) (ht<|au<|.int 1) gX) aA) (d6 2<|cc (bb 0)<|cc (bb 1) eb) G.Cr G.CP [Z (aL<|cs n<|E+2),Z<|a3<|cs (sp n)<|E+1]=Z (.lst<|(((range E).filter λb=>!decide (sp n b=sp n (b+1))).map λ_=>(1:Int)).map .int,[Z (aL<|cs n<|E+2),Z<|a3<|cs (sp n)<|E+1]):=by
  refine (nX (y:=(range E).map λb=>.tup [ah (sp n b),ah<|sp n<|b+1]) (m:=Z (1,a3<|cs (sp n)<|E+1)) (UE:=[Z (aL<|cs n<|E+2),Z .dd]) ?_ (qy _ (λb=>!decide (sp n b=sp n (b+1))) (λ_=>.int 1) (range E) [] (λb W=>?_) (by simp;lia))).trans ?_
  ·have i:=zU (λb=>ah<|sp n b) E;rw[<-tb]at i;have a:fy ((cs (sp n)<|E+1).map ah) (Z 1) Y=((cs (sp n)<|E+1).map ah).drop 1:=oi _ 1;have c:i_ (a3<|cs (sp n)<|E+1) (Z 1) Y=Z (.lst<|((cs (sp n)<|E+1).map ah).drop 1):=by
    show Z (ak.lst<|fy ((cs (sp n)<|E+1).map ah) (Z 1) Y)=_;rw[a]
   rw[<-i];exact wQ (dF rfl<|dF (cA<|xx<|yF<|nI rfl rfl rfl rfl c) rfl) rfl rfl rfl rfl rfl
  ·have s:=si (sp n b) (sp n<|b+1);refine⟨[Z (.im<|ah<|sp n b),Z<|.im<|ah<|sp n<|b+1],[Z (.im<|ah<|sp n b),Z<|.im<|ah<|sp n<|b+1],rfl,?_,λ_=>rfl,λ_=>⟨_,rfl,rfl⟩⟩;exact mV (dX rfl rfl rfl rfl s)
  ·rw[gr];rfl
 have im:=OG (((range E).filter λb=>!decide (sp n b=sp n (b+1))).map λ_=>(1:Int));have iW:=LX (((range E).filter λb=>!decide (sp n b=sp n (b+1))).map λ_=>(1:Int));rw[BO]at iW;have d:vf [.lst ((((range E).filter λb=>!decide (sp n b=sp n (b+1))).map λ_=>(1:Int)).map .int)]=Z (aI<|sW n E):=by
  show (l1 _).map (λUP=>ak.im<|.int<|uB UP)=_;rw[im];show Z (ak.im<|.int<|uB _)=_;rw[iW];rfl
 unfold pK Bl;refine h_ [Z (aL<|cs n<|E+2),Z<|a3<|cs (sp n)<|E+1] rfl ((ee ((sg dC (show 1<2 by decide)).trans rfl)).trans<|d_ ?_) rfl;exact qu (dF (cA dc) rfl) rfl d
def cZ(F:List ba)(m:aD)(b:Nat):aD:=(gd (ct (aM F) (m,0) b))
def Gb(F:List ba)(m:aD)(s:Nat):cI F m s=cs (cZ F m) s:=rfl
def EG{m:aD}(UY:e7 D)(a:ct (aM F) (m,0) (4*D.length)=(m,0)):
  ∃f,i_ (aL<|cI F m<|4*D.length) Y (Z 2)=Z (.im f)/\dg (aL<|cI F m<|4*D.length) (.im f)=Z (aL<|cs (cZ F m)<|4*D.length+2):=by
 have aC:=UY.len;have j:=nM.mpr UY.ne;rw[Gb];have b:((cs (cZ F m)<|4*D.length).map ah).length=4*D.length:=by rw[bS,bS,i0]
 have c:fy ((cs (cZ F m)<|4*D.length).map ah) Y (Z 2)=((cs (cZ F m)<|4*D.length).map ah).take 2:=EK _ 2;have d:(cs (cZ F m)<|4*D.length).map ah++((cs (cZ F m)<|4*D.length).map ah).take 2=(cs (cZ F m)<|4*D.length+2).map ah:=by
  rw[<-lg,<-fz];congr 1;obtain⟨UZ,e⟩:∃UZ,4*D.length=UZ+2:=⟨4*D.length-2,⋯⟩;have g:(cs (cZ F m)<|4*D.length).take 2=[cZ F m 0,cZ F m 1]:=by
   rw[e];show ((range<|UZ+2).map<|cZ F m).take 2=_;rw[qP,qP];rfl
  have h:cZ F m (4*D.length)=cZ F m 0:=by unfold cZ;rw[a];rfl
  have i:cZ F m (4*D.length+1)=cZ F m 1:=by
   show gd (aM F<|ct (aM F) (m,0)<|4*D.length)=_;rw[a];rfl
  rw[g,<-h,<-i];show _=(range<|4*D.length+1+1).map (cZ F m);rw[qW,qW,fz,fz,bu];rfl
 refine⟨.tup<|((cs (cZ F m)<|4*D.length).map ah).take 2,?_,?_⟩
 ·show Z (ak.im<|.tup<|fy ((cs (cZ F m)<|4*D.length).map ah) Y<|Z 2)=_;rw[c]
 ·show (if _ then _ else _)=_;rw[aJ (by rw[b,h2,b];lia),d]
def Pe(c:l3 Uy){D ar:List aD}{F:List ba}{m:aD}(UY:e7 D)(e:ar[0]?=Z m)(g:m∈D)(h:k1 F)(i:∀d∈F,e9 D d)(j:ar.length=4*D.length)(k:ct (aM F) (m,0) (4*D.length)=(m,0)):
  sI Uy [aL ar,.im<|.tup<|F.map aP]=Z (aI<|sW (cZ F m)<|4*D.length,[aL ar,.im<|.tup<|F.map aP]):=by
 have b:=vn c UY e g h i j;have aC:=UY.len;have VC:=G1 (cZ F m) (4*D.length) ⋯;let⟨f,l,n⟩:=EG UY k;generalize (.tup (F.map aP):ab)=a at b ⊢;unfold sI AV;have o:cj 2 (bh 2 (G.kF Uy)<|aj (ag 0)<|aj (ag 1) aA) [Z (aL ar),Z<|.im a,Y]=Z (.aM,[Z (aL ar),Z<|.im a,Z<|aL<|cI F m<|4*D.length]):=by
  exact i8 (gO rfl rfl rfl b) (show 2<3 by decide) rfl
 refine h_ [Z (aL ar),Z<|.im a,Z<|aL<|cI F m<|4*D.length] rfl ((ee o).trans<|d_ ?_) rfl;exact c0 (dF (cA<|dX rfl (cA<|nI rfl rfl rfl rfl l) rfl rfl n) rfl) rfl rfl VC rfl
def gh(o:aD->aD)(d:ba):aD->aD:=(λc=>if o c=o d.2 then o d.1 else o c)
def bG(j:(aD->aD)×List ba)(d:ba):(aD->aD)×List ba:=(if j.1 d.1=j.1 d.2 then j else (gh j.1 d,j.2++[d]))
def ej(T:List ba)(j:(aD->aD)×List ba):(aD->aD)×List ba:=(T.foldl bG j)
structure j_(D:List aD)(j:(aD->aD)×List ba):Prop where
 l9:∀c∈D,j.1 c∈D
 fix:∀c∈D,j.1 (j.1 c)=j.1 c
 cnt:D.countP (λc=>decide (j.1 c=c))+j.2.length=D.length
 gen:∀p:aD->aD,(∀d∈j.2,p d.1=p d.2)->∀c∈D,p (j.1 c)=p c
def j_.start(D:List aD):j_ D (λc=>c,[]):=⟨λc e=>e,λ_ W=>rfl,by show D.countP (λc=>decide (c=c))+0=_;simp,λ_ W W W=>rfl⟩
def G_{o:aD->Bool}{f:aD}(ai:D.Nodup)(a:f∈D)(b:o f=aa):D.countP o=D.countP (λc=>o c && !decide (c=f))+1:=by
 induction D with
 |nil=>cases a
 |cons g r e=>
  let⟨h,j⟩:=iI.mp ai;by_cases d:g=f
  ·subst d;rw[List.countP_cons_of_pos b,List.countP_cons_of_neg ↥0];congr 1;refine HN λc k=>?_;have:c≠g:=λi=>h (i ▸ k);simp[this]
  ·have l:f∈r:=(bI.mp a).resolve_left λi=>d i.symm;have:=e j l;rw[v_,v_,this];simp[d];lia
def j_.step{D:List aD}{j:(aD->aD)×List ba}(Vh:j_ D j)(ai:D.Nodup){d:ba}(t:d.1∈D)(z:d.2∈D):j_ D (bG j d):=by
 unfold bG;split
 ·exact Vh
 ·rename_i ne;let⟨o,U2⟩:=j;have ne:o d.1≠o d.2:=ne;have b:o (o d.1)=o d.1:=Vh.fix _ t;have h:o (o d.2)=o d.2:=Vh.fix _ z;refine⟨λc a=>?_,λc a=>?_,?_,λp g c a=>?_⟩
  ·show (if o c=o d.2 then o d.1 else o c)∈D;split
   ·exact Vh.l9 _ t
   ·exact Vh.l9 _ a
  ·show gh o d (gh o d c)=gh o d c;have k:o (o c)=o c:=Vh.fix c a;unfold gh;by_cases i:o c=o d.2
   ·rw[aJ i,b,aO ne]
   ·rw[aO i,k,aO i]
  ·have n:=Vh.cnt;have m:=G_ (o:=λc=>decide (o c=c)) ai (Vh.l9 _ z) (df h);have l:D.countP (λc=>decide (gh o d c=c))=D.countP (λc=>decide (o c=c) && !decide (c=o d.2)):=by
    refine HN λc a=>?_;unfold gh;by_cases i:o c=o d.2
    ·rw[aJ i];constructor
     ·intro e;have e:=eR e;rw[<-e,b]at i;exact absurd i ne
     ·intro e;simp at e;exact absurd (e.1.symm.trans i) e.2
    ·rw[aO i];have:o c=c->c≠o d.2:=λe C=>i (e.trans C);simp;exact this
   show D.countP (λc=>decide (gh o d c=c))+(U2++[d]).length=_;rw[l,d7,kK];dsimp only at n;lia
  ·have J:=Vh.gen p λf q=>g f (eG _ q);have r:p d.1=p d.2:=g d (ei _<|.head _);show p (if o c=o d.2 then o d.1 else o c)=p c;split
   ·rename_i i;rw[J _ t,r,<-J _ z];show p (o d.2)=_;rw[<-i];exact J _ a
   ·exact J _ a
theorem vF{D:List aD}(ai:D.Nodup):∀(T:List ba) (j:(aD->aD)×List ba),j_ D j->(∀d∈T,d.1∈D/\d.2∈D)->j_ D (ej T j)/\(∃UR,(ej T j).2=j.2++UR/\UR.Sublist T)/\(∀d∈T,(ej T j).1 d.1=(ej T j).1 d.2)/\∀f l,j.1 f=j.1 l->(ej T j).1 f=(ej T j).1 l
 |[],j,Vh,_=>⟨Vh,⟨[],(b_ _).symm,.slnil⟩,(λ_ i=>nomatch i),λ_ W i=>i⟩
 |d::T,j,Vh,e=>by
  have b:=Vh.step ai (e d<|.head _).1 (e d<|.head _).2;let⟨g,⟨UR,aR,aX⟩,n,v⟩:=vF ai T (bG j d) b λf a=>e f (.tail _ a);have U3:∀f l,j.1 f=j.1 l->(bG j d).1 f=(bG j d).1 l:=λf l i=>by
   unfold bG;split
   ·exact i
   ·show gh j.1 d f=gh j.1 d l;unfold gh;rw[i]
  have U9:(bG j d).1 d.1=(bG j d).1 d.2:=by
   unfold bG;split
   ·rename_i i;exact i
   ·rename_i i;show gh j.1 d d.1=gh j.1 d d.2;unfold gh;rw[aO i,aJ rfl]
  refine⟨g,?_,λf a=>?_,λf l i=>v f l<|U3 f l i⟩
  ·show ∃UR,(ej T<|bG j d).2=_/\_;rw[aR];unfold bG;split
   ·exact⟨UR,rfl,aX.cons d⟩
   ·exact⟨d::UR,by rw[bu];rfl,aX.cons₂ d⟩
  ·rcases bI.mp a with i|i
   ·rw[i];exact v _ _ U9
   ·exact n f i
def vv(D:List aD)(F:List ba):Prop:=(∀p:aD->aD,(∀d∈F,p d.1=p d.2)->∀g∈D,∀c∈D,p g=p c)
def xC{j:(aD->aD)×List ba}(Vh:j_ D j)(ai:D.Nodup)(ne:D≠[])(e:∀g∈D,∀c∈D,j.1 g=j.1 c):j.2.length+1=D.length:=by
 let⟨m,a⟩:=List.exists_mem_of_ne_nil _ ne;have d:D.countP (λc=>decide (j.1 c=c))=1:=by
  rw[G_ ai (Vh.l9 m a) (df<|Vh.fix m a)];have:D.countP (λc=>decide (j.1 c=c) && !decide (c=j.1 m))=0:=by
   rw[List.countP_eq_zero];intro c b;simp;intro i;rw[<-i];exact e c b m a
  rw[this]
 have:=Vh.cnt;lia
theorem H6{o:aD->aD}{U2:List ba}{D:List aD}(e:∀g∈D,∀c∈D,o g=o c):∀T:List ba,(∀d∈T,d.1∈D/\d.2∈D)->ej T (o,U2)=(o,U2)
 |[],_=>rfl
 |d::T,a=>by
  show ej T (bG (o,U2) d)=_;rw[show bG (o,U2) d=(o,U2) from aJ (e _ (a d<|.head _).1 _ (a d<|.head _).2)];exact H6 e T λf b=>a f (.tail _ b)
theorem TX(UY:e7 D):let F:=(ej (c_ D) (λc=>c,[])).2;F.Sublist (c_ D)/\F.length+1=D.length/\vv D F:=by
 have h:∀d∈c_ D,d.1∈D/\d.2∈D:=λd e=>⟨(h9.mp e).1,(h9.mp e).2.1⟩;let⟨Vh,⟨UR,j,k⟩,n,W⟩:=vF UY.ai (c_ D) (λc=>c,[]) (j_.start D) h;have all:∀g∈D,∀c∈D,(ej (c_ D) (λc=>c,[])).1 g=(ej (c_ D) (λc=>c,[])).1 c:=UY.con _ λg a c b i=>n (g,c) (h9.mpr ⟨a,b,i⟩);refine⟨by rw[show (ej (c_ D) (λc=>c,[])).2=UR from j];exact k,xC Vh UY.ai UY.ne all,λp f g a c b=>?_⟩;rw[<-Vh.gen p f g a,<-Vh.gen p f c b,all g a c b]
def Kv(UY:e7 D)(a:∀d∈F,e9 D d)(h:F.length+1=D.length)(UH:vv D F):(ej (F++c_ D) (λc=>c,[])).2=F:=by
 have b:∀d∈c_ D,d.1∈D/\d.2∈D:=λd e=>⟨(h9.mp e).1,(h9.mp e).2.1⟩;let⟨Vh,⟨UR,f,g⟩,n,W⟩:=vF UY.ai F (λc=>c,[]) (j_.start D) λd e=>⟨(a d e).1,(a d e).2.1⟩;have all:=UH _ n;have M:=xC Vh UY.ai UY.ne all;have d:ej (F++c_ D) (λc=>c,[])=ej (c_ D) (ej F (λc=>c,[])):=Hn;rw[d];generalize ej F (λc=>c,[])=j at *;let⟨o,U2⟩:=j;rw[H6 all _ b];have:U2=UR:=f;rw[this];exact g.eq_of_length (by rw[<-this];dsimp only at M;lia)
def Lz(e:n∈D):g_ (cn D p) (dS n) (ah v)=cn D (λc=>if c=n then v else p c):=by
 have a:((cn D p).any λb=>decide (b.1=dS n))=aa:=oO.mpr ⟨(dS n,ah<|p n),ew.mpr ⟨n,e,rfl⟩,df rfl⟩;unfold g_;rw[aJ a];unfold cn;rw[gr];refine q2 λc W=>?_;show (if dS c=dS n then (dS c,ah v) else (dS c,ah<|p c))=(dS c,ah<|if c=n then v else p c);by_cases i:c=n
 ·rw[aJ (congrArg dS i),aJ i]
 ·rw[aO λC=>i<|o_ C,aO i]
def O7{o:aD->aD}(e:∀c∈D,o c=p c):cn D o=cn D p:=q2 λc a=>by rw[e c a]
def zT{n v:Prop}[Decidable n][Decidable v]{g c:U1}(e:n↔v):(if n then g else c)=if v then g else c:=by
 by_cases i:n
 ·rw[aJ i,aJ<|e.mp i]
 ·rw[aO i,aO λC=>i<|e.mpr C]
def jG(u H:aD)(p:aD->aD)(n:aD):aD->aD:=(λc=>if c=n/\p n=u then H else p c)
theorem Gp{u H:aD}(ne:H≠u):∀(a:List aD) (p:aD->aD) (c:aD),a.foldl (jG u H) p c=if c∈a/\p c=u then H else p c
 |[],p,c=>by rw[aO λi=>nomatch i.1];rfl
 |n::a,p,c=>by
  rw[mU,Gp ne a];by_cases i:c=n
  ·subst i;by_cases C:p c=u
   ·have d:jG u H p c c=H:=aJ ⟨rfl,C⟩;rw[d,aO λl=>ne l.2,aJ ⟨.head _,C⟩]
   ·have d:jG u H p c c=p c:=aO λl=>C l.2;rw[d,aO λl=>C l.2,aO λl=>C l.2]
  ·have d:jG u H p n c=p c:=aO λl=>i l.1;rw[d];refine zT ?_;rw[bI];exact⟨λl=>⟨.inr l.1,l.2⟩,λl=>⟨l.1.resolve_left i,l.2⟩⟩
def QY(e:n∈D)(a:D.length<=1000):hI (.aQ<|cn D p) (.im<|ah n) (.im<|ah v)=Z (.aQ<|cn D<|λc=>if c=n then v else p c):=by
 rw[<-Lz e];exact aJ ⟨rfl,by unfold cn;rw[bS];lia⟩
end G
namespace L2
open Spec PyProof.Rows
variable{p G:List (ae×a7)}{V2:af->ao->Prop}{UH:List zX}{Vx:zX}{VN:List bz}{VR dA V3 UM o:Pos}{aH Vz L:ae}{j VF:ao}{x:a5}{Uv:fF}{U7 M:List d0}{O:bB}{VP VG:af}{VW h:az}{A:Unit->ao->Prop}{S:Array af}{Vw:a7}{Uu e:aZ}{UW:List ae}{C:bg}{UB:bC}{US:ha}{Vp VB:aE bN}{c d g:bj}{b q s:Nat}{T:List bj}{J:aE (List bN)}{UU:List Nat}{UZ UJ:List aF}{VA f:aF}{Q:Φ}{R:cP}
def qS:List (ae×a7)->Bool
 |[]=>aa
 | (_,m)::r=>(match m.data with
  |.seq _ _=>(match m.cls with | .type s=>s != "list" |_=>aa)
  |_=>aa)&&qS r
def Kk{Q:List (ae×a7)}{g:ae}{m:a7}{UI:Array af}(e:qS Q=aa)(d:Q.lookup g=Z m)(a:m.cls=.type "list")(hd:m.data=.seq UI s):False:=by
 induction Q with
 |nil=>cases d
 |cons o r b=>
  let⟨c,f⟩:=o;rw[qS,cV]at e;simp only[List.lookup]at d;split at d
  ·cases d;have t:=e.1;rw[hd]at t;dsimp only at t;rw[a]at t;exact absurd t ∅
  ·exact b e.2 d
theorem Aq{h:az}:∀UP:List Int,bP h (UP.map .int) (UP.map av.int)
 |[]=>rfl
 |s::r=>⟨.int s,_,rfl,rfl,Aq r⟩
def TH(b:qS Q=aa)(h:az)(g:ae)(UP:List Int)(c:uH h)(f:dm Q h g (UP.map av.int))(a:∃I,R [.cF (UP.map .int)]=Z (.im<|.aC aa,I)){Uv:fF}:jX 1 R [.ref g] h (λu W=>u=.aC aa) Uv:=by
 let⟨@I,a⟩:=a;have i:∃m,h g=Z (.dx m<|.lst<|UP.map av.int):=by
  rcases f with (e|e)|⟨m,UI,s,t,z,l,j,_⟩
  ·rcases c g with d|⟨m,y,d⟩
   ·rw[d]at e;cases e
   ·rw[d]at e;cases e
  ·exact e
  ·exact (Kk b t z j).elim
 let⟨@m,k⟩:=i;refine⟨rfl,[.cF (UP.map .int)],[],.im<|.aC aa,I,⟨_,_,[],[],rfl,⟨g,_,m,rfl,k,Aq UP,rfl⟩,⟨rfl,rfl⟩,rfl⟩,my,a,λu P UA D e W W=>?_⟩;exact e.1
def pH{UR:List af}(e:UR.length=s+1):∃g r,UR=g::r/\r.length=s:=by
 cases UR with
 |nil=>cases e
 |cons g r=>exact⟨g,r,rfl,Nat.succ.inj e⟩
def gV.IG{X:bz}{fd:gC}(N:gV Q f VA X L fd)(e:∀(cM k U5:af) (F:Option ae) (Vg cG:af) (g:af),mC (Ξ f VA (jN X) (g4 X) (dU X) .none cM k U5 F Vg cG) ⟨[g],[]⟩=pure (UJ.zip [g]))(b:UJ.length=1:=by rfl):ix Q fd UJ []:=
 N.binds λcM k U5 F Vg cG UR a=>by
  replace a:=a.trans b;let⟨g,@c,rfl,t⟩:=pH a;obtain rfl:=uC t;exact e cM k U5 F Vg cG g
def gV.Km{X:bz}{fd:gC}(N:gV Q f VA X L fd)(e:∀(cM k U5:af) (F:Option ae) (Vg cG:af) (g c:af),mC (Ξ f VA (jN X) (g4 X) (dU X) .none cM k U5 F Vg cG) ⟨[g,c],[]⟩=pure (UJ.zip [g,c]))(b:UJ.length=2:=by rfl):ix Q fd UJ []:=
 N.binds λcM k U5 F Vg cG UR a=>by
  replace a:=a.trans b;let⟨g,@d,rfl,t⟩:=pH a;let⟨c,@h,rfl,z⟩:=pH t;obtain rfl:=uC z;exact e cM k U5 F Vg cG g c
def gV.Ly{X:bz}{fd:gC}(N:gV Q f VA X L fd)(e:∀(cM k U5:af) (F:Option ae) (Vg cG:af) (g c n:af),mC (Ξ f VA (jN X) (g4 X) (dU X) .none cM k U5 F Vg cG) ⟨[g,c,n],[]⟩=pure (UJ.zip [g,c,n]))(b:UJ.length=3:=by rfl):ix Q fd UJ []:=
 N.binds λcM k U5 F Vg cG UR a=>by
  replace a:=a.trans b;let⟨g,@h,rfl,t⟩:=pH a;let⟨c,@i,rfl,z⟩:=pH t;let⟨n,@j,rfl,d⟩:=pH z;obtain rfl:=uC d;exact e cM k U5 F Vg cG g c n
structure eI where
 P:bC
 w:bg
 K:Φ
 ay:aF->Option af
 base:aZ
def dk(Q:Φ)(f:aF)(X:bz)(L:ae):Prop:=(∃fd,gV Q f f X L fd/\Ψ Q dP f=Z (Z<|.ref L))
def dp(Q:Φ)(ay:aF->Option af)(f:aF)(X:bz)(L:ae)(UJ:List aF):Prop:=(∃fd,gV Q f f X L fd/\ix Q fd UJ []/\ay f=Z (.ref L))
def cq(UB:bC)(C:bg)(Q:Φ)(ay:aF->Option af)(UC:aZ)(q:Nat)(f:aF)(X:bz)(L:ae)(UJ:List aF)(s:Nat)(R:cP):Prop:=(∃fd,gV Q f f X L fd/\ix Q fd UJ []/\ay f=Z (.ref L)/\gL UB C Q ay UC il q L fd UJ (jX s R))
abbrev e4(n:eI):=cq n.P n.w n.K n.ay n.base
def FY{X:bz}{z:af}{t F:Option ae}{V0:Array (Option af)}{cM k U5 Vg cG:af}(g:Ψ Q dP f=Z (Z<|.ref L))(M:Q.lookup L=Z ⟨z,t,.func<|Ξ f f (jN X) (g4 X) (dU X) .none cM k U5 F Vg cG,V0⟩)(n:Ω Q Vg f=aa)(q:Θ Q (.ref L)=aa):dk Q f X L:=⟨_,Sl M n q,g⟩
section
variable{UB:bC}{C:bg}{Q:Φ}{ay:aF->Option af}{UC e:aZ}{q s:Nat}{f:aF}{X:bz}{L:ae}{UJ:List aF}{R:cP}
def dk.aR(r:dk Q f X L)(a:Q.In e)(c:e.Ns dP ay)(d:∀(cM k U5:af) (F:Option ae) (Vg cG g:af),mC (Ξ f f (jN X) (g4 X) (dU X) .none cM k U5 F Vg cG) ⟨[g],[]⟩=pure (UJ.zip [g]):=by intros;rfl)(h:UJ.length=1:=by rfl):dp Q ay f X L UJ:=
 have ⟨_,b,g⟩:=r
 ⟨_,b,b.IG d h,mD a c g⟩
def dk.aX(r:dk Q f X L)(a:Q.In e)(d:e.Ns dP ay)(h:∀(cM k U5:af) (F:Option ae) (Vg cG g c:af),mC (Ξ f f (jN X) (g4 X) (dU X) .none cM k U5 F Vg cG) ⟨[g,c],[]⟩=pure (UJ.zip [g,c]):=by intros;rfl)(i:UJ.length=2:=by rfl):dp Q ay f X L UJ:=
 have ⟨_,b,g⟩:=r
 ⟨_,b,b.Km h i,mD a d g⟩
def dk.vg(r:dk Q f X L)(a:Q.In e)(d:e.Ns dP ay)(h:∀(cM k U5:af) (F:Option ae) (Vg cG g c n:af),mC (Ξ f f (jN X) (g4 X) (dU X) .none cM k U5 F Vg cG) ⟨[g,c,n],[]⟩=pure (UJ.zip [g,c,n]):=by intros;rfl)(i:UJ.length=3:=by rfl):dp Q ay f X L UJ:=
 have ⟨_,b,g⟩:=r
 ⟨_,b,b.Ly h i,mD a d g⟩
def cq.m(aH:cq UB C Q ay UC q f X L UJ s R):ay f=Z (.ref L):=have ⟨_,_,_,E,_⟩:=aH;E
def cq.fd{fd:gC}(aH:cq UB C Q ay UC q f X L UJ s R)(b:gV Q f f X L fd):gL UB C Q ay UC il q L fd UJ (jX s R):=by
 let⟨@e,c,W,W,J⟩:=aH;let⟨z,t,cM,k,U5,F,Vg,cG,@V0,d,M,W⟩:=b.ex;let⟨g,h,i,j,l,m,n,o,@p,r,a,W⟩:=c.ex;rw[M]at a;cases a;exact J
def Lo(r:dk Q f X L)(a:Q.In e)(h:e.Ns dP ay){b:ae}(i:ay f=Z (.ref b)){o:aF}(l:∀(cM k U5:af) (F:Option ae) (Vg cG:af) (j:ao) (u:af),mF j (Ξ f f (jN X) (g4 X) (dU X) .none cM k U5 F Vg cG) ⟨[u],[]⟩ [(o,u)])(aH:∀UC,cq UB C Q ay UC q f X L [o] s R):
  ∃fd:gC,(∀(j:ao) (u:af),mF j fd ⟨[u],[]⟩ [(o,u)])/\∀UC:aZ,Q.In UC->UC.Ns dP ay->gL UB C Q ay UC il q b fd [o] (jX s R):=by
 let⟨@fd,d,g⟩:=r;cases i.symm.trans (mD a h g);refine⟨fd,?_,λc U U=>(aH c).fd d⟩;let⟨z,t,cM,k,U5,F,Vg,cG,@V0,rfl,M,U⟩:=d.ex;exact l cM k U5 F Vg cG
def JA{J:bt}(N:dp Q ay f X L UJ)(UW:kb UZ UJ (dU X))(d:UJ.length=s)(e:∀b∈UU,b<s)(g:UZ.Nodup->∀(Vg:af) (O:bB) (U7:List d0) (j:ao) (h:az) (Uv:fF),ea q (O.deeper<|iD f (dU X) j.heap.objs.size L Vg)->hX (h7 il UB C Q ay UC UZ f (dU X) L Vg O U7 j h Uv).oA UU (g4 X) J):
  cq UB C Q ay UC (q+1) f X L UJ s (c5 s UZ.length UU J):=
 have ⟨_,a,c,E⟩:=N
 ⟨_,a,c,E,PU a UW d e<|g UW.ai⟩
end
section
variable{a:aK}
variable{E:Nat}
def N7{X:bz}(aH:cq a.prog a.w a.K a.ay a.base q f X L UJ s R)(b:ea E a.A)(e:ey a f)(g:fm a (d::T) J)(h:q<=E:=by decide)(i:(f==("__debug__" : aF))=aq:=by decide)(j:bK (d::T) a.env=(aq,b6 d a.env)::bK T a.env:=by rfl)(k:(fG UM<|bK T a.env).any (·.1)=aq:=by rfl):
  cv a (.Call (.Name f o) (d::T) [] UM) (bh s R J):=
 have ⟨_,l,c,E,N⟩:=aH
 RV N (b.mono h) e E l.c8 c g i j k
def DE{X:bz}{l:aF}(aH:cq a.prog a.w a.K a.ay a.base q l X L UJ s R)(e:ea E a.A)(g:bU a (.Name f o) (lU b))(h:fm a (d::T) J)(i:q<=E:=by decide)(j:bK (d::T) a.env=(aq,b6 d a.env)::bK T a.env:=by rfl)(k:(fG UM<|bK T a.env).any (·.1)=aq:=by rfl):
  cv a (.Call (.Name f o) (d::T) [] UM) (qG b L s R J):=
 have ⟨_,m,c,_,N⟩:=aH
 Pz N (e.mono i) g m.c8 c h j k
def bc{b:Int}{w UM}:dH a (.Constant (.int b) w UM) (V<|au<|.int b):=aV f_
def ax(b:Nat){f:aF}{UM:Pos}(c:a.N[b]?=Z f:=by rfl)(d:vC a.env.scope f:=by first|exact Or.inl rfl|exact Or.inr (Or.inl rfl)|exact Or.inr (Or.inr rfl))(hd:(f==("__debug__" : aF))=aq:=by decide)(e:(f==("__classdict__" : aF))=aq:=by decide):dH a (.Name f UM) (ag b):=L1 (Hx c d hd e)
def bJ{J:aE bN}(b:dH a d J)(UH:bK [d] a.env=(aq,b6 d a.env)::bK [] a.env:=by rfl):fm a [d] (aj J aA):=oz b mH UH
def lh(b:ea E a.A)(d:dH a g VB)(e:dH a c Vp)(UH:vh c:=by exact λ_ W=>rfl):cv a (.Subscript g c UM) (aw a4 VB Vp):=i7 (EX (by have:=b.un;lia)) d e UH
variable{e:aE bN}
def b0{L:bj}{J:aE bN}(b:dH a d J)(c:dH a L e)(UH:bK [d,L] a.env=(aq,b6 d a.env)::bK [L] a.env:=by rfl)(z:bK [L] a.env=(aq,b6 L a.env)::bK [] a.env:=by rfl):fm a [d,L] (aj J<|aj e aA):=oz b (bJ c z) UH
def j1{L v:bj}{J q:aE bN}(b:dH a d J)(c:dH a L e)(hd:dH a v q)(UH:bK [d,L,v] a.env=(aq,b6 d a.env)::bK [L,v] a.env:=by rfl)(t:bK [L,v] a.env=(aq,b6 L a.env)::bK [v] a.env:=by rfl)(z:bK [v] a.env=(aq,b6 v a.env)::bK [] a.env:=by rfl):fm a [d,L,v] (aj J<|aj e<|aj q aA):=oz b (b0 c hd t z) UH
def eu(b:Nat){f:aF}{d:bj}{J:aE ak}{UM VQ:Pos}(c:a.N.Nodup)(e:cv a d J)(Uw:a.N[b]?=Z f:=by rfl)(g:jb a.env.scope f:=by exact Or.inl rfl)(h:b∉UU:=by decide)(UH:me d (Z<|.Name f VQ) UM.line a.env=pure aq:=by rfl)(i:a.fn f=aa\/a.env.scope.names.lookup f=Z .local:=by first|exact .inl rfl|exact .inr rfl|assumption):gG a UU (.Assign [.Name f VQ] d UM) (cj b J):=nS c Uw g e h UH i
def fH(b:Nat){f:aF}{UM:Pos}(c:a.N.Nodup)(Uw:a.N[b]?=Z f:=by rfl)(d:jb a.env.scope f:=by exact Or.inl rfl)(e:b∉UU:=by decide)(g:a.fn f=aa\/a.env.scope.names.lookup f=Z .local:=by first|exact .inl rfl|exact .inr rfl|assumption):hD a UU (.Name f UM) (bb b):=n2 c Uw d e g
def ts:List aF->Bool
 |[]=>aa
 |f::M=>!M.contains f&&ts M
theorem Cb:∀{M:List aF},ts M=aa->M.Nodup
 |[],_=>my
 |f::M,e=>by
  rw[ts,cV,vK]at e;refine iI.mpr ⟨λi=>?_,Cb e.2⟩;rw[List.contains_iff_mem.mpr i]at e;cases e.1
def fP(b:Nat){f:aF}{UM:Pos}(Uw:a.N[b]?=Z f:=by rfl)(c:ts a.N=aa:=by kernel_rfl)(d:jb a.env.scope f:=by exact Or.inl rfl)(e:b∉UU:=by decide)(g:a.fn f=aa\/a.env.scope.names.lookup f=Z .local:=by first|exact .inl rfl|exact .inr rfl|assumption):hD a UU (.Name f UM) (bb b):=n2 (Cb c) Uw d e g
def jA{Vc Vy VS:bj}(own:List aF)(Ve:List Nat){VU:jm}{l:fi}{VV:aE ak}(Uw:mi a Vc Vy VU)(c:∀b,hD (a.fX (fV a own Ve) US b) (qx own.length Ve.length) Vc l)(d:∀b,cv (a.fX (fV a own Ve) US b) VS VV)(UW:yK a.env.scope a.N US Ve=aa:=by kernel_rfl)(e:a.calm=aa:=by rfl)(ai:Ve.Nodup:=by decide)(UH:∀f,lS Vy a.env f=pure f:=by intro W;rfl):cv a (.ListComp VS [⟨Vc,Vy,[],0⟩] US UM) (de own.length Ve VU l d5 VV):=
 vB e (sb _ _ UW rfl rfl) ai Uw c (λ_=>FX) d UH
def iJ{J e:fi}{b}(d:hD a UU g J)(f:hD a UU c e)(h:a.calm=aa:=by rfl)(t:(hr [g,c] a.env).map (·.2)=ja g a.env::(hr [c] a.env).map (·.2):=by rfl)(z:(hr [c] a.env).map (·.2)=ja c a.env::(hr [] a.env).map (·.2):=by rfl)(i:(hr [g,c] a.env).length=2:=by rfl)(j:(hr [g,c] a.env).findIdx? (·.1)=Y:=by rfl):hD a UU (.Tuple [g,c] b UM) (d6 2<|cc J<|cc e eb):=I4 h (AM d (AM f Lq z) t) i j
def dO{id:String}{Vk:List ak->Option ak}(b:hn a (.builtin id) Vk)(c:a.ay f=Y)(e:fw f=Z (.builtin id))(g:fm a (d::T) J)(h:ey a f:=by rfl)(i:f ≠ "__name__" := by decide)(j:(f==("__debug__" : aF))=aq:=by decide)(k:bK (d::T) a.env=(aq,b6 d a.env)::bK T a.env:=by rfl)(l:(fG UM<|bK T a.env).any (·.1)=aq:=by rfl):
  cv a (.Call (.Name f o) (d::T) [] UM) (bR Vk J):=PJ b h c e g i j k l
def ck{X:bz}(aH:cq a.prog a.w a.K a.ay a.base q f X L UJ s R)(b:ea E a.A)(c:fm a (d::T) J)(e:ey a f:=by rfl)(g:q<=E:=by decide)(h:(f==("__debug__" : aF))=aq:=by decide)(i:bK (d::T) a.env=(aq,b6 d a.env)::bK T a.env:=by rfl)(j:(fG UM<|bK T a.env).any (·.1)=aq:=by rfl):
  cv a (.Call (.Name f o) (d::T) [] UM) (bh s R J):=N7 aH b e c g h i j
def c7(b:ea E a.A)(d:dH a g VB)(e:dH a c Vp)(UH:vh c:=by exact λ_ W=>rfl):dH a (.Subscript g c UM) (V<|aw a4 VB Vp):=aV (lh b d e UH)
def cH{Vk:xS}{L:ak->ak->Option ak}(b:fa a (gk Vk) L)(d:dH a g VB)(e:dH a c Vp):dH a (.BinOp g Vk c UM) (V<|aw L VB Vp):=aV (lC b d e)
def fR{b}(e:fm a T J):dH a (.Tuple T b UM) (V<|cY J):=aV (jZ e)
end
section
variable{UB:bC}{C:bg}{Q:Φ}{ay:aF->Option af}{UC e:aZ}{q s:Nat}{f:aF}{X:bz}{L:ae}{UJ:List aF}{R:cP}
def xa{UB:List aF}{D:ha}(g:D.kind=.function:=by rfl)(c:D.isCoroutine=aq:=by rfl)(n:D.isGenerator=aq:=by rfl)(v:UZ.Nodup:=by decide +kernel)(d:UZ.take UB.length=UB:=by rfl)(L:∀f∈UB,D.names.lookup f=Z .local\/D.names.lookup f=Z .cell:=by decide +kernel)(J:∀l∈D.names,l.2≠.free:=by decide +kernel):kb UZ UB D:=⟨g,c,n,v,d,L,J⟩
def d2{J:bt}(UZ:List aF)(N:dp Q ay f X L UJ)(a:UZ.Nodup->∀(Vg:af) (O:bB) (U7:List d0) (j:ao) (h:az) (Uv:fF),ea q (O.deeper<|iD f (dU X) j.heap.objs.size L Vg)->hX (h7 il UB C Q ay UC UZ f (dU X) L Vg O U7 j h Uv).oA UU (g4 X) J)(UW:kb UZ UJ (dU X):=by exact xa)(c:UJ.length=s:=by rfl)(d:∀b∈UU,b<s:=by decide):cq UB C Q ay UC (q+1) f X L UJ s (c5 s UZ.length UU J):=JA N UW c d a
end
def dt.gone{g:ae}(f:dt UB C h e)(s:e.get? g=Y):h g=Y:=by
 cases p:h g with
 |none=>rfl
 |some m=>
  have a:∃H,e.get? g=Z H:=by
   have i:=f g m p;clear p;induction m with
   |lst y=>let⟨W,UI,E,W,d⟩:=i;exact⟨_,d⟩
   |tup y=>let⟨W,UI,W,Vt,d,W⟩:=i;exact⟨_,d⟩
   |dJ UK=>let⟨W,W,S,W,Vt,T,Vu,d,W⟩:=i;exact⟨_,d⟩
   |aQ UK=>let⟨W,W,y,W,Vt,T,Vu,d,W⟩:=i;exact⟨_,d⟩
   |set UW E=>let⟨Vt,T,Vu,I,d,W⟩:=i;exact⟨_,d⟩
   |ins aH k ar=>let⟨W,W,W,d,W⟩:=i;exact⟨_,d⟩
   |own _=>exact i
   |t6 ar=>let⟨B,⟨m,T,Vu,d,W⟩,W⟩:=i;exact⟨_,d⟩
   |lX D Uw=>let⟨I,H,u,d⟩:=i;exact⟨_,d⟩
   |dx Vt H b=>exact⟨_,i.1⟩
   |m3 UJ=>exact⟨_,i⟩
   |met L l=>exact⟨_,i⟩
   |ext c=>exact i.2.1
  let⟨H,d⟩:=a;rw[s]at d;cases d
section
variable{aE:gn}{O:bB}{V2:af->ao->Prop}{j:ao}{UB:bC}{C:bg}{h:az}{UC:aZ}{U:d0}{U7:List d0}{Vz d:ae}
def wk(b:j.heap.FunFrames UC M)(UH:∀c∈di M,c∈UW):j.heap.FunFrames (Δ j.heap UW) M:=by
 induction M with
 |nil=>trivial
 |cons f r d=>
  let⟨e,⟨Vz,m,a,U,g,hd⟩,h⟩:=b;refine⟨e,⟨Vz,m,a,m7 UW<|UH Vz ?_,g,hd⟩,d h λc i=>UH c ?_⟩
  ·show Vz∈(f::r).filterMap (·.frame);rw[sD,a];exact .head _
  ·show c∈(f::r).filterMap (·.frame);rw[sD,a];exact .tail _ i
def vG(e:j.heap.FunFrames UC M)(f:∀c∈UW,h c=Y){y:List ae}(k:∀c∈UW,c∈di M\/c∈y)(aT:dt UB C h j.heap)(U3:(Δ j.heap UW).StaysIn Uu)(l:∀c m,j.heap.get? c=Z m->(∀S,m.data≠.fields S)->∃aY,Uu.get? c=Z {m with slots:=aY}):dq (di M) y h h j.heap Uu/\dt UB C h Uu:=by
 have keep:∀c m,j.heap.get? c=Z m->c∉UW->Uu.get? c=Z m:=λc m p s=>U3 c m (p5 UW p s);refine⟨⟨λc m p U n aM=>keep c m p λi=>(k c i).elim n aM,λc m p U d U=>?_,λ_ U U s U=>s,λc m p aM=>?_,λ_ U p=>p,λ_ U U p=>p,λ_ UJ p=>⟨#[],by rw[p];simp⟩⟩,λg m p=>?_⟩
 ·let⟨U,Vb,b,hd⟩:=e.mem d;rw[p]at b;cases b;exact l c m p hd
 ·by_cases a:c∈UW
  ·rcases k c a with d|o
   ·let⟨U,Vb,b,hd⟩:=e.mem d;rw[p]at b;cases b;let⟨aY,q⟩:=l c m p hd;exact⟨_,q⟩
   ·exact absurd o aM
  ·exact⟨m,keep c m p a⟩
 ·refine (aT g m p).fs (λc H a r=>keep c H r λi=>?_) (λ_ i=>i) λ_ U i=>i;rcases a with rfl|a
  ·rw[f c i]at p;cases p
  ·rw[f c i]at a;cases a
def ID(h:az)(Vx e:aZ)(d:ae)(cls VG:af):Prop:=(∃Vw S F a U2,e.get? d=Z Vw/\(Vw.cls=cls/\S[0]?=Z VG)/\Vw.data=.fields S/\S[1]?=Z (.ref F)/\Vx.get? F=Y/\F≠d/\e.get? F=Z a/\a.data=.fields U2/\U2[3]?=Z .none/\h F=Y)
def RS(v:O.frames=Z (U::U7))(f:j.heap.FunFrames UC (U::U7))(w:U.frame=Z Vz)(x:j.heap.get? d=Z Vw)(hd:Vw.data=.fields S)(t:S[1]?=Z .none)(Vx:S[0]?=Z VG)(z:h d=Y)(B:∀c∈di (U::U7),h c=Y)(aT:dt UB C h j.heap)(e:∀Uu,dq (di (U::U7)) [d] h h j.heap Uu->dt UB C h Uu->ID h j.heap Uu d Vw.cls VG->A () {j with heap:=Uu}):wpAny aE O (leaving U<|.ref d) A V2 j:=by
 have g:∀c∈d::di (U::U7),c∈di (U::U7)\/c∈[d]:=λc a=>by
  rcases bI.mp a with r|r
  ·rw[r];exact .inr (.head _)
  ·exact .inl r
 refine wpAny_leaving_firstW (base:=Δ j.heap (d::di (U::U7))) v (wk f λc a=>.tail _ a) w x (λc m p=>r5 _ p) (m7 _<|.head _) hd t Vx λUu ⟨U3,_,D,k⟩=>?_;let⟨E,G,F,I,U2,J,L,M,N,l,n,o,q,P⟩:=D;let⟨H,Q⟩:=vG (UB:=UB) (C:=C) f (λc a=>(g c a).elim (B c) λi=>by rw[cD.mp i];exact z) (y:=[d]) g aT U3 k;have b:j.heap.get? F=Y:=by
  cases p:j.heap.get? F with
  |none=>rfl
  |some m=>
   by_cases b:F∈d::di (U::U7)
   ·rcases bI.mp b with r|r
    ·exact absurd r n
    ·let⟨T,Vb,R,s⟩:=f.mem r;let⟨aY,u⟩:=k F Vb R s;rw[o]at u;cases u;exact absurd q (s U2)
   ·rw[p5 _ p b]at l;cases l
 exact e Uu H Q ⟨E,G,F,I,U2,J,L,M,N,b,n,o,q,P,aT.gone b⟩
end
def dq.out{ar:List ae}{Vx t z:aZ}{d:ae}(g:dq ar [] VW h Vx t)(c:dq (Vz::ar) [d] h h t z)(f:∀n m,Vx.get? n=Z m->n≠Vz)(j:∀n m,Vx.get? n=Z m->n≠d):dq ar [] VW h Vx z:=by
 have aM:∀n m,Vx.get? n=Z m->n∉[d]:=λn m p i=>j n m p (cD.mp i);have k:∀n m,Vx.get? n=Z m->n∉ar->n∉Vz::ar:=λn m p s i=>(bI.mp i).elim (f n m p) s;have VM:∀n:ae,n∉([]:List ae):=λn i=>by cases i
 refine⟨λn m p s a W=>c.keep n m (g.keep n m p s a<|VM n) (g.free n m p s<|VM n) (k n m p a)<|aM n m p,λn m p s a W=>?_,λn m p s W=>g.free n m p s<|VM n,λn m p W=>?_,λn y p=>c.hY n y<|g.hY n y p,λn m H p=>c.hv n m H<|g.hv n m H p,λn UJ p=>?_⟩
 ·let⟨aY,b⟩:=g.slot n m p s a (VM n);let⟨l,e⟩:=c.slot n _ b (g.free n m p s<|VM n) (.tail _ a) (aM n m p);exact⟨l,e⟩
 ·let⟨Vb,b⟩:=g.there n m p (VM n);exact c.there n Vb b (aM n m p)
 ·let⟨o,b⟩:=g.ic n UJ p;let⟨q,e⟩:=c.ic n _ b;exact⟨o++q,by rw[e,xQ]⟩
def lJ(UB:bC)(C:bg):jo:=(λU7 h j Uv jY Ux=>∃(d aH:ae) (VG:af) (P:az),jY=.ref d/\Ux.os=j.os/\kW Ux.gens/\dq (di U7) [] h P j.heap Ux.heap/\dt UB C P Ux.heap/\j.heap.get? d=Y/\P d=Y/\ID P j.heap Ux.heap d (.ref aH) VG/\Uv (.ref aH) Y P)
def Nl{ay:aF->Option af}{UC:aZ}{d:ae}{Va:Nat}(b:aG (h7 (lJ UB C) UB C Q ay UC UZ VA US L VP O U7 VF VW Uv) G x h j)(q:∀c H,j.heap.get? c=Z H->Uu.get? c=Z H)(s:j.heap.get? d=Y)(l:Uu.get? d=Z Vw)(o:Vw.cls=.ref aH)(hd:Vw.data=.fields S)(t:S[1]?=Z .none)(Vx:S[0]?=Z VG)(r:Uv (.ref aH) Y h):
  (h7 (lJ UB C) UB C Q ay UC UZ VA US L VP O U7 VF VW Uv).cL (.ref d) {j with heap:=Uu,toks:=Va}:=by
 have Vh:=b.kept (Va:=Va) q;have f:h d=Y:=b.aT.gone s;refine RS (UC:=UC) (UB:=UB) (C:=C) (h:=h) (Vz:=VF.heap.objs.size) Vh.ok.frames Vh.stack rfl l hd t Vx f Vh.qd Vh.aT λz un u g=>?_;rw[o]at g;let⟨v,w,F,y,U2,A,B,D,E,k,I⟩:=g;have e:∀n m,VF.heap.get? n=Z m->∃Vb,j.heap.get? n=Z Vb:=λn m p=>b.base.there n m p λi=>by cases i
 refine⟨d,aH,VG,h,rfl,Vh.os,Vh.bare,?_,u,?_,f,⟨v,w,F,y,U2,A,B,D,E,?_,I⟩,r⟩
 ·refine dq.out (Vz:=VF.heap.objs.size) (d:=d) Vh.base un (λn m p=>d8<|cb p) λn m p i=>?_;let⟨Vb,a⟩:=e n m p;rw[i,s]at a;cases a
 ·cases p:VF.heap.get? d with
  |none=>rfl
  |some m=>
   let⟨Vb,a⟩:=e d m p;rw[s]at a;cases a
 ·cases p:VF.heap.get? F with
  |none=>rfl
  |some m=>
   let⟨Vb,a⟩:=e F m p;rw[q F Vb a]at k;cases k
def SS{l:List af}{m:String}(a:Q.In e)(p:Γ Q aH l m=aa):∃b UZ B c D d f b8 fB bM g h U3 U9 i j n,e.get? aH=Z (excClassObj B c aH UZ D b d f b8 fB bM g h U3 U9 i j m)/\e.Ns UZ n/\n "__init__" = Y/\OwnTail e l b:=by
 unfold Γ at p;split at p
 ·rename_i g VP aY lk;split at p
  ·rename_i y b h U3 U9 i z j o q;rw[cV,cV,cV,cV,cV]at p;let⟨⟨⟨⟨⟨t,u⟩,r⟩,v⟩,k⟩,s⟩:=p;cases vq.mp t;cases vq.mp u;let⟨B,D,A,w,c,d,f,b8,fB,bM,x⟩:=VP;dsimp only at o r k s;cases x with
   |true=>cases r
   |false=>
    subst o;let⟨aY⟩:=aY;dsimp only at q;subst q;exact⟨b,w,B,c,D,d,f,b8,fB,bM,g,h,U3,U9,i,j,_,a _ _ lk,.of_isNs<|PySem.W.isNs_of_in a k,PySem.W.nsMap_none_of_in a k<|vq.mp s,PySem.W.tail_of_in a v⟩
  ·cases p
 ·cases p
def wg(a:aK)(aH:ae):e2:=(λ_ x h=>∀(G:List (ae×a7)) (j:ao) (d:ae) (Uu:aZ) (Vw:a7) (S:Array af) (VG:af),aG a G x h j->(∀c H,j.heap.get? c=Z H->Uu.get? c=Z H)->j.heap.get? d=Y->Uu.get? d=Z Vw->Vw.cls=.ref aH->Vw.data=.fields S->S[1]?=Z .none->S[0]?=Z VG->a.cL (.ref d) {j with heap:=Uu})
section
variable{a:aK}
def Ka{E:aF}{w}(t:a.calm=aa)(v:ey a f)(y:a.ay f=Z (.ref aH))(p:Γ a.K aH [.type "ValueError",.type "Exception",.type "BaseException",.type "object"] "ValueError.__new__" = aa)(hd:(f==("__debug__" : aF))=aq:=by decide):
  hx a (.Raise (Z<|.Call (.Name f V3) [.Constant (.str E) w dA] [] VR) Y UM) (wg a aH):=by
 intro G j x h k c e;have z:bU a (.Name f V3) (n3<|.ref aH):=wx (u:=.ref aH) v y rfl hd;let⟨g,UZ,B,A,D,C,i,b8,fB,bM,l,m,U3,U9,n,o,q,F,J,L,s⟩:=SS c.mod.pD p;have X:bK [bj.Constant (.str E) w dA] a.env=(aq,b6 (.Constant (.str E) w dA) a.env)::bK [] a.env:=rfl;refine wpAny_Raise_call_subT (C:=aH) (nm:=B) (q:=A) (bs:=D) (hdct:=C) (sn:=i) (sub:=b8) (ab:=fB) (col:=bM) (dd:=l) (k0:=m) (k1:=U3) (k2:=U9) (k3:=n) (k5:=o) (bm:=g) (N:=UZ) (mN:=q) Ei (s.hasType Ei.hasBase) (c.ok.hd t) (by rw[X];rfl) L (bW (z G j x h (λu UD=>u=.ref aH/\UD=h) c ⟨rfl,rfl⟩) λH N ⟨u,UD,O,r,P,d⟩=>?_);subst P d;cases r;refine⟨rfl,?_⟩;have bQ:gD a [bj.Constant (.str E) w dA] _:=so PF xv;have sp:=bQ VR G N x UD (λS UT=>S.length=1/\UT=UD) O ⟨rfl,rfl⟩;rw[X]at sp ⊢;refine D0 (bW sp λUR R ⟨S,UT,b,T,M,d⟩=>?_);subst d;refine⟨rfl,?_,b.dI _ _ F,J.keeps b.dI,s.keeps b.dI,λUu Vl mk=>?_⟩
 ·show UR.length<=sizeLine;rw[<-T.length,M];decide
 ·let⟨I,al,U,U⟩:=mk.there;exact e G R Vl Uu _ _ _ b mk.keeps mk.new al rfl rfl rfl rfl
end
def wM(UU:List Nat)(y:a5->az->Prop)(UA:a0->a0->Prop)(x:a5)(h:az):Prop:=(∃k N UO,bA h k x N/\N.Nodup/\UA k UO/\∀a P U8,c3 UU x a->bA P UO a U8->bk h N P U8->y a P)
def g0(a:aK)(UU:List Nat)(y:a5->az->Prop)(c4:List bz)(UA:a0->a0->Prop):Prop:=(gs a c4 λ_ x h=>wM UU y UA x h)
def kI(a:aK)(UU:List Nat)(y:a5->az->Prop)(d:bj)(UA:a0->a0->Prop):Prop:=(bU a d λx h W=>wM UU y UA x h)
def xD(a:aK)(UU:List Nat)(y:a5->az->Prop)(T:List bj)(UA:a0->a0->Prop):Prop:=(gD a T λx h W=>wM UU y UA x h)
section
variable{a:aK}{UU:List Nat}{y:a5->az->Prop}{UA:a0->a0->Prop}
def rS(c4:List bz):gs a c4 λ_ W W=>False:=λ_ W W W W W e=>e.elim
def MN{X:bz}{c4:List bz}{J:bt}(t:gG a UU X J)(z:g0 a UU y c4 UA):g0 a UU y (X::c4) λk UO=>∃UE,J k=Z (.aM,UE)/\UA UE UO:=
 nA (pN t z) λUv x h ⟨k,N,UO,X,ai,⟨UE,b,c⟩,i⟩=>⟨k,N,.aM,UE,X,ai,b,λm P U8 Vm d j=>⟨UE,U8,UO,d,j.ai,c,λe UT U6 f g l=>i e UT U6 (Vm.trans f) g<|j.seq l⟩⟩
def Si{n:bj}{g c c2:List bz}{VD:aE Bool}(b:hP a n VD)(d:g0 a UU y g UA):g0 a UU y (.If n g c UM::c2) λk UO=>∃UE,VD k=Z (aa,UE)/\UA UE UO:=
 nA (pN (Gm b d<|rS c)<|rS c2) λUv x h ⟨k,N,UO,X,ai,⟨UE,e,f⟩,i⟩=>⟨k,N,aa,UE,X,ai,e,λP U8 l j=>⟨UE,U8,UO,l,j.ai,f,λm UT U6 o p q=>i m UT U6 o p<|j.seq q⟩⟩
def Oi{E:aF}{w}{c2:List bz}(b:a.calm=aa)(c:ey a f)(e:a.ay f=Z (.ref aH))(p:Γ a.K aH [.type "ValueError",.type "Exception",.type "BaseException",.type "object"] "ValueError.__new__" = aa)(g:∀k x h,y x h->wg a aH k x h)(hd:(f==("__debug__" : aF))=aq:=by decide):
  g0 a UU y (.Raise (Z<|.Call (.Name f V3) [.Constant (.str E) w dA] [] VR) Y UM::c2) λk UO=>UO=k:=
 nA (pN (Ka b c e p hd)<|rS c2) λUv x h ⟨k,N,UO,X,ai,d,i⟩=>g _ x h (i x h N c3.refl (by rw[d];exact X)<|bk.perm ai<|List.Perm.refl _)
def Px(T:List bj):gD a T (λ_ W W=>False):=λ_ W W W W W W e=>e.elim
def PR(e:kI a UU y d UA)(UH:bK (d::T) a.env=(aq,b6 d a.env)::bK T a.env:=by rfl):xD a UU y (d::T) UA:=
 λUM G j x h A b C=>(so e (Px T) UH) UM G j x h A b C
def K9{c2:List bz}{VQ:Pos}(c:a.N.Nodup)(Uw:a.N[b]?=Z f)(e:jb a.env.scope f)(g:kI a UU y d UA)(UH:me d (Z<|.Name f VQ) UM.line a.env=pure aq:=by rfl)(h:a.fn f=aa\/a.env.scope.names.lookup f=Z .local:=by first|exact .inl rfl|exact .inr rfl|assumption):g0 a UU y (.Assign [.Name f VQ] d UM::c2) UA:=
 nA (pN (BQ c Uw e g UH h)<|rS c2) λ_ W W C=>C
def t2(s:Nat)(a:List ak->Prop)(aH:ae):kj:=(λS h W Uv=>S.length=s/\∃B N,eh h B S N/\N.Nodup/\a B/\∀P U8,bk h N P U8->Uv (.ref aH) Y P)
def nN(a:aK)(G:List (ae×a7))(c:ae):Prop:=(a.eK.heap.get? c=Y/\c≠a.env.locals/\(∀f n,a.env.cells.lookup f=Z n->n≠c)/\∀o∈a.gN++G,o.1≠c)
def tq{c:ae}(g:aG a G x h j)(s:j.heap.get? c=Y)(k:c∉a.ex):nN a G c:=by
 refine⟨?_,λd=>?_,λf n e d=>?_,λo l d=>?_⟩
 ·cases p:a.eK.heap.get? c with
  |none=>rfl
  |some m=>
   let⟨Vb,i⟩:=g.base.there c m p k;rw[s]at i;cases i
 ·let⟨E,⟨m,T,Vu,b,W⟩,W⟩:=g.loc;rw[<-d,s]at b;cases b
 ·let⟨u,m,b,W⟩:=g.cell f n e;rw[d,s]at b;cases b
 ·have:=(g.pin o l).1;rw[d,s]at this;cases this
def ky(a:aK)(G:List (ae×a7))(h:az)(e:aZ)(d aH:ae)(VG:af):Prop:=(h d=Y/\nN a G d/\∃Vw S F b U2,e.get? d=Z Vw/\(Vw.cls=.ref aH/\S[0]?=Z VG)/\Vw.data=.fields S/\S[1]?=Z (.ref F)/\F≠d/\e.get? F=Z b/\b.data=.fields U2/\U2[3]?=Z .none/\h F=Y/\nN a G F)
def qK(a:aK)(aH:ae)(x:a5)(P:az):Prop:=(∀(G:List (ae×a7)) (Ux:ao) (d:ae) (VG:af),aG a G x P Ux->ky a G P Ux.heap d aH VG->a.cL (.ref d) Ux)
def JT{v:List ak->Prop}{fd:gC}(N:gL a.prog a.w a.K a.ay a.base (lJ a.prog a.w) q L fd UJ (t2 s v aH))(an:ea q a.A)(ap:ey a f)(as:a.ay f=Z (.ref L))(a1:Θ a.K (.ref L)=aa)(z:ix a.K fd UJ [])(a2:a.ex=[])(bd:∀x h,y x h->qK a aH x h)(D:fm a (d::T) J)(be:(f==("__debug__" : aF))=aq:=by decide)(bi:bK (d::T) a.env=(aq,b6 d a.env)::bK T a.env:=by rfl)(bm:(fG UM<|bK T a.env).any (·.1)=aq:=by rfl):
  kI a UU y (.Call (.Name f o) (d::T) [] UM) λk UO=>∃UN UE B,J k=Z (UN,UE)/\UN.length=s/\ec UN UE=Z (B,UO)/\v B:=by
 intro G j x h A E ⟨k,bn,UO,X,ai,⟨UN,UE,B,t,bs,bv,ca⟩,i⟩;refine rj (tG E ap as ?_ be);refine yY (h₀:=a.base) E.ok.mod.pD a1 (bW (@D UM G j x h (λS UD=>t2 s v aH S UD (λ_ U=>False) λn U P=>n=.ref aH/\qK a aH x P) E ⟨k,bn,UN,UE,X,ai,t,λS UD UQ gl cd U0 l=>?_⟩) λUR l ⟨S,UD,b,r,p⟩=>⟨b.kd,?_⟩) bi bm
 ·let⟨U6,b3,R,ce,U5⟩:=lN cd U0 bv;have I:=l.jw (U5.symm.trans dy);refine⟨by rw[<-U0.length];exact bs,B,b3,ce,(dz.mp I.ai).1,ca,λal ch M=>⟨rfl,bd x al<|i x al U6 c3.refl ?_ ?_⟩⟩
  ·exact R.mono M.tup λg D m d=>M.keep g m d λz=>(dz.mp I.ai).2.2 g z g D rfl
  ·exact (I.trans M R.chg).less (aH:=ch) dy
 ·have ci:(UR++[]).length=UJ.length:=by rw[b_,<-r.length];exact N.len _ _ _ _ p
  have am:=z l UR b.kd ci;rw[b_]at am;refine wpAny_call (uu (N.run a.A a.stack l UD ⟨UR,[]⟩ UR S _ _ an b.By am r p) λVv Ux e=>?_);cases Vv with
  |error jY=>
   let⟨Vl,go,VG,P,rfl,cl,bare,un,aT,co,cr,cs,⟨au,db⟩⟩:=e;cases au;have aM:∀c:ae,c∉a.ex:=λc i=>by rw[a2]at i;cases i
   let⟨Vw,ds,F,dL,U2,eq,ev,fn,fr,f0,f1,f2,f4,f8,ga⟩:=cs;exact db G Ux Vl VG (b.FN (VI:=[]) cl un aT bare λc i=>by cases i) ⟨cr,tq b co<|aM _,Vw,ds,F,dL,U2,eq,ev,fn,fr,f1,f2,f4,f8,ga,tq b f0<|aM _⟩
  |ok aU=>
   cases aU with
   |ret H=>let⟨u,P,U,U,U,U,U,ar⟩:=e;exact False.elim ar
   |next=>exact False.elim e
   |brk=>exact False.elim e
   |cont=>exact False.elim e
end
section
variable{UB:bC}{C:bg}{Q:Φ}{ay:aF->Option af}{UC:aZ}
def Tz(k:kx)(x:a5)(h:az)(e:Uv (.ref aH) Y h):wg (h7 (lJ UB C) UB C Q ay UC UZ VA US L VP O U7 VF VW Uv) aH k x h:=
 λG j d Uu Vw S VG a q s b c hd t Vx=>Nl (Va:=j.toks) a q s b c hd t Vx e
def OT{X:bz}{fd:gC}{UA:a0->a0->Prop}(N:gV Q f VA X L fd)(UW:kb UZ UJ (dU X))(a:UJ.length=s)(b:∀(Vg:af) (O:bB) (U7:List d0) (j:ao) (h:az) (Uv:fF),ea q (O.deeper<|iD VA (dU X) j.heap.objs.size L Vg)->g0 (h7 (lJ UB C) UB C Q ay UC UZ VA (dU X) L Vg O U7 j h Uv) UU (λ_ P=>Uv (.ref aH) Y P) (g4 X) UA):
  gL UB C Q ay UC (lJ UB C) (q+1) L fd UJ (t2 s (λB=>∃UO,UA (B.map Z++replicate (UZ.length-s) Y) UO) aH):=by
 let⟨z,t,cM,k,U5,F,Vg,cG,V0,rfl,lk,c⟩:=N.ex;refine AJ lk c UW (λS h A Uv e=>e.1.trans a.symm) λO U7 j h S A Uv d e=>⟨_,b Vg O U7 j h Uv d,?_⟩;let⟨g,B,l,m,ai,⟨UO,n⟩,i⟩:=e;have X:=yZ (E:=UZ.length-s) m;have T:start UZ S=S.map Z++replicate (UZ.length-s) Y:=by unfold start;rw[g]
 rw[T];exact⟨_,l,UO,X,ai,n,λ_ P U8 W W j=>i P U8 j⟩
end
abbrev aK.hold(a:aK)(Uv:af->ao->Prop)(UJ:List (ae×a7)):aK:={a with cL:=Uv,gN:=a.gN++UJ}
section
variable{a:aK}{G p:List (ae×a7)}{x:a5}{h:az}{j:ao}{Uv:af->ao->Prop}
def aG.hold(b:aG a G x h j)(Uv:af->ao->Prop):aG (a.hold Uv G) [] x h j:=
 ⟨⟨b.ok.mod,b.ok.kind,b.ok.glob,b.ok.blt,b.ok.above,b.ok.inj,b.ok.has,b.ok.la,b.ok.hd,b.ok.frames,b.ok.mA,b.ok.oP,b.ok.bs,b.ok.je,b.ok.kA,b.ok.kv,b.ok.gI,b.ok.kl⟩,b.os,b.bare,b.base,b.loc,b.cell,b.free,b.gM,λo c=>b.pin o (by rw[b_]at c;exact c),b.aT,b.len⟩
def aG.kR(b:aG (a.hold Uv G) p x h j):aG a G x h j:=
 ⟨⟨b.ok.mod,b.ok.kind,b.ok.glob,b.ok.blt,b.ok.above,b.ok.inj,b.ok.has,b.ok.la,b.ok.hd,b.ok.frames,b.ok.mA,b.ok.oP,b.ok.bs,b.ok.je,b.ok.kA,b.ok.kv,b.ok.gI,b.ok.kl⟩,b.os,b.bare,b.base,b.loc,b.cell,b.free,b.gM,λo c=>b.pin o<|eG _ c,b.aT,b.len⟩
def jO.kR{k:kx}{L:Flow}{Ux:ao}(e:jO (a.hold Uv G) p k L Ux):jO a G k L Ux:=by
 cases L with
 |next=>let⟨b,P,c,p⟩:=e;exact⟨b,P,c.kR,p⟩
 |brk=>let⟨b,P,c,p⟩:=e;exact⟨b,P,c.kR,p⟩
 |cont=>let⟨b,P,c,p⟩:=e;exact⟨b,P,c.kR,p⟩
 |ret H=>let⟨u,b,P,c,r,p⟩:=e;exact⟨u,b,P,c.kR,r,p⟩
def OK{I:e2}(b:∀Uv o,gs (a.hold Uv o) VN I):hx a (.Try VN (Vx::UH) [] [] UM) I:=by
 intro G j x h k c e;refine HX (gS (b _ G [] j x h k (c.hold _) e) (λL f p=>?_) λd f i=>i);have p:=jO.kR p;cases L with
 |next=>exact pn p
 |brk=>exact p
 |cont=>exact p
 |ret H=>exact p
def Ru{J:bt}(b:∀Uv o,hX (a.hold Uv o) UU VN J):gG a UU (.Try VN (Vx::UH) [] [] UM) J:=OK λUv o=>b Uv o
variable{d:ae}
def aG.Am{F:ae}(b:aG a G x h j)(H:dq (di a.stack) [d,F] h h j.heap Uu)(aT:dt a.prog a.w h Uu)(s:∀c∈[d,F],a.eK.heap.get? c=Y/\c≠a.env.locals/\(∀f n,a.env.cells.lookup f=Z n->n≠c)/\∀o∈a.gN++G,o.1≠c):
  aG a G x h {j with heap:=Uu}:=by
 have ok:({a with ex:=[d,F]++a.ex}:aK).Ok:=by
  refine⟨b.ok.mod,b.ok.kind,b.ok.glob,b.ok.blt,b.ok.above,b.ok.inj,b.ok.has,b.ok.la,b.ok.hd,b.ok.frames,b.ok.mA,λc e=>?_,b.ok.bs,b.ok.je,λc m p e=>?_,λc e l=>?_,b.ok.gI,b.ok.kl⟩
  ·rcases dv.mp e with i|i
   ·exact⟨(s c i).2.1,(s c i).2.2.1⟩
   ·exact b.ok.oP c i
  ·rcases dv.mp e with i|i
   ·have:=(s c i).1;rw[(b.ok.bs c m p).1]at this;cases this
   ·exact b.ok.kA c m p i
  ·rcases dv.mp e with i|i
   ·let⟨W,m,q,W⟩:=b.ok.gI.mem l;rw[(s c i).1]at q;cases q
   ·exact b.ok.kv c i l
 have Vh:aG {a with ex:=[d,F]++a.ex} G x h j:=⟨ok,b.os,b.bare,b.base.mono (λ_ i=>i) λc i=>ei _ i,b.loc,b.cell,b.free,b.gM,b.pin,b.aT,b.len⟩;have k:=Vh.call (k:=j.gens) (Va:=j.toks) (t:=j.drawn) H aT Vh.bare λc e=>⟨.inl<|eG _ e,(s c e).2⟩;have aM:∀c m,a.eK.heap.get? c=Z m->c∉a.ex->c∉[d,F]++a.ex:=λc m p r e=>by
  rcases dv.mp e with i|i
  ·rw[(s c i).1]at p;cases p
  ·exact r i
 have aX:=k.base;exact⟨b.ok,k.os,k.bare,⟨λc m p g n v=>aX.keep c m p g n<|aM c m p v,λc m p g n v=>aX.slot c m p g n<|aM c m p v,λc m p g v=>aX.free c m p g<|aM c m p v,λc m p v=>aX.there c m p<|aM c m p v,aX.hY,aX.hv,aX.ic⟩,k.loc,k.cell,k.free,k.gM,k.pin,k.aT,k.len⟩
def OP{aE:gn}{A:ao->Prop}(k:aG a G x h j)(f:ky a G h j.heap d aH VG)(T:O.frames=Z a.stack)(l:a.stack=a.env::U7)(al:a.env.frame=Z Vz)(am:a.ex=[])(e:∀Uu,aG a G x h {j with heap:=Uu}->ky a G h Uu d aH VG->A {j with heap:=Uu}):wpAny aE O (noteFrame (.ref d) a.env) (λ_ an=>wpAny aE O (setFlight (.ref d) Y) (λ_ ap=>A ap) V2 an) V2 j:=by
 let⟨t,u,Vw,S,F,as,U2,a1,a2,bd,be,bi,bm,bn,bs,B,D⟩:=f;have o:j.heap.FunFrames a.base (a.env::U7):=l ▸ k.stack;have bv:∀c∈di (a.env::U7),h c=Y:=λc b=>k.qd c (l ▸ b);have ca:∀c∈d::F::di (a.env::U7),c∈di (a.env::U7)\/c∈[d,F]:=λc b=>by
  rcases bI.mp b with r|r
  ·rw[r];exact .inr (.head _)
  ·rcases bI.mp r with r|r
   ·rw[r];exact .inr (.tail _<|.head _)
   ·exact .inl r
 have cd:∀c∈d::F::di (a.env::U7),h c=Y:=λc b=>by
  rcases bI.mp b with r|r
  ·rw[r];exact t
  ·rcases bI.mp r with r|r
   ·rw[r];exact B
   ·exact bv c r
 refine wpAny_noteFrame_onW (base:=Δ j.heap (d::F::di (a.env::U7))) (T.trans (by rw[l])) (wk o λc b=>.tail _<|.tail _ b) al ⟨Vw,S,F,as,U2,a1,a2,bd,be,m7 _<|.tail _<|.head _,bi,bm,bn,bs⟩ (λc m p=>r5 _ p) (m7 _<|.head _) λz ⟨U3,U9,ce,ch⟩=>?_;refine C_ (s:={j with heap:=z}) U3 U9 ce λq bG U ci cl=>?_;have E:∀c m,j.heap.get? c=Z m->(∀S,m.data≠.fields S)->∃aY,q.get? c=Z {m with slots:=aY}:=λc m p v=>by
  let⟨aY,n⟩:=ch c m p v;exact⟨aY,cl c _ n v⟩
 let⟨H,co⟩:=vG (UB:=a.prog) (C:=a.w) (y:=[d,F]) o cd ca k.aT bG E;have Vh:aG a G x h {j with heap:=q}:=k.Am (l ▸ H) co λc b=>by
  rcases bI.mp b with r|r
  ·rw[r];exact u
  ·rw[cD.mp r];exact D
 let⟨cr,cs,g,db,I,ds,dL,eq,ev,J,L,M,N,fd⟩:=ci;have P:h g=Y/\nN a G g:=by
  by_cases i:g=F
  ·rw[i];exact⟨B,D⟩
  ·have s:j.heap.get? g=Y:=by
    cases p:j.heap.get? g with
    |none=>rfl
    |some m=>
     by_cases Q:g∈d::F::di (a.env::U7)
     ·rcases bI.mp Q with r|r
      ·exact absurd r L
      ·rcases bI.mp r with r|r
       ·exact absurd r i
       ·let⟨U,Vb,fn,R⟩:=o.mem r;let⟨aY,n⟩:=E g Vb fn R;rw[M]at n;cases n;exact absurd N (R I)
     ·rw[p5 _ p Q]at J;cases J
   exact⟨k.aT.gone s,tq k s (by rw[am];exact hs)⟩
 exact e q Vh ⟨t,u,cr,cs,g,db,I,ds,dL,eq,ev,L,M,N,fd,P.1,P.2⟩
end
section
variable{a:aK}{G:List (ae×a7)}{x:a5}{h:az}{j:ao}
variable{d:ae}
def TQ{aE:gn}(k:aG a G x h j)(f:ky a G h j.heap d aH VG)(l:a.stack=a.env::U7)(R:a.ex=[])(e:∀Uu,aG a G x h {j with heap:=Uu}->ky a G h Uu d aH VG->A () {j with heap:=Uu}):wpAny aE O (setFlight (.ref d) Y) A V2 j:=by
 let⟨q,t,Vw,S,F,T,U2,al,am,an,ap,as,a1,a2,bd,u,z⟩:=f;have n:j.heap.FunFrames a.base (a.env::U7):=l ▸ k.stack;have be:∀c∈di (a.env::U7),h c=Y:=λc b=>k.qd c (l ▸ b);have bi:∀c∈d::F::di (a.env::U7),c∈di (a.env::U7)\/c∈[d,F]:=λc b=>by
  rcases bI.mp b with r|r
  ·rw[r];exact .inr (.head _)
  ·rcases bI.mp r with r|r
   ·rw[r];exact .inr (.tail _<|.head _)
   ·exact .inl r
 have bm:∀c∈d::F::di (a.env::U7),h c=Y:=λc b=>by
  rcases bI.mp b with r|r
  ·rw[r];exact q
  ·rcases bI.mp r with r|r
   ·rw[r];exact u
   ·exact be c r
 refine C_ (base:=Δ j.heap (d::F::di (a.env::U7))) (λc m p=>r5 _ p) (wk n λc b=>.tail _<|.tail _ b) ⟨Vw,S,F,T,U2,al,am,an,ap,m7 _<|.tail _<|.head _,as,a1,a2,bd⟩ λo bG U bn bs=>?_;have B:∀c m,j.heap.get? c=Z m->(∀S,m.data≠.fields S)->∃aY,o.get? c=Z {m with slots:=aY}:=λc m p v=>⟨m.slots,bs c m p v⟩;let⟨H,bv⟩:=vG (UB:=a.prog) (C:=a.w) (y:=[d,F]) n bm bi k.aT bG B;have Vh:aG a G x h {j with heap:=o}:=k.Am (l ▸ H) bv λc b=>by
  rcases bI.mp b with r|r
  ·rw[r];exact t
  ·rw[cD.mp r];exact z
 let⟨ca,cd,g,ce,D,ch,ci,cl,co,E,I,J,L,cr⟩:=bn;have M:h g=Y/\nN a G g:=by
  by_cases i:g=F
  ·rw[i];exact⟨u,z⟩
  ·have s:j.heap.get? g=Y:=by
    cases p:j.heap.get? g with
    |none=>rfl
    |some m=>
     by_cases N:g∈d::F::di (a.env::U7)
     ·rcases bI.mp N with r|r
      ·exact absurd r I
      ·rcases bI.mp r with r|r
       ·exact absurd r i
       ·let⟨U,Vb,cs,P⟩:=n.mem r;let⟨aY,Q⟩:=B g Vb cs P;rw[J]at Q;cases Q;exact absurd L (P D)
     ·rw[p5 _ p N]at E;cases E
   exact⟨k.aT.gone s,tq k s (by rw[R];exact hs)⟩
 exact e o Vh ⟨q,t,ca,cd,g,ce,D,ch,ci,cl,co,I,J,L,cr,M.1,M.2⟩
abbrev aK.n9(a:aK)(UJ:List (ae×a7))(d:ae)(Vw:a7):aK:={a with A:=a.A.mark (Z<|.ref d),calm:=aq,cL:=λ_ _=>False,gN:=a.gN++(UJ++[(d,Vw)])}
def aG.n9(b:aG a G x h j)(f:ky a G h j.heap d aH VG)(e:j.heap.get? d=Z Vw):aG (a.n9 G d Vw) [] x h j:=by
 let⟨p,g,s,S,F,t,U2,k,v,q,W⟩:=f;rw[e]at k;cases k;refine⟨⟨b.ok.mod,b.ok.kind,b.ok.glob,b.ok.blt,b.ok.above,b.ok.inj,b.ok.has,b.ok.la,λi=>(by cases i),b.ok.frames,b.ok.mA,b.ok.oP,b.ok.bs,b.ok.je,b.ok.kA,b.ok.kv,b.ok.gI,b.ok.kl⟩,b.os,b.bare,b.base,b.loc,b.cell,b.free,b.gM,λo c=>?_,b.aT,b.len⟩;have c:o∈a.gN++(G++[(d,Vw)]):=by rw[b_]at c;exact c
 rw[<-bu]at c;rcases dv.mp c with i|i
 ·exact b.pin o i
 ·rw[cD.mp i];refine⟨e,p,g.2.1,λr=>?_,λu l=>?_⟩
  ·let⟨W,m,n,W⟩:=b.ok.gI.mem r;rw[g.1]at n;cases n
  ·rw[q]at l;cases l
def aG.vV(ok:a.Ok)(b:aG (a.n9 G d Vw) p x h j):aG a G x h j:=
 ⟨ok,b.os,b.bare,b.base,b.loc,b.cell,b.free,b.gM,λo c=>b.pin o (eG _ (show o∈a.gN++(G++[(d,Vw)]) by rw[<-bu];exact eG _ c)),b.aT,b.len⟩
end
def rq(Vp VD:bt):bt:=(λk=>match Vp k with
 |some r=>Z r
 |none=>VD k)
section
variable{a:aK}
def ky.kR{Uv:af->ao->Prop}{UJ:List (ae×a7)}{d:ae}(f:ky (a.hold Uv UJ) p h e d aH VG):ky a UJ h e d aH VG:=by
 have L:∀c,nN (a.hold Uv UJ) p c->nN a UJ c:=λc i=>⟨i.1,i.2.1,i.2.2.1,λo b=>i.2.2.2 o<|eG _ b⟩;let⟨g,j,Vw,S,F,k,U2,l,m,n,q,r,s,t,u,v,w⟩:=f;exact⟨g,L d j,Vw,S,F,k,U2,l,m,n,q,r,s,t,u,v,L F w⟩
end
end L2
namespace L2
open Spec PySem.Calls PyProof.Rows
end L2
namespace L2
open Spec PyProof.Rows
variable{aH:ae}{f:aF}{UM:Pos}{d:bj}
abbrev iv:=a0->Option a0
abbrev hj(r:iv):a0->a0->Prop:=λk UO=>r k=Z UO
def EV(J:bt)(r:iv):iv:=(λk=>match J k with
 |some (.aM,UE)=>r UE
 |_=>Y)
def Gz(n:aE Bool)(r:iv):iv:=(λk=>match n k with
 |some (aa,UE)=>r UE
 |_=>Y)
def wb(s:Nat)(a:List ak->Bool)(J:aE (List bN)):iv:=(λk=>(J k).bind λo=>if o.1.length=s then (ec o.1 o.2).bind λp=>if a p.1=aa then Z p.2 else Y else Y)
def mf(s E:Nat)(r:iv):List ak->Bool:=(λB=>(r<|B.map Z++replicate (E-s) Y).isSome)
section
variable{a:aK}{UU:List Nat}{y:a5->az->Prop}{UA D:a0->a0->Prop}{r:iv}
def yG{c4:List bz}(e:g0 a UU y c4 UA)(q:∀k UO,D k UO->UA k UO):g0 a UU y c4 D:=nA e λUv x h ⟨k,N,UO,X,ai,d,i⟩=>⟨k,N,UO,X,ai,q _ _ d,i⟩
def OW(e:kI a UU y d UA)(q:∀k UO,D k UO->UA k UO):kI a UU y d D:=en e λx h A ⟨k,N,UO,X,ai,d,i⟩=>⟨k,N,UO,X,ai,q _ _ d,i⟩
def Gt{X:bz}{c4:List bz}{J:bt}(t:gG a UU X J)(z:g0 a UU y c4 (hj r)):g0 a UU y (X::c4) (hj<|EV J r):=yG (MN t z) λk UO d=>by
 change (match J k with|some (.aM,UE)=>r UE|_=>Y)=Z UO at d;split at d
 ·rename_i UE e;exact⟨UE,e,d⟩
 ·cases d
def Oo{n:bj}{g c c2:List bz}{VD:aE Bool}(b:hP a n VD)(f:g0 a UU y g (hj r)):g0 a UU y (.If n g c UM::c2) (hj<|Gz VD r):=yG (Si b f) λk UO d=>by
 change (match VD k with|some (aa,UE)=>r UE|_=>Y)=Z UO at d;split at d
 ·rename_i UE e;exact⟨UE,e,d⟩
 ·cases d
def Md{E:aF}{w}{V3 dA VR:Pos}{c2:List bz}(b:a.calm=aa)(c:ey a f)(e:a.ay f=Z (.ref aH))(p:Γ a.K aH [.type "ValueError",.type "Exception",.type "BaseException",.type "object"] "ValueError.__new__" = aa)(g:∀k x h,y x h->wg a aH k x h)(hd:(f==("__debug__" : aF))=aq:=by decide):
  g0 a UU y (.Raise (Z<|.Call (.Name f V3) [.Constant (.str E) w dA] [] VR) Y UM::c2) (hj Z):=yG (Oi b c e p g hd) λk UO d=>(Option.some.inj d).symm
def MT{b:Nat}{c2:List bz}{VQ:Pos}(c:a.N.Nodup)(Uw:a.N[b]?=Z f)(e:jb a.env.scope f)(g:kI a UU y d (hj r))(UH:me d (Z<|.Name f VQ) UM.line a.env=pure aq:=by rfl)(h:a.fn f=aa\/a.env.scope.names.lookup f=Z .local:=by first|exact .inl rfl|exact .inr rfl|assumption):g0 a UU y (.Assign [.Name f VQ] d UM::c2) (hj r):=K9 c Uw e g UH h
end
def pX(UB:bC)(C:bg)(Q:Φ)(ay:aF->Option af)(UC:aZ)(q:Nat)(f:aF)(X:bz)(L:ae)(UJ:List aF)(s:Nat)(a:List ak->Bool)(aH:ae):Prop:=(
 ∃fd,gV Q f f X L fd/\ix Q fd UJ []/\ay f=Z (.ref L)/\gL UB C Q ay UC (lJ UB C) q L fd UJ (t2 s (λB=>a B=aa) aH))
section
variable{UB:bC}{C:bg}{Q:Φ}{ay:aF->Option af}{UC e:aZ}{q s:Nat}{f:aF}{X:bz}{L aH:ae}{UJ:List aF}
def Fh{UZ:List aF}{UU:List Nat}{r:iv}(N:dp Q ay f X L UJ)(UW:kb UZ UJ (dU X))(b:UJ.length=s)(e:UZ.Nodup->∀(Vg:af) (O:bB) (U7:List d0) (j:ao) (h:az) (Uv:fF),ea q (O.deeper<|iD f (dU X) j.heap.objs.size L Vg)->g0 (h7 (lJ UB C) UB C Q ay UC UZ f (dU X) L Vg O U7 j h Uv) UU (λ_ P=>Uv (.ref aH) Y P) (g4 X) (hj r)):
  pX UB C Q ay UC (q+1) f X L UJ s (mf s UZ.length r) aH:=
 have ⟨_,a,c,E⟩:=N
 ⟨_,a,c,E,by
  have:=OT a UW b (e UW.ai);have d:(λB:List ak=>∃UO,hj r (B.map Z++replicate (UZ.length-s) Y) UO)=λB=>mf s UZ.length r B=aa:=by
   funext B;exact propext (Gx.symm)
  rw[d]at this;exact this⟩
end
section
variable{a:aK}{UU:List Nat}{y:a5->az->Prop}
def Cc{s q E:Nat}{e:List ak->Bool}{L:ae}{X:bz}{UJ:List aF}{o:Pos}{T:List bj}{J:aE (List bN)}(N:pX a.prog a.w a.K a.ay a.base q f X L UJ s e aH)(g:ea E a.A)(i:ey a f)(j:a.ex=[])(l:∀x h,y x h->qK a aH x h)(m:fm a (d::T) J)(n:q<=E:=by decide)(p:(f==("__debug__" : aF))=aq:=by decide)(r:bK (d::T) a.env=(aq,b6 d a.env)::bK T a.env:=by rfl)(u:(fG UM<|bK T a.env).any (·.1)=aq:=by rfl):
  kI a UU y (.Call (.Name f o) (d::T) [] UM) (hj<|wb s e J):=by
 let⟨fd,v,c,E,N⟩:=N;refine OW (JT N (g.mono n) i E v.c8 c j l m p r u) λk UO d=>?_;let⟨⟨UN,UE⟩,t,z⟩:=bE.mp d;dsimp only at z;split at z
 ·rename_i D;let⟨⟨B,Vd⟩,F,b⟩:=bE.mp z;dsimp only at b;split at b
  ·rename_i G;cases b;exact⟨UN,UE,B,t,D,F,G⟩
  ·cases b
 ·cases z
def tw(Q:Φ)(ay:aF->Option af)(l:aF)(aH:ae):Prop:=(ay l=Z (.ref aH)/\Γ Q aH [.type "ValueError",.type "Exception",.type "BaseException",.type "object"] "ValueError.__new__" = aa)
end
end L2
namespace L2
open Spec PySem.Calls PyProof.Rows PySem.W
end L2
namespace L2
open Spec PySem.Calls PyProof.Rows
section
variable{a:aK}{UU:List Nat}{y:a5->az->Prop}{r:iv}
def SO{d:bj}{T:List bj}(e:kI a UU y d (hj r))(UH:bK (d::T) a.env=(aq,b6 d a.env)::bK T a.env:=by rfl):xD a UU y (d::T) (hj r):=PR e UH
end
end L2
namespace L2
open Spec PyProof.Rows
section
variable{aE:gn}{O:bB}{V2:af->ao->Prop}{j:ao}{UB:bC}{C:bg}{h:az}{UC:aZ}{U:d0}{U7:List d0}{Vz d F:ae}
def Nk{Vw n:a7}{S U2:Array af}{VG:af}{A:Unit->ao->Prop}(B:O.frames=Z (U::U7))(o:j.heap.FunFrames UC (U::U7))(D:U.frame=Z Vz)(E:j.heap.get? d=Z Vw)(G:S[0]?=Z VG)(I:Vw.data=.fields S)(J:S[1]?=Z (.ref F))(L:F≠d)(M:j.heap.get? F=Z n)(N:n.data=.fields U2)(P:U2[3]?=Z .none)(Q:h d=Y)(R:h F=Y)(T:∀c∈di (U::U7),h c=Y)(aT:dt UB C h j.heap)(e:∀Uu,dq (di (U::U7)) [d,F] h h j.heap Uu->dt UB C h Uu->(∃b f a l g,Uu.get? d=Z b/\(b.cls=Vw.cls/\f[0]?=Z VG)/\b.data=.fields f/\f[1]?=Z (.ref a)/\a≠d/\Uu.get? a=Z l/\l.data=.fields g/\g[3]?=Z .none/\(a=F\/j.heap.get? a=Y))->A () {j with heap:=Uu}):wpAny aE O (leaving U<|.ref d) A V2 j:=by
 have al:∀c∈d::F::di (U::U7),c∈di (U::U7)\/c∈[d,F]:=λc k=>by
  rcases bI.mp k with r|r
  ·rw[r];exact .inr (.head _)
  ·rcases bI.mp r with r|r
   ·rw[r];exact .inr (.tail _<|.head _)
   ·exact .inl r
 have am:∀c∈d::F::di (U::U7),h c=Y:=λc k=>by
  rcases bI.mp k with r|r
  ·rw[r];exact Q
  ·rcases bI.mp r with r|r
   ·rw[r];exact R
   ·exact T c r
 refine wpAny_leaving_nextW (base:=Δ j.heap (d::F::di (U::U7))) B (wk o λc k=>.tail _<|.tail _ k) D ⟨Vw,S,F,n,U2,E,⟨rfl,G⟩,I,J,m7 _<|.tail _<|.head _,L,M,N,P⟩ (λc m p=>r5 _ p) (m7 _<|.head _) λUu ⟨U3,_,an,q⟩=>?_;let⟨b,f,a,l,g,ap,as,a1,a2,s,t,u,v,bd⟩:=an;let⟨H,be⟩:=vG (UB:=UB) (C:=C) (y:=[d,F]) o am al aT U3 q;refine e Uu H be ⟨b,f,a,l,g,ap,as,a1,a2,t,u,v,bd,?_⟩;by_cases i:a=F
 ·exact .inl i
 ·refine .inr ?_;cases p:j.heap.get? a with
  |none=>rfl
  |some m=>
   by_cases w:a∈d::F::di (U::U7)
   ·rcases bI.mp w with r|r
    ·exact absurd r t
    ·rcases bI.mp r with r|r
     ·exact absurd r i
     ·let⟨K,Vb,bi,x⟩:=o.mem r;let⟨aY,z⟩:=q a Vb bi x;rw[u]at z;cases z;exact absurd v (x g)
   ·rw[p5 _ p w]at s;cases s
end
variable{d:bj}{UM:Pos}{L:ae}
def dq.outs{ar y:List ae}{VW h:az}{Vx t z:aZ}{Vz:ae}(g:dq ar [] VW h Vx t)(c:dq (Vz::ar) y h h t z)(e:∀n m,Vx.get? n=Z m->n≠Vz)(aM:∀n m,Vx.get? n=Z m->n∉y):dq ar [] VW h Vx z:=by
 have f:∀n m,Vx.get? n=Z m->n∉ar->n∉Vz::ar:=λn m p s i=>(bI.mp i).elim (e n m p) s;have VM:∀n:ae,n∉([]:List ae):=λn i=>by cases i
 refine⟨λn m p s a W=>c.keep n m (g.keep n m p s a<|VM n) (g.free n m p s<|VM n) (f n m p a)<|aM n m p,λn m p s a W=>?_,λn m p s W=>g.free n m p s<|VM n,λn m p W=>?_,λn y p=>c.hY n y<|g.hY n y p,λn m H p=>c.hv n m H<|g.hv n m H p,λn UJ p=>?_⟩
 ·let⟨aY,b⟩:=g.slot n m p s a (VM n);let⟨j,d⟩:=c.slot n _ b (g.free n m p s<|VM n) (.tail _ a) (aM n m p);exact⟨j,d⟩
 ·let⟨Vb,b⟩:=g.there n m p (VM n);exact c.there n Vb b (aM n m p)
 ·let⟨k,b⟩:=g.ic n UJ p;let⟨l,d⟩:=c.ic n _ b;exact⟨k++l,by rw[d,xQ]⟩
def Qf{UB:bC}{C:bg}{Q:Φ}{ay:aF->Option af}{UC:aZ}{UZ:List aF}{VA:aF}{US:ha}{VP:af}{O:bB}{U7:List d0}{VF:ao}{VW:az}{Uv:fF}{aH:ae}(x:a5)(h:az)(o:Uv (.ref aH) Y h):
  qK (h7 (lJ UB C) UB C Q ay UC UZ VA US L VP O U7 VF VW Uv) aH x h:=by
 intro G j d VG Vh f;let⟨b,c,Vw,S,F,a1,U2,t1,⟨VY,q⟩,t3,s,t,u,v,w,e,g⟩:=f;refine Nk (UC:=UC) (UB:=UB) (C:=C) (h:=h) (Vz:=VF.heap.objs.size) Vh.ok.frames Vh.stack rfl t1 q t3 s t u v w b e Vh.qd Vh.aT λz un A B=>?_;let⟨D,E,a,H,J,M,⟨N,P⟩,R,T,U,al,am,an,ap⟩:=B;have as:∀n m,VF.heap.get? n=Z m->∃Vb,j.heap.get? n=Z Vb:=λn m p=>Vh.base.there n m p λi=>by cases i
 have k:VF.heap.get? a=Y/\h a=Y:=by
  rcases ap with i|i
  ·rw[i];exact⟨g.1,e⟩
  ·refine⟨?_,Vh.aT.gone i⟩;cases p:VF.heap.get? a with
   |none=>rfl
   |some m=>
    let⟨Vb,l⟩:=as a m p;rw[i]at l;cases l
 refine⟨d,aH,VG,h,rfl,Vh.os,Vh.bare,?_,A,c.1,b,⟨D,E,a,H,J,M,⟨N.trans VY,P⟩,R,T,k.1,U,al,am,an,k.2⟩,o⟩;refine dq.outs (Vz:=VF.heap.objs.size) (y:=[d,F]) Vh.base un (λn m p=>d8<|cb p) λn m p i=>?_;rcases bI.mp i with r|r
 ·rw[r]at p;exact absurd (c.1.symm.trans p) ↥0
 ·rw[cD.mp r]at p;exact absurd (g.1.symm.trans p) ↥0
section
variable{a:aK}{UU:List Nat}{y:a5->az->Prop}{r:iv}
def Ti{s q E:Nat}{R:cP}{X:bz}{UJ:List aF}{f:aF}{o:Pos}{T:List bj}(aH:cq a.prog a.w a.K a.ay a.base q f X L UJ s R)(b:ea E a.A)(e:ey a f)(g:xD a UU y (d::T) (hj r))(h:q<=E:=by decide)(i:(f==("__debug__" : aF))=aq:=by decide)(j:bK (d::T) a.env=(aq,b6 d a.env)::bK T a.env:=by rfl)(k:(fG UM<|bK T a.env).any (·.1)=aq:=by rfl):
  kI a UU y (.Call (.Name f o) (d::T) [] UM) (hj r):=
 have ⟨_,l,c,E,N⟩:=aH
 en (DU N (b.mono h) e E l.c8 c .nil yC g i j k) λ_ W W C=>C
def J5{c2:List bz}(b:kI a UU y d (hj r)):g0 a UU y (.Return (Z d) UM::c2) (hj r):=
 nA (pN (Cf b)<|rS c2) λ_ W W C=>C
end
end L2
namespace L2
open Spec PySem.Calls PyProof.Rows
def LQ{UG:bC}{C:bg}(v:ae)(hd:(v==i3)=aq)(m:a7)(T:Array DictEntry)(Vu:Nat)(a:m.data=.dict T Vu):
  MeetsIn UG C (bw.«dict.__len__» ⟨[.ref v],[]⟩) (λ_ UA j=>j.heap.get? v=Z m/\UA (.ok<|.ret<|.int T.size j.toks) {j with toks:=j.toks+1}):=
 .of_wp λO UA j ⟨b,e⟩=>by
  show wpAny _ _ (dictSize v >>= _) _ _ j;unfold dictSize;refine aB (aB<|wd b a<|a_ ?_);show wpAny _ _ (bw.Dict.pendingCount v >>= _) _ _ j;refine aB (wpAny_pendingCount_other hd ?_);refine GU ?_;rw[CF];exact e
section
variable{a:aK}
def QK:eY a (.builtin "len") (λy h A=>∃g UK,y=[av.ref g]/\h g=Z (.aQ UK)/\A (.int UK.length) h):=by
 intro G j x h y UR A b r e;let⟨g,UK,rfl,f,p⟩:=e;let⟨H,rfl,k⟩:=iM r;cases k;let⟨i,hd,y,l,m,T,Vu,t,z,n,o,W⟩:=xR b.aT f;have c:j.TypeIs (.ref g) "dict" := ⟨m,t,z.1⟩;have d:T.size=UK.length:=by
  have q:T.toList.length=y.length:=by rw[o,bS]
  have s:=er.length l;rw[fW]at q;lia
 have u:(T.size:Int)<2^63:=by rw[d];rw[uM]at i;lia
 refine xV kind_len plain_len entry_len (args_len1 _) ?_;unfold bw.«len»;refine aB (m:=oneArg "len" _) (a_ ?_);refine aB (m:=callSpecial? (.ref g) (aF.ofString "__len__")) (kr (name:=aF.ofString "__len__") c Bp
  (call_meetsIn Bp c F.entry_dict_len (F.args_dict_len_1 _) (LQ g hd m T Vu n) ⟨t,?_⟩));show wpAny _ _ _ _ _ {j with toks:=j.toks+1};refine aB (iR<|a_ ?_);refine aB (kk ?_);show wpAny _ _ (if ((T.size:Nat):Int)<0 then _ else _) _ _ _;rw[aO (by omega)];show wpAny _ _ (if ((T.size:Nat):Int) >= 2^63 then _ else _) _ _ _;rw[aO (by omega)];refine aB (wpAny_mkInt (a_ ⟨_,rfl,.int UK.length,h,b.tok _,⟨_,by rw[d]⟩,p⟩))
@[simp] def pq:hN:=λB=>match B with
 |[.aQ f]=>Z (.im<|.int f.length)
 |_=>Y
def Gn:hn a (.builtin "len") pq:=by
 refine QK.imp λy h A ⟨B,v,c,d,p⟩=>?_;unfold pq at d;split at d
 ·cases d;let⟨u,rfl,W,o,U,rfl,t,z,W⟩:=gw c;exact⟨o,U,rfl,t,by rw[<-z.length];exact b7.i p rfl⟩
 ·cases d
end
end L2
namespace L2
open Spec PyProof.Rows
end L2
namespace L2
open Spec PyProof.Rows PySem.W
end L2
namespace L2
open Spec PyProof.Rows
abbrev jd(y:Array Nat):Prop:=y.toList.Pairwise (· < ·)
end L2
namespace L2
open Spec PyProof.Rows PySem.W
end L2
namespace L2
open Spec PyProof.Rows
def sY:fM:=(λg c=>match g,c with
 |.im f,.im l=>if eA 6 f l=aa then Z (.im<|.aC<|a9 f l) else Y
 |_,_=>Y)
section
variable{a:aK}
def Hy(q:a.A.units+20<b9):fa a (dW .Lt) sY:=by
 intro G j x h f l u H A c e g k;let⟨U_,Vi,@v,m,n,d,p⟩:=k;unfold sY at d;split at d
 ·split at d
  ·rename_i o;cases d;exact yH 6 o ⋯ (m.i.fp c.aT e) (n.i.fp c.aT g) a.prog a.w _ _ ⟨.aC _,h,c,rfl,b7.i p rfl⟩
  ·cases d
 ·cases d
end
end L2
namespace G
open L2
def PN:bt:=((cy<|gK<|eO (bx<|mT "int"<|ag 0)<|bx<|gK<|fK<|bx<|mT "bool"<|ag 0))
def pz:cP:=(c5 1 1 [0] PN)
def Ib:bt:=((cy<|gK<|eO (bx<|mT "tuple"<|ag 0)<|eO (bx<|aw es (V<|bR eo<|aj (ag 0) aA)<|V<|au<|.int 2)<|eO (bx<|bh 1 G.pz<|aj (V<|aw a4 (ag 0)<|V<|au<|.int 0) aA)<|bx<|bh 1 G.pz<|aj (V<|aw a4 (ag 0)<|V<|au<|.int 1) aA))
def k0:cP:=(c5 1 1 [0] Ib)
def HL:bt:=((cy<|gK<|eO (bx<|bh 1 G.k0<|aj (ag 0) aA)<|eO (bx<|gF e5 e5 (V<|au<|.int 0) (V<|aw a4 (ag 0)<|V<|au<|.int 0)<|V<|au<|.int 30)<|bx<|gF e5 e5 (V<|au<|.int 0) (V<|aw a4 (ag 0)<|V<|au<|.int 1)<|V<|au<|.int 30))
def j4:cP:=(c5 1 1 [0] HL)
def sU(a:ae):aE ak:=((qG 1 a 1 G.j4<|aj (ag 0) aA))
def BI(a:ae):aE ak:=((aw sY (ag 0)<|ag 1))
def DA(a:ae):bt:=((bL (d3 (iT (fK<|f5<|V<|mT "tuple"<|ag 0)<|fK<|f5<|V<|bR hZ<|aj (V<|de 1 [1] (dD<|ag 0) (bb 0) d5<|G.sU a) aA) (cy<|au<|.aC aq) eX)<|cy<|bR hZ<|aj (V<|de 2 [] (jW<|aj (ag 0)<|aj (V<|gj (ag 0) (ht<|au<|.int 1) gX) aA) (d6 2<|cc (bb 0)<|cc (bb 1) eb) d5<|G.BI a) aA))
def rz(a:ae):cP:=(c5 2 2 [0,1] (DA a))
def Dd(a:ae):bt:=((cy<|bh 2 (G.rz a)<|aj (ag 0)<|aj (V<|au<|.fn a) aA))
def qB(a:ae):cP:=(c5 1 1 [0] (Dd a))
def mu:bt:=((fE (au<|.aC aa)<|jE 1 (fO 2) hI))
def vb:bt:=((bL (cj 1 wN)<|bL (gv (dD<|ag 0) (bb 2) G.mu)<|cy<|fO 1))
def gE:cP:=(c5 1 3 [0] vb)
def Oy:bt:=((bL (cj 1<|aw a4 (ag 0)<|V<|au<|.int 0)<|bL (cj 2<|aw a4 (ag 0)<|V<|au<|.int 1)<|cy<|eC<|aj (V<|cY<|aj (V<|aw iy (ag 1)<|V<|au<|.int 1)<|aj (ag 2) aA)<|aj (V<|cY<|aj (ag 1)<|aj (V<|aw iy (ag 2)<|V<|au<|.int 1) aA)<|aj (V<|cY<|aj (ag 1)<|aj (V<|aw dg (ag 2)<|V<|au<|.int 1) aA)<|aj (V<|cY<|aj (V<|aw dg (ag 1)<|V<|au<|.int 1)<|aj (ag 2) aA) aA))
def sk:cP:=(c5 1 3 [0] Oy)
def uz:aE ak:=((bh 2 G.n5<|aj (ag 1)<|aj (ag 0) aA))
def An:bt:=((bL (cj 1<|bh 1 G.gE<|aj (V<|de 1 [0] (dD<|ag 0) (bb 0) d5 G.uz) aA)<|bL (d3 (bx<|aw eV (V<|bR eo<|aj (ag 0) aA)<|V<|aw el (V<|aw el (V<|bR pq<|aj (ag 1) aA)<|V<|au<|.int 2)<|V<|au<|.int 2) DW eX)<|cy<|bR jv<|aj (V<|bR fk<|aj (ag 1) aA) aA))
def kc:cP:=(c5 1 2 [0] An)
def pv:iv:=((EV (cj 1<|bh 1 G.gE<|aj (V<|de 1 [0] (dD<|ag 0) (bb 0) d5 G.uz) aA)<|Gz (bx<|aw eV (V<|bR eo<|aj (ag 0) aA)<|V<|aw el (V<|aw el (V<|bR pq<|aj (ag 1) aA)<|V<|au<|.int 2)<|V<|au<|.int 2) Z))
end G
namespace dw
def jY{U1:Type}:List U1->List U1
 |[]=>[]
 |[g]=>[g]
 |g::_::r=>g::jY r
open Spec PyProof.Rows
end dw
namespace L2
open Spec PyProof.Rows
end L2
namespace G
open L2
variable{O T Uy:List ba}{U0 U x:Option ak}{D ar:List aD}{UE k:a0}{v:ab}{c m:aD}{s:Nat}
def rW:bt:=((d3 (eO (bx<|aw ie (ag 4)<|ag 0)<|bx<|aw mc (ag 4)<|ag 2) (bL (fE (au<|.aC aa)<|jE 2 (fO 4) hI)<|jg<|gu iP 3 hW<|aj (ag 4) aA) eX))
def GA:aE Bool:=((f5<|ag 3))
def u9:bt:=((gv (dD<|V<|bh 1 G.sk<|aj (V<|gu iP 3 z2 aA) aA) (bb 4) G.rW))
def Dg:bt:=((bL (cj 2<|B6 (fO 1)<|au<|.aC aa)<|bL (cj 3<|eC<|aj (ag 1) aA)<|bL (jV G.GA G.u9 1000000)<|cy<|bR jv<|aj (V<|bR fk<|aj (ag 2) aA) aA))
def oR:cP:=(c5 2 5 [0,1] Dg)
def DK(a:ae):bt:=((bL (d3 (iT (fK<|f5<|V<|bh 1 (G.qB a)<|aj (ag 0) aA)<|bx<|aw es (V<|bR eo<|aj (ag 0) aA)<|V<|au<|.int 0) (cy<|au<|.aC aq) eX)<|cy<|aw es (V<|bR eo<|aj (V<|bh 2 G.oR<|aj (V<|bh 1 G.gE<|aj (ag 0) aA)<|aj (V<|aw a4 (ag 0)<|V<|au<|.int 0) aA) aA)<|V<|bR eo<|aj (ag 0) aA))
def l6(a:ae):cP:=(c5 1 1 [0] (DK a))
def MW:bt:=((cy<|gK<|eO (bx<|mT "tuple"<|ag 0)<|eO (bx<|aw es (V<|bR eo<|aj (ag 0) aA)<|V<|au<|.int 2)<|eO (bx<|bh 1 G.k0<|aj (V<|aw a4 (ag 0)<|V<|au<|.int 0) aA)<|bx<|bh 1 G.k0<|aj (V<|aw a4 (ag 0)<|V<|au<|.int 1) aA))
def mG:cP:=(c5 1 1 [0] MW)
def ym(a:ae):aE ak:=((qG 1 a 1 G.mG<|aj (ag 0) aA))
def GV(a:ae):aE ak:=((aw sY (ag 0)<|ag 1))
def Ir(a:ae):bt:=((bL (d3 (iT (fK<|f5<|V<|mT "tuple"<|ag 0)<|fK<|f5<|V<|bR hZ<|aj (V<|de 1 [1] (dD<|ag 0) (bb 0) d5<|G.ym a) aA) (cy<|au<|.aC aq) eX)<|cy<|bR hZ<|aj (V<|de 2 [] (jW<|aj (ag 0)<|aj (V<|gj (ag 0) (ht<|au<|.int 1) gX) aA) (d6 2<|cc (bb 0)<|cc (bb 1) eb) d5<|G.GV a) aA))
def pY(a:ae):cP:=(c5 2 2 [0,1] (Ir a))
def wY:aE ak:=((cY<|aj (ag 2)<|aj (ag 0) aA))
def wZ:aE Bool:=((bx<|aw ie (ag 0)<|ag 1))
def sO:bt:=((bL (cj 4<|eC<|aj (V<|cY<|aj (V<|aw a4 (ag 3)<|V<|au<|.int 0)<|aj (V<|aw dg (V<|aw a4 (ag 3)<|V<|au<|.int 1)<|V<|au<|.int 2) aA)<|aj (V<|cY<|aj (V<|aw dg (V<|aw a4 (ag 3)<|V<|au<|.int 0)<|V<|au<|.int 2)<|aj (V<|aw a4 (ag 3)<|V<|au<|.int 1) aA) aA)<|jg<|gu iP 2 nE<|aj (V<|de 1 [1,3] (dD<|ag 4) (bb 0) G.wZ G.wY) aA))
def Bs:bt:=((bL (cj 1<|bh 1 G.gE<|aj (ag 0) aA)<|bL (cj 2<|eC aA)<|bL (gv (dD<|ag 0) (bb 3) G.sO)<|cy<|fO 2))
def qc:cP:=(c5 1 5 [0] Bs)
def q3:bt:=((fE (fO 3)<|jE 2 (fO 3) hI))
def rU:bt:=((d3 (bx<|aw es (V<|aw a4 (ag 2)<|ag 3)<|ag 7) (fE (fO 6)<|jE 2 (fO 3) hI) eX))
def rA:bt:=((bL (cj 6<|aw a4 (ag 2)<|V<|aw a4 (ag 5)<|V<|au<|.int 0)<|bL (cj 7<|aw a4 (ag 2)<|V<|aw a4 (ag 5)<|V<|au<|.int 1)<|d3 (bx<|aw eV (ag 6)<|ag 7) (bL (jg<|gu iP 4 hW<|aj (ag 5) aA)<|gv (dD<|ag 0) (bb 3) G.rU) eX))
def DR:bt:=((bL (cj 2 wN)<|bL (gv (dD<|ag 0) (bb 3) G.q3)<|bL (cj 4<|eC aA)<|bL (gv (dD<|ag 1) (bb 5) G.rA)<|cy<|bR jv<|aj (V<|bR fk<|aj (ag 4) aA) aA))
def uA:cP:=(c5 2 8 [0,1] DR)
def Ci:bt:=((cy<|bh 2 G.uA<|aj (ag 0)<|aj (V<|aw dg (V<|bR r9<|aj (ag 1) aA)<|V<|bh 1 G.qc<|aj (ag 0) aA) aA))
def nG:cP:=(c5 2 2 [0,1] Ci)
def FE:bt:=((cy<|bh 2 G.nG<|aj (V<|bh 1 G.kc<|aj (ag 0) aA)<|aj (V<|cY aA) aA))
def ob:cP:=(c5 1 1 [0] FE)
def Qr:iv:=((wb 1 (mf 1 2 G.pv)<|aj (ag 0) aA))
def ro(g c:aD):Prop:=(g.1<c.1\/(g.1=c.1/\g.2<c.2))
def H0{M:List aD}:jd M↔M.Pairwise ro:=by
 unfold jd;rw[t7];constructor
 ·exact λe=>e.imp λ{g c} i=>nk.mp i
 ·exact λe=>e.imp λ{g c} i=>nk.mpr i
def GO(g:aD):g∈eW g:=.head _
def Nq(m:aD)(UY:List aD):Prop:=(∀c∈UY,(c.1-m.1)%2=0/\(c.2-m.2)%2=0)
abbrev hd(v j I:Int):ak:=.lst [.int v,.int j,.int I]
def iX{E:Nat}(e:Nat.ble (s+1) E=aa):s<E:=gT e
abbrev du(c:Bool):ak:=.im (.aC c)
def gg(Uy:List (Int×Int))(n:Int×Int):List (Int×Int):=(if n∈Uy then Uy else Uy++[n])
def Hu(Uy:List (Int×Int))(n:Int×Int):g_ (bD Uy) (dS n) (.aC aa)=bD (gg Uy n):=by
 unfold gg;by_cases e:n∈Uy
 ·rw[aJ e];unfold g_;rw[aJ (by rw[xj];simpa using e)];unfold bD;rw[gr];refine q2 λf W=>?_;show (if dS f=dS n then (dS f,ab.aC aa) else (dS f,ab.aC aa))=_;split<;>rfl
 ·rw[aO e];exact O9 e
def SX{b:Nat}{f:ab}(e:(iF 0 s)[b]?=Z f):b<s/\f=.int (0+(b:Int)):=by
 have Uw:b<s:=by
  have:=(gp.mp e).1
  rwa [iF,bS,i0]at this
 rw[iF,gy,yV Uw]at e;exact⟨Uw,(Option.some.inj e).symm⟩
abbrev zH(e:ak)(U0:Option ak)(a b c d f:Int)(Uy:List (Int×Int))(B g h i j k:Option ak):a0:=[Z e,U0,Z<|aI a,Z<|aI b,Z<|aI c,Z<|aI d,Z<|aI f,Z<|.aQ<|bD Uy,B,g,h,i,j,k]
def iB(cs:List (Int×Int)):Prop:=(cs.Pairwise λg c=>a9 (ah g) (ah c)=aa)
def LB{Uy:List (Int×Int)}(ai:Uy.Nodup)(a:Uy.length<=1000):∃cs:List (Int×Int),ij a9 (Uy.map ah)=cs.map ah/\cs.Perm Uy/\iB cs:=by
 have m:=uw ai a;let⟨@cs,t,z⟩:=C4 (jc<|Uy.map ah);refine⟨cs,z,t,?_⟩;have:=pI m.ord.ai m.ord.jF;rw[z]at this;exact t7.mp this
abbrev b2:=Int×Int
variable{C L:List b2}{j g n f:b2}{o:List b2×List b2}
theorem xe(x:Option ak):∀(cs Uy:List b2) (a:Option ak),Uy.length+cs.length<100000->∃b,dK (bb 2) mu (cs.map ah) [x,Z<|.aQ<|bD Uy,a]=Z (.aM,[x,Z<|.aQ<|bD<|cs.foldl gg Uy,b])
 |[],Uy,a,_=>⟨a,rfl⟩
 |n::cs,Uy,a,c=>by
  have e:hI (.aQ<|bD Uy) (.im<|.tup<|dS n) (du aa)=Z (.aQ<|bD<|gg Uy n):=by
   rw[<-Hu];exact aJ ⟨rfl,by unfold bD;rw[bS];rw[dT]at c;lia⟩
  have i:(gg Uy n).length<=Uy.length+1:=by
   unfold gg;split
   ·lia
   ·rw[d7];exact bT _
  let⟨@b,f⟩:=xe x cs (gg Uy n) (Z<|.im<|ah n) (by rw[dT]at c;lia);refine⟨b,?_⟩;have d:mu [x,Z<|.aQ<|bD Uy,Z<|.im<|ah n]=Z (.aM,[x,Z<|.aQ<|bD<|gg Uy n,Z<|.im<|ah n]):=by
   unfold mu;refine iY rfl ?_;show (hI (.aQ<|bD Uy) (.im<|.tup<|dS n)<|du aa).map _=_;rw[e];rfl
  rw[cK,dK];show (mu [x,Z<|.aQ<|bD Uy,Z<|.im<|ah n]).bind _=_;rw[d];exact f
theorem Ax:∀(cs Uy:List b2),(Uy++cs).Nodup->cs.foldl gg Uy=Uy++cs
 |[],Uy,_=>by rw[b_];rfl
 |n::cs,Uy,ai=>by
  have a:n∉Uy:=λe=>by
   have:=(dz.mp ai).2.2 n e n (.head _);exact this rfl
  rw[mU,gg,aO a,Ax cs (Uy++[n]) (by rw[bu];exact ai),bu];rfl
def xE{cs:List b2}(ai:cs.Nodup)(b:cs.length<10000):gE [aL cs]=Z (.aQ<|bD cs,[aL cs]):=by
 let⟨@m,a⟩:=xe (Z<|aL cs) cs [] Y (by show 0+_<_;lia);rw[Ax cs [] ai]at a;unfold gE vb;refine fD (k:=[Z (aL cs),Z .dd,m]) rfl (cR (UE:=[Z (aL cs),Z<|.aQ [],Y]) rfl<|cR (jz (m:=Y) rfl a rfl) rfl) rfl
def hU(n:b2):List b2:=([(n.1-1,n.2),(n.1,n.2-1),(n.1,n.2+1),(n.1+1,n.2)])
def Gi(n:b2):sk [.im (ah n)]=Z (a3<|hU n,[.im (ah n)]):=rfl
def tk(Uy:List b2)(n:b2):ie (.im<|ah n) (.aQ<|bD Uy)=Z (du<|decide (n∈Uy)):=by
 rw[<-Tn];rfl
theorem z7:∀(M Uy:List aD),Uy.Nodup->(M.foldl gg Uy).Nodup/\∀n,n∈M.foldl gg Uy↔n∈Uy\/n∈M
 |[],Uy,ai=>⟨ai,λn=>by simp⟩
 |f::M,Uy,ai=>by
  have t:(gg Uy f).Nodup/\∀n,n∈gg Uy f↔n∈Uy\/n=f:=by
   unfold gg;split
   ·rename_i e;exact⟨ai,λn=>⟨.inl,λi=>i.elim id λd=>by rw[d];exact e⟩⟩
   ·rename_i e;refine⟨dz.mpr ⟨ai,by simp,λg a c b=>?_⟩,λn=>by simp⟩;rw[cD.mp b];exact λd=>e (d ▸ a)
  let⟨g,c⟩:=z7 M (gg Uy f) t.1;refine⟨g,λn=>?_⟩;rw[mU,c n,t.2 n,bI,or_assoc]
def dI(m:aD)(ar:List aD):List aD:=((ar.map<|aC m).foldl gg [])
theorem za(m:aD)(ar:List aD):(dI m ar).Nodup:=(z7 _ [] .nil).1
def Ih:c∈dI m ar↔∃n∈ar,aC m n=c:=by
 unfold dI;rw[(z7 _ [] .nil).2 c,ew];simp
def Iw{n:aD}(e:(c.1-m.1)%2=0/\(c.2-m.2)%2=0)(a:n∈eW c):aC m n=c:=by
 have:=vS.mp a;unfold aC;exact eD (by dsimp only;omega) (by dsimp only;omega)
def NH{UW:List aD}(o:ar.Perm (cells UW))(ai:UW.Nodup)(jY:Nq m UW):(dI m ar).Perm UW:=by
 refine (Fp (za m ar) ai).mpr λc=>?_;rw[Ih];constructor
 ·rintro⟨n,b,rfl⟩;let⟨j,UH,d⟩:=mm.mp (o.mem_iff.mp b);rw[Iw (jY j UH) d];exact UH
 ·exact λa=>⟨c,o.mem_iff.mpr<|mm.mpr ⟨c,a,GO c⟩,Iw (jY c a)<|GO c⟩
def Q2{cs:List aD}(b:cs.length<10000):gE [a3 cs]=Z (.aQ<|bD<|cs.foldl gg [],[a3 cs]):=by
 let⟨m,a⟩:=xe (Z .dd) cs [] Y (by show 0+_<_;lia);unfold gE vb;refine fD (k:=[Z (a3 cs),Z .dd,m]) rfl (cR (UE:=[Z (a3 cs),Z<|.aQ [],Y]) rfl<|cR (jz (m:=Z (0,a3 cs)) (UE:=[Z .dd,Z<|.aQ [],Y]) rfl a rfl) rfl) rfl
def Lv(Uy:List aD):pq [.aQ (bD Uy)]=Z (aI (Uy.length:Int)):=by
 show Z (aI (((bD Uy).length:Nat):Int))=_;rw[bD,bS]
def TU(m:aD)(ar:List aD):(dI m ar).length<=ar.length:=by
 have j:∀c∈dI m ar,c∈ar.map (aC m):=λc a=>by
  let⟨n,b,d⟩:=Ih.mp a;exact ew.mpr ⟨n,b,d⟩
 have:=(za m ar).length_le_of_subset j
 rwa [bS]at this
def Tc(a:ar[0]?=Z m)(d:ar.length<=1000):
  cj 1 (bh 1 G.gE<|aj (V<|de 1 [0] (dD<|ag 0) (bb 0) d5 G.uz) aA) [Z (aL ar),Y]=Z (.aM,[Z (aL ar),Z<|.aQ<|bD<|dI m ar]):=by
 have b:de 1 [0] (dD<|ag 0) (bb 0) d5 G.uz [Z (aL ar),Y]=Z (a3<|ar.map<|aC m,[Z (aL ar),Y]):=by
  refine (nX (y:=ar.map ah) (m:=Y) (UE:=[Z (aL ar),Y]) rfl (jr _ (λn=>ah<|aC m n) ar (λn e=>?_) ⋯)).trans ?_
  ·exact⟨[Z (.im<|ah n),Z<|aL ar],_,[Z (.im<|ah n),Z<|aL ar],rfl,rfl,c0 (UN:=[.aY 1,.aY 0]) rfl rfl rfl (Hi a) rfl,rfl⟩
  ·show Z (ak.lst _,_)=Z (ak.lst _,_);rw[gr];rfl
 have c:=Q2 (cs:=ar.map (aC m)) (by rw[bS];lia);exact kL (c0 (UN:=[.cB (a3<|ar.map<|aC m)]) (bV (aW b) rfl) rfl rfl c rfl) (iX rfl) rfl
def Tv{Uy:List aD}(t:ar.length<=1000)(z:Uy.length<=1000):
  bx (aw eV (V<|bR eo<|aj (ag 0) aA)<|V<|aw el (V<|aw el (V<|bR pq<|aj (ag 1) aA)<|V<|au<|.int 2)<|V<|au<|.int 2) [Z (aL ar),Z<|.aQ<|bD Uy]=Z (!decide (ar.length=4*Uy.length),[Z (aL ar),Z<|.aQ<|bD Uy]):=by
 have d:decide ((ar.length:Int)=(Uy.length:Int)*2*2)=decide (ar.length=4*Uy.length):=by
  rw[lD];lia
 rw[<-d];exact d1 (bY (aW<|et (bV rfl rfl) rfl<|rE ar) (aW (bY (aW (bY (aW<|et (bV rfl rfl) rfl<|Lv Uy) rfl rfl rfl (iK (mr ∅ ∅)))) rfl rfl rfl (iK (mr ∅ ∅)))) rfl rfl<|QB _ _)
def Pa(c:ar[0]?=Z m)(a:ar.length<=1000)(e:ar.length=4*(dI m ar).length):∃O,kc [aL ar]=Z (aL O,[aL ar])/\O.Perm (dI m ar)/\jd O:=by
 have z:=TU m ar;let⟨O,U5,T,Vv⟩:=zC (za m ar) ⋯;refine⟨O,?_,U5,Vv⟩;have b:=Tv (ar:=ar) (Uy:=dI m ar) a ⋯;rw[df e]at b;have UH:fk [.aQ (bD<|dI m ar)]=Z (a3 O):=by
  show g9 ((bD<|dI m ar).map λo=>.tup o.1)=_;rw[bD,gr];exact T
 unfold kc An;exact fD (k:=[Z (aL ar),Z<|.aQ<|bD<|dI m ar]) rfl (cR (Tc c a)<|cR (gZ b rfl)<|d_<|sS<|et (bV rfl rfl) rfl UH) rfl
def rt(v:ab):Prop:=(∀g,v≠.fn g)
def p1(v:ab):Prop:=(rt v/\∀T,v=.tup T->∀l∈T,rt l)
def uD(v:ab):Prop:=(rt v/\∀B,v=.tup B->B.length<=290/\∀f∈B,p1 f)
def mn:ab->Bool
 |.int _=>aa
 |_=>aq
def Dw(e:rt v):pz [.im v]=Z (du<|mn v,[.im v]):=by
 cases v with
 |fn g=>exact absurd rfl (e g)
 |_=>rfl
def qT:ab->Bool
 |.tup [g,c]=>mn g&&mn c
 |_=>aq
def Hl(e:mn v=aa):∃b,v=.int b:=by
 cases v with
 |int b=>exact⟨b,rfl⟩
 |_=>cases e
def N5(e:p1 v):k0 [.im v]=Z (du<|qT v,[.im v]):=by
 cases v with
 |fn g=>exact absurd rfl (e.1 g)
 |tup B=>
  unfold k0 Ib
  match B,e with
  |[],_=>rfl
  |[g],_=>rfl
  |[g,c],e=>
   have f:=Dw (e.2 _ rfl g<|.head _);have h:=Dw (e.2 _ rfl c<|.tail _<|.head _);refine fD (k:=[Z (.im<|.tup [g,c])]) rfl (d_<|sy<|kM (d1 rfl)<|kM (d1 rfl) ?_) rfl;show _=Z (mn g&&mn c,_);have a:bx (bh 1 G.pz<|aj (V<|aw a4 (ag 0)<|V<|au<|.int 0) aA) [Z (.im<|.tup [g,c])]=Z (mn g,[Z (.im<|.tup [g,c])]):=d1 (c0 (bV (aW<|bY (v:=.im g) rfl rfl rfl rfl rfl) rfl) rfl rfl f rfl);have i:bx (bh 1 G.pz<|aj (V<|aw a4 (ag 0)<|V<|au<|.int 1) aA) [Z (.im<|.tup [g,c])]=Z (mn c,[Z (.im<|.tup [g,c])]):=d1 (c0 (bV (aW<|bY (v:=.im c) rfl rfl rfl rfl rfl) rfl) rfl rfl h rfl);cases b:mn g with
   |false=>rw[b]at a;exact qt a
   |true=>rw[b]at a;exact kM a i
  |g::c::n::r,_=>
   have d:es (aI ((g::c::n::r).length:Int)) (aI 2)=Z (du aq):=(nU _ _).trans (congrArg (λc=>Z<|du c) (ep (by rw[dT,dT,dT];lia)));exact fD (k:=[Z (.im<|.tup (g::c::n::r))]) rfl (d_<|sy<|kM (d1 rfl)<|qt<|d1<|bY (aW<|et (bV rfl rfl) rfl rfl) rfl rfl rfl d) rfl
 |_=>rfl
def C5{Vd F:a0}{L Q:fM}{VB Vp VD:aE bN}{f l i:bN}{U_ Vi a b:ak}{c d:Bool}(e:VB k=Z (f,UE))(g:Vp UE=Z (l,Vd))(h:dn Vd f=Z U_)(j:dn Vd l=Z Vi)(m:L U_ Vi=Z (du c))(n:VD Vd=Z (i,F))(o:dn F l=Z a)(p:dn F i=Z b)(q:Q a b=Z (du d))(r:F=Vd):gF L Q VB Vp VD k=Z (du<|c&&d,Vd):=by
 subst r;unfold gF;rw[e];show (Vp UE).bind _=_;rw[g];show (dn F f).bind _=_;rw[h];show (dn F l).bind _=_;rw[j];show (L U_ Vi).bind _=_;rw[m];cases c
 ·rfl
 ·show (VD F).bind _=_;rw[n];show (dn F l).bind _=_;rw[o];show (dn F i).bind _=_;rw[p];show (Q a b).bind _=_;rw[q];rfl
def iH:ab->Bool
 |.tup [.int b,.int w]=>(decide (0<=b)&&decide (b<=30))&&(decide (0<=w)&&decide (w<=30))
 |_=>aq
def y0(e:iH v=aa):∃n:Int×Int,v=ah n/\0<=n.1/\n.1<=30/\0<=n.2/\n.2<=30:=by
 unfold iH at e;split at e
 ·next b w=>
  rw[cV,cV,cV]at e;exact⟨(b,w),rfl,eR e.1.1,eR e.1.2,eR e.2.1,eR e.2.2⟩
 ·cases e
def R4{n:Int×Int}(e:0<=n.1/\n.1<=30/\0<=n.2/\n.2<=30):iH (ah n)=aa:=by
 show ((decide (0<=n.1)&&decide (n.1<=30))&&(decide (0<=n.2)&&decide (n.2<=30)))=aa;rw[df e.1,df e.2.1,df e.2.2.1,df e.2.2.2];rfl
def JN(e:qT v=aq):iH v=aq:=by
 cases a:iH v with
 |false=>rfl
 |true=>
  let⟨@n,rfl,W⟩:=y0 a;cases e
def NY(e:p1 v):j4 [.im v]=Z (du<|iH v,[.im v]):=by
 have f:=N5 e;unfold j4 HL;refine fD (k:=[Z (.im v)]) rfl (d_<|sy ?_) rfl;have c8:bx (bh 1 G.k0<|aj (ag 0) aA) [Z (.im v)]=Z (qT v,[Z (.im v)]):=d1 (c0 (bV rfl rfl) rfl rfl f rfl);cases a:qT v with
 |false=>rw[a]at c8;rw[JN a];exact qt c8
 |true=>
  rw[a]at c8;obtain⟨b,w,rfl⟩:∃b w,v=.tup [.int b,.int w]:=by
   unfold qT at a;split at a
   ·next g c=>
    rw[cV]at a;let⟨@b,rfl⟩:=Hl a.1;let⟨@w,rfl⟩:=Hl a.2;exact⟨b,w,rfl⟩
   ·cases a
  refine kM c8 ?_;have U3:bx (gF e5 e5 (V<|au<|.int 0) (V<|aw a4 (ag 0)<|V<|au<|.int 0)<|V<|au<|.int 30) [Z (.im<|.tup [.int b,.int w])]=Z (decide (0<=b)&&decide (b<=30),[Z (.im<|.tup [.int b,.int w])]):=d1 (C5 rfl (aW<|bY (v:=aI b) rfl rfl rfl rfl rfl) rfl rfl rfl rfl rfl rfl rfl rfl);have U9:bx (gF e5 e5 (V<|au<|.int 0) (V<|aw a4 (ag 0)<|V<|au<|.int 1)<|V<|au<|.int 30) [Z (.im<|.tup [.int b,.int w])]=Z (decide (0<=w)&&decide (w<=30),[Z (.im<|.tup [.int b,.int w])]):=d1 (C5 rfl (aW<|bY (v:=aI w) rfl rfl rfl rfl rfl) rfl rfl rfl rfl rfl rfl rfl rfl);show _=Z ((decide (0<=b)&&decide (b<=30))&&(decide (0<=w)&&decide (w<=30)),_);cases d:(decide (0<=b)&&decide (b<=30)) with
  |false=>rw[d]at U3;exact qt U3
  |true=>rw[d]at U3;exact kM U3 U9
def sN(B:List ab):Bool:=((B.zip<|B.drop 1).all λo=>a9 o.1 o.2)
def xt:ab->Bool
 |.tup B=>B.all iH&&sN B
 |_=>aq
theorem CU{U1:Type}(L:U1->Bool):∀y:List U1,oy (y.map λr=>.aC<|L r)=Z (y.map L)
 |[]=>rfl
 |f::r=>by rw[cK,oy,CU L r];rfl
def pg{U1:Type}(L:U1->Bool)(y:List U1):hZ [.lst (y.map λr=>.aC<|L r)]=Z (du<|y.all L):=by
 show (oy _).map _=_;rw[CU,rM,yQ];rfl
theorem yM:∀B T:List ab,e3 B T=(B.zip T).map λo=>.tup [o.1,o.2]
 |[],_=>rfl
 |_::_,[]=>rfl
 |v::B,d::T=>congrArg (_::·) (yM B T)
def Ju{L:ae}(e:uD v):rz L [.im v,.im<|.fn L]=Z (du<|xt v,[.im v,.im<|.fn L]):=by
 cases v with
 |fn g=>exact absurd rfl (e.1 g)
 |tup B=>
  let@⟨r,hd⟩:=e.2 B rfl;unfold rz DA;refine fD (k:=[Z (.im<|.tup B),Z<|.im<|.fn L]) rfl ?_ rfl;show bL _ _ [Z (.im<|.tup B),Z<|.im<|.fn L]=_;have n:de 1 [1] (dD<|ag 0) (bb 0) d5 (sU L) [Z (.im<|.tup B),Z<|.im<|.fn L]=Z (.lst<|B.map λv=>.aC<|iH v,[Z (.im<|.tup B),Z<|.im<|.fn L]):=by
   refine l7 (y:=B.map id) (m:=Y) (UE:=[Z (.im<|.tup B),Z<|.im<|.fn L]) (by rw[y9];rfl) (jr id (λv=>.aC<|iH v) _ (λf p=>?_) (by omega)) rfl;refine⟨[Z (.im f),Z<|.im<|.fn L],_,[Z (.im f),Z<|.im<|.fn L],rfl,rfl,?_,rfl⟩;unfold sU;show (if L=L then _ else _)=_;rw[aJ rfl];exact c0 (bV rfl rfl) rfl rfl (NY<|hd f p) rfl
  have a:fK (f5<|V<|bR hZ<|aj (V<|de 1 [1] (dD<|ag 0) (bb 0) d5<|sU L) aA) [Z (.im<|.tup B),Z<|.im<|.fn L]=Z (!(B.all iH),[Z (.im<|.tup B),Z<|.im<|.fn L]):=zr (h5 (aW<|et (bV (aW n) rfl) rfl<|pg iH B) rfl rfl);show _=Z (nz.dR<|du<|B.all iH&&sN B,_);cases b:B.all iH with
  |false=>
   rw[b]at a;exact rl (p_ (k8 (ks<|h5 rfl rfl rfl) a) rfl)
  |true=>
   rw[b]at a;refine cR (gZ (k8 (ks<|h5 rfl rfl rfl) a) rfl) ?_;have d:=iU.mp b;have q:de 2 [] (jW<|aj (ag 0)<|aj (V<|gj (ag 0) (ht<|au<|.int 1) gX) aA) (d6 2<|cc (bb 0)<|cc (bb 1) eb) d5 (BI L) [Z (.im<|.tup B),Z<|.im<|.fn L]=Z (.lst<|(B.zip<|B.drop 1).map λo=>.aC<|a9 o.1 o.2,[Z (.im<|.tup B),Z<|.im<|.fn L]):=by
    refine l7 (y:=(B.zip<|B.drop 1).map λo=>.tup [o.1,o.2]) (m:=Y) (UE:=[Z (.im<|.tup B),Z<|.im<|.fn L]) ?_ (jr (λo:ab×ab=>.tup [o.1,o.2]) (λo=>.aC<|a9 o.1 o.2) _ (λo h=>?_) ?_) rfl
    ·rw[<-yM];exact v3 (bV rfl (bV (aW (xJ (a:=.im (.tup<|B.drop 1)) rfl rfl rfl rfl (by show Z (ak.im<|.tup<|fy B (Z ((1:Nat):Int)) Y)=_;rw[oi]))) rfl)) rfl
    ·let⟨@g,i,W⟩:=y0 (d o.1 (oL h).1);let⟨@c,j,W⟩:=y0 (d o.2<|mh (oL h).2);let⟨f,l⟩:=o;dsimp only at i j ⊢;subst i j;exact⟨[Z (.im<|ah g),Z<|.im<|ah c],_,[Z (.im<|ah g),Z<|.im<|ah c],rfl,rfl,bY rfl rfl rfl rfl rfl,rfl⟩
    ·rw[v7,gQ];omega
   exact d_ (et (bV (aW q) rfl) rfl<|pg (λo:ab×ab=>a9 o.1 o.2) _)
 |_=>rfl
def Qq{L:ae}(e:uD v):qB L [.im v]=Z (du<|xt v,[.im v]):=by
 unfold qB Dd;exact fD (k:=[Z (.im v)]) rfl (d_<|c0 (bV rfl<|bV rfl rfl) rfl rfl (Ju e) rfl) rfl
def oN:ab->Bool
 |.int b=>decide (0<=b)&&decide (b<31)
 |_=>aq
theorem B5:∀{cs:List (Int×Int)},iB cs->sN (cs.map ah)=aa
 |[],_=>rfl
 |[g],_=>rfl
 |g::c::r,e=>by
  have Uu:=hb.mp e;show (a9 (ah g) (ah c)&&sN ((c::r).map ah))=aa;rw[Uu.1 c (.head _),B5 Uu.2];rfl
def yi{cs:List (Int×Int)}(e:iB cs):cs.Nodup:=e.imp λ{g c} d i=>by rw[i,wa]at d;cases d
def Oa{J:aE ak}{v:ak}{y:List ab}(d:J k=Z (v,UE))(q:gq v=Z y):dD (V J) k=Z ((y,Y),UE):=by
 unfold dD;rw[cA d];show (gq v).map _=_;rw[q];rfl
def p7(g c:b2):Bool:=(decide ((if g.1-c.1<0 then -(g.1-c.1) else g.1-c.1)+(if g.2-c.2<0 then -(g.2-c.2) else g.2-c.2)=1))
def Iu{c:b2}:p7 g c=aa↔c∈hU g:=by
 let⟨a,b⟩:=g;let⟨aR,aX⟩:=c;unfold p7 hU;rw[hA];simp only[bI,hs,e_,ox];lia
def qN(M:List ba):Prop:=((M.map aP).Pairwise (λg c=>a9 g c=aa))
def Be(Uy:List ba):fk [bf Uy]=g9 (Uy.map aP):=zp λv hd=>by
 let⟨n,W,rfl⟩:=ew.mp hd;exact⟨_,rfl⟩
def DQ(ai:Uy.Nodup)(c:Uy.length<=1000):∃O:List ba,O.Perm Uy/\fk [bf Uy]=Z (bf O)/\qN O:=by
 have a:=uf ai c;let⟨O,U5,b⟩:=Cq (jc<|Uy.map aP);refine⟨O,U5,?_,?_⟩
 ·rw[Be];unfold g9;rw[aJ (oJ.mpr a),b]
 ·unfold qN;rw[<-b];exact pI a.1.3 a.1.2
def RT(ai:Uy.Nodup)(b:Uy.length<=1000)(r:qN Uy):fk [bf Uy]=Z (bf Uy):=by
 have a:=uf ai b;rw[Be];unfold g9;rw[aJ (oJ.mpr a),<-tC a.1 (.refl _) r]
def L_{UJ:List ba}(f:UJ.length<=1000):sO [x,Z<|.aQ<|bD D,Z<|bf UJ,Z<|.im<|ah c,U]=Z (.aM,[x,Z<|.aQ<|bD D,Z<|bf<|UJ++fb D c,Z<|.im<|ah c,Z<|a3 [(c.1,c.2+2),(c.1+2,c.2)]]):=by
 have VK:a4 (.im<|ah c) (aI 0)=Z (aI c.1):=rfl;have a:a4 (.im<|ah c) (aI 1)=Z (aI c.2):=rfl;have b:de 1 [1,3] (dD<|ag 4) (bb 0) G.wZ G.wY [x,Z<|.aQ<|bD D,Z<|bf UJ,Z<|.im<|ah c,Z<|a3 [(c.1,c.2+2),(c.1+2,c.2)]]=Z (bf<|fb D c,[x,Z<|.aQ<|bD D,Z<|bf UJ,Z<|.im<|ah c,Z<|a3 [(c.1,c.2+2),(c.1+2,c.2)]]):=by
  have q:=qy (own:=1) (Vc:=bb 0) (n:=G.wZ) (d:=G.wY) (aH:=[Z (.aQ<|bD D),Z<|.im<|ah c]) ah (λm=>decide (m∈D)) (λm=>aP (c,m)) [(c.1,c.2+2),(c.1+2,c.2)] [] (λm g=>?_) (by show 0+2<=100000;decide)
  ·rw[lF,show (([(c.1,c.2+2),(c.1+2,c.2)].filter λm=>decide (m∈D)).map λm=>aP (c,m))=(fb D c).map aP by unfold fb;rw[gr];rfl]at q;exact l7 (y:=[(c.1,c.2+2),(c.1+2,c.2)].map ah) (m:=Z (4,a3 [(c.1,c.2+2),(c.1+2,c.2)])) (UE:=[x,Z<|.aQ<|bD D,Z<|bf UJ,Z<|.im<|ah c,Z .dd]) rfl q rfl
  ·exact⟨[Z (.im<|ah m),Z<|.aQ<|bD D,Z<|.im<|ah c],[Z (.im<|ah m),Z<|.aQ<|bD D,Z<|.im<|ah c],rfl,d1<|dj<|tk D m,λ_=>rfl,λ_=>⟨[Z (.im<|ah m),Z<|.aQ<|bD D,Z<|.im<|ah c],mB (bV rfl<|bV rfl rfl) rfl (gT rfl) rfl,rfl⟩⟩
 have bF:=sj D c;have e:nE (bf UJ) [bf (fb D c)]=Z (.im .a6,bf<|UJ++fb D c):=by
  show (if _ then _ else _)=_;rw[aJ (by rw[bS,bS];lia),<-fz]
 unfold sO;exact cR (UE:=[x,Z<|.aQ<|bD D,Z<|bf UJ,Z<|.im<|ah c,Z<|a3 [(c.1,c.2+2),(c.1+2,c.2)]]) (kL (CJ (bV (aW<|mB (bV (aW<|dj VK)<|bV (aW<|bY (aW<|dj a) rfl rfl rfl rfl) rfl) rfl (gT rfl) rfl)<|bV (aW<|mB (bV (aW<|bY (aW<|dj VK) rfl rfl rfl rfl)<|bV (aW<|dj a) rfl) rfl (gT rfl) rfl) rfl) rfl (gT rfl) rfl) (iX rfl) rfl) (ng<|ly rfl rfl (bV (aW b) rfl) rfl rfl e rfl)
theorem BG{D:List aD}{x:Option ak}:∀(a:List aD) (UJ:List ba) (b U:Option ak),UJ.length+2*a.length<=1000->∃d e,dK (bb 3) sO (a.map ah) [x,Z<|.aQ<|bD D,Z<|bf UJ,b,U]=Z (.aM,[x,Z<|.aQ<|bD D,Z<|bf<|UJ++a.flatMap (fb D),d,e])
 |[],UJ,b,U,_=>⟨b,U,by rw[Bm,b_];rfl⟩
 |c::a,UJ,b,U,f=>by
  rw[dT]at f;have bF:=sj D c;let⟨d,e,g⟩:=BG (D:=D) (x:=x) a (UJ++fb D c) (Z<|.im<|ah c) (Z<|a3 [(c.1,c.2+2),(c.1+2,c.2)]) (by rw[d7];lia);refine⟨d,e,?_⟩;rw[cK,dK];show (sO [x,Z<|.aQ<|bD D,Z<|bf UJ,Z<|.im<|ah c,U]).bind _=_;rw[L_ ⋯,mM,<-bu];exact g
def Ct(UY:e7 D):qc [aL D]=Z (bf<|c_ D,[aL D]):=by
 have d:=UY.len;let⟨b,c,a⟩:=BG (D:=D) (x:=Z (aL D)) D [] Y Y (by simp;lia);rw[lF]at a;unfold qc Bs;exact fD (k:=[Z (aL D),Z<|.aQ<|bD D,Z .dd,b,c]) rfl (cR (UE:=[Z (aL D),Z<|.aQ<|bD D,Y,Y,Y]) (kL (c0 (UN:=[.aY 0]) rfl rfl rfl (xE UY.ai ⋯) rfl) (iX rfl) rfl)<|cR (UE:=[Z (aL D),Z<|.aQ<|bD D,Z<|bf [],Y,Y]) rfl<|cR (jz (m:=Y) rfl a rfl)<|d_ rfl) rfl
def Sp{p:aD->aD}{n H u:aD}{Vq:Option ak}(e:n∈D)(a:D.length<=1000):rU [x,U0,Z<|.aQ<|cn D p,Z<|.im<|ah n,U,Vq,Z<|.im<|ah H,Z<|.im<|ah u]=Z (.aM,[x,U0,Z<|.aQ<|cn D<|jG u H p n,Z<|.im<|ah n,U,Vq,Z<|.im<|ah H,Z<|.im<|ah u]):=by
 have I:bx (aw es (V<|aw a4 (ag 2)<|ag 3)<|ag 7) [x,U0,Z<|.aQ<|cn D p,Z<|.im<|ah n,U,Vq,Z<|.im<|ah H,Z<|.im<|ah u]=Z (decide (p n=u),[x,U0,Z<|.aQ<|cn D p,Z<|.im<|ah n,U,Vq,Z<|.im<|ah H,Z<|.im<|ah u]):=d1 (bY (aW<|dj<|qA p e) rfl rfl rfl<|Cn _ _);unfold rU;by_cases i:p n=u
 ·rw[df i]at I;have d:jG u H p n=λc=>if c=n then H else p c:=funext λc=>by
   unfold jG;exact zT ⟨λl=>l.1,λl=>⟨l,i⟩⟩
  rw[d];refine p_ I (iY rfl ?_);show (hI (.aQ<|cn D p) (.im<|ah n)<|.im<|ah H).map _=_;rw[QY e a];rfl
 ·rw[ep i]at I;have d:jG u H p n=p:=funext λc=>by
   unfold jG;exact aO λl=>i l.2
  rw[d];exact gZ I rfl
theorem EA{D:List aD}{H u:aD}{x U0 U Vq:Option ak}(d:D.length<=1000):∀(a:List aD) (p:aD->aD) (b:Option ak),(∀n∈a,n∈D)->∃c,dK (bb 3) rU (a.map ah) [x,U0,Z<|.aQ<|cn D p,b,U,Vq,Z<|.im<|ah H,Z<|.im<|ah u]=Z (.aM,[x,U0,Z<|.aQ<|cn D<|a.foldl (jG u H) p,c,U,Vq,Z<|.im<|ah H,Z<|.im<|ah u])
 |[],p,b,_=>⟨b,rfl⟩
 |n::a,p,b,e=>by
  let⟨c,g⟩:=EA (D:=D) (H:=H) (u:=u) (x:=x) (U0:=U0) (U:=U) (Vq:=Vq) d a (jG u H p n) (Z<|.im<|ah n) λf h=>e f (.tail _ h);refine⟨c,?_⟩;rw[cK,dK];show (rU [x,U0,Z<|.aQ<|cn D p,Z<|.im<|ah n,U,Vq,Z<|.im<|ah H,Z<|.im<|ah u]).bind _=_;rw[Sp (e n<|.head _) d];exact g
def Q0{j:(aD->aD)×List ba}{d:ba}{b a A:Option ak}(k:D.length<=1000)(n:j.2.length<=1000)(t:d.1∈D)(z:d.2∈D):∃e p q,rA [Z (aL D),U0,Z<|.aQ<|cn D j.1,b,Z<|bf j.2,Z<|.im<|aP d,a,A]=Z (.aM,[Z (aL D),U0,Z<|.aQ<|cn D (bG j d).1,e,Z<|bf (bG j d).2,Z<|.im<|aP d,p,q]):=by
 let⟨o,U2⟩:=j;have VK:a4 (.im<|aP d) (aI 0)=Z (.im<|ah d.1):=rfl;have r:a4 (.im<|aP d) (aI 1)=Z (.im<|ah d.2):=rfl;have f:cj 6 (aw a4 (ag 2)<|V<|aw a4 (ag 5)<|V<|au<|.int 0) [Z (aL D),U0,Z<|.aQ<|cn D o,b,Z<|bf U2,Z<|.im<|aP d,a,A]=Z (.aM,[Z (aL D),U0,Z<|.aQ<|cn D o,b,Z<|bf U2,Z<|.im<|aP d,Z<|.im<|ah<|o d.1,A]):=kL (bY rfl (aW<|dj VK) rfl rfl<|qA o t) (iX rfl) rfl;have g:cj 7 (aw a4 (ag 2)<|V<|aw a4 (ag 5)<|V<|au<|.int 1) [Z (aL D),U0,Z<|.aQ<|cn D o,b,Z<|bf U2,Z<|.im<|aP d,Z<|.im<|ah<|o d.1,A]=Z (.aM,[Z (aL D),U0,Z<|.aQ<|cn D o,b,Z<|bf U2,Z<|.im<|aP d,Z<|.im<|ah<|o d.1,Z<|.im<|ah<|o d.2]):=kL (bY rfl (aW<|dj r) rfl rfl<|qA o z) (iX rfl) rfl;have I:bx (aw eV (ag 6)<|ag 7) [Z (aL D),U0,Z<|.aQ<|cn D o,b,Z<|bf U2,Z<|.im<|aP d,Z<|.im<|ah<|o d.1,Z<|.im<|ah<|o d.2]=Z (!decide (o d.1=o d.2),[Z (aL D),U0,Z<|.aQ<|cn D o,b,Z<|bf U2,Z<|.im<|aP d,Z<|.im<|ah<|o d.1,Z<|.im<|ah<|o d.2]):=d1 (dj<|si _ _);unfold rA;by_cases i:o d.1=o d.2
 ·rw[df i]at I;rw[show bG (o,U2) d=(o,U2) from aJ i];exact⟨_,_,_,cR f<|cR g<|gZ I rfl⟩
 ·rw[ep i]at I;rw[show bG (o,U2) d=(gh o d,U2++[d]) from aO i];let⟨e,h⟩:=EA (D:=D) (H:=o d.1) (u:=o d.2) (x:=Z (aL D)) (U0:=U0) (U:=Z (bf<|U2++[d])) (Vq:=Z (.im<|aP d)) k D o b λ_ i=>i;have s:cn D (D.foldl (jG (o d.2)<|o d.1) o)=cn D (gh o d):=O7 λc v=>by
   rw[Gp i];exact zT ⟨λl=>l.2,λl=>⟨v,l⟩⟩
  rw[s]at h;have w:hW (bf U2) [.im (aP d)]=Z (.im .a6,bf<|U2++[d]):=by
   have:hW (bf U2) [.im (aP d)]=Z (.im .a6,.lst<|U2.map aP++[aP d]):=u_ (by rw[bS];dsimp only at n;lia);rw[this];simp
  exact⟨_,_,_,cR f<|cR g<|p_ I<|cR (ng<|ly rfl rfl (bV rfl rfl) rfl rfl w rfl)<|jz (m:=Y) rfl h rfl⟩
theorem AG{D:List aD}{U0:Option ak}(k:D.length<=1000):∀(T:List ba) (j:(aD->aD)×List ba) (b Vq a A:Option ak),j.2.length+T.length<=1000->(∀d∈T,d.1∈D/\d.2∈D)->∃c g h i,dK (bb 5) rA (T.map aP) [Z (aL D),U0,Z<|.aQ<|cn D j.1,b,Z<|bf j.2,Vq,a,A]=Z (.aM,[Z (aL D),U0,Z<|.aQ<|cn D (ej T j).1,c,Z<|bf (ej T j).2,g,h,i])
 |[],j,b,Vq,a,A,_,_=>⟨b,Vq,a,A,rfl⟩
 |d::T,j,b,Vq,a,A,UH,e=>by
  rw[dT]at UH;let⟨l,m,n,X⟩:=Q0 (U0:=U0) (b:=b) (a:=a) (A:=A) (j:=j) k ⋯ (e d<|.head _).1 (e d<|.head _).2;have q:(bG j d).2.length<=j.2.length+1:=by
   unfold bG;split
   ·lia
   ·rw[d7];exact bT _
  let⟨c,g,h,i,o⟩:=AG (D:=D) (U0:=U0) k T (bG j d) l (Z<|.im<|aP d) m n ⋯ λf p=>e f (.tail _ p);refine⟨c,g,h,i,?_⟩;rw[cK,dK];show (rA [Z (aL D),U0,Z<|.aQ<|cn D j.1,b,Z<|bf j.2,Z<|.im<|aP d,a,A]).bind _=_;rw[X];exact o
theorem BB{D:List aD}{x U0:Option ak}(g:D.length<=1000):∀(a done:List aD) (b:Option ak),(done++a)=D->D.Nodup->∃f,dK (bb 3) q3 (a.map ah) [x,U0,Z<|.aQ<|cn done λc=>c,b,Y,Y,Y,Y]=Z (.aM,[x,U0,Z<|.aQ<|cn D λc=>c,f,Y,Y,Y,Y])
 |[],done,b,d,_=>⟨b,by rw[b_]at d;rw[d];rfl⟩
 |n::a,done,b,d,ai=>by
  have h:n∉done:=λi=>by
   rw[<-d]at ai;exact (dz.mp ai).2.2 n i n (.head _) rfl
  let⟨f,j⟩:=BB (D:=D) (x:=x) (U0:=U0) g a (done++[n]) (Z<|.im<|ah n) (by rw[bu];exact d) ai;refine⟨f,?_⟩;have ld:done.length<=D.length:=by rw[<-d,d7];lia
  have k:hI (.aQ<|cn done λc=>c) (.im<|ah n) (.im<|ah n)=Z (.aQ<|cn (done++[n]) λc=>c):=by
   have:g_ (cn done λc=>c) (dS n) (ah n)=cn (done++[n]) λc=>c:=by
    unfold g_;rw[aO λi=>by
     let⟨p,l,e⟩:=oO.mp i;let⟨c,m,rfl⟩:=ew.mp l;exact h (o_ (eR e) ▸ m)]
    unfold cn;rw[fz];rfl
   rw[<-this];exact aJ ⟨rfl,by unfold cn;rw[bS];lia⟩
  have X:q3 [x,U0,Z<|.aQ<|cn done λc=>c,Z<|.im<|ah n,Y,Y,Y,Y]=Z (.aM,[x,U0,Z<|.aQ<|cn (done++[n]) λc=>c,Z<|.im<|ah n,Y,Y,Y,Y]):=by
   unfold q3;refine iY rfl ?_;show (hI (.aQ<|cn done λc=>c) (.im<|ah n)<|.im<|ah n).map _=_;rw[k];rfl
  rw[cK,dK];show (q3 [x,U0,Z<|.aQ<|cn done λc=>c,Z<|.im<|ah n,Y,Y,Y,Y]).bind _=_;rw[X];exact j
def Nc(ai:D.Nodup)(b:D.length<=1000)(UH:T.length<=1000)(e:∀d∈T,d.1∈D/\d.2∈D)(f:fk [bf (ej T (λc=>c,[])).2]=Z (bf O)):uA [aL D,bf T]=Z (.im<|.tup<|O.map aP,[aL D,bf T]):=by
 let⟨a,J⟩:=BB (D:=D) (x:=Z (aL D)) (U0:=Z (bf T)) b D [] Y rfl ai;let⟨g,h,i,j,M⟩:=AG (D:=D) (U0:=Z .dd) b T (λc=>c,[]) a Y Y Y (by show 0+_<=_;lia) e;unfold uA DR;exact fD (k:=[Z (aL D),Z<|bf T,Z<|.aQ<|cn D (ej T (λc=>c,[])).1,g,Z<|bf (ej T (λc=>c,[])).2,h,i,j]) rfl (cR (UE:=[Z (aL D),Z<|bf T,Z<|.aQ<|cn [] λc=>c,Y,Y,Y,Y,Y]) rfl (cR (jz (m:=Y) rfl J rfl)<|cR (UE:=[Z (aL D),Z<|bf T,Z<|.aQ<|cn D λc=>c,a,Z<|bf [],Y,Y,Y]) rfl<|cR (jz (m:=Z (1,bf T)) (UE:=[Z (aL D),Z .dd,Z<|.aQ<|cn D λc=>c,a,Z<|bf [],Y,Y,Y]) rfl M rfl)<|d_<|sS<|et (bV rfl rfl) rfl f) ) rfl
def Hc{kept:List ba}(UY:e7 D)(a:∀d∈kept,e9 D d)(g:kept.length<=100)(b:fk [bf (ej (kept++c_ D) (λc=>c,[])).2]=Z (bf O)):nG [aL D,.im<|.tup<|kept.map aP]=Z (.im<|.tup<|O.map aP,[aL D,.im<|.tup<|kept.map aP]):=by
 have aC:=UY.len;have bF:=r1 D D;have h:(c_ D).length<=2*D.length:=bF;have f:∀d∈kept++c_ D,d.1∈D/\d.2∈D:=λd e=>by
  rcases dv.mp e with i|i
  ·exact⟨(a d i).1,(a d i).2.1⟩
  ·exact⟨(h9.mp i).1,(h9.mp i).2.1⟩
 have w:=Nc UY.ai ⋯ (by rw[d7];lia) f b;have ad:dg (bf kept) (bf<|c_ D)=Z (bf<|kept++c_ D):=by
  rw[show bf (kept++c_ D)=.lst (kept.map aP++(c_ D).map aP) by rw[bf,fz]];exact aJ (by rw[bS,bS];lia)
 unfold nG Ci;exact fD (k:=[Z (aL D),Z<|.im<|.tup<|kept.map aP]) rfl (d_<|c0 (UN:=[.aY 0,.cB<|bf<|kept++c_ D]) (bV rfl<|bV (aW<|bY (aW<|et (bV rfl rfl) rfl rfl) (aW<|c0 (UN:=[.aY 0]) rfl rfl rfl (Ct UY) rfl) rfl rfl ad) rfl) rfl rfl w rfl) rfl
inductive eM (cs:List b2) (j:b2):b2->Prop
 | self:eM cs j j
 | step {g c:b2}:eM cs j g->c∈cs->p7 g c=aa->eM cs j c
def Nw(Uy:List b2)(n:b2):mc (.im<|ah n) (.aQ<|bD Uy)=Z (du<|!decide (n∈Uy)):=by
 have:=tk Uy n;show (ho (ah n)<|.aQ<|bD Uy).map (λr=>ak.im<|.aC<|!r)=_;have z:(ho (ah n)<|.aQ<|bD Uy).map (λr=>ak.im<|.aC r)=Z (du<|decide (n∈Uy)):=this;let⟨@r,a,b⟩:=cx.mp z;rw[a];cases b;rfl
theorem uW{U1:Type}[DecidableEq U1]:∀{M E:List U1},M.Nodup->(∀f∈M,f∈E)->M.length<=E.length
 |[],_,_,_=>lB _
 |f::M,E,ai,e=>by
  have aM:=iI.mp ai;have:=uW (E:=E.erase f) aM.2 λl a=>(zQ (λd=>aM.1 (by rw[<-d];exact a))).mpr (e l<|.tail _ a);have d:=Gy (e f<|.head _);have o:=yr (e f<|.head _);rw[dT];lia
def dQ(cs:List b2)(o:List b2×List b2)(n:b2):List b2×List b2:=(if n∈cs/\n∉o.1 then (o.1++[n],o.2++[n]) else o)
abbrev hy(U0:Option ak)(cs:List b2)(o:List b2×List b2)(U:Option ak):a0:=[Z (.aQ<|bD cs),U0,Z<|.aQ<|bD o.1,Z<|a3 o.2,U]
def Od{cs:List b2}(t:o.1.length<10000)(z:o.2.length<10000):rW (hy U0 cs o<|Z<|.im<|ah n)=Z (.aM,hy U0 cs (dQ cs o n)<|Z<|.im<|ah n):=by
 have U3:bx (aw ie (ag 4)<|ag 0) (hy U0 cs o<|Z<|.im<|ah n)=Z (decide (n∈cs),hy U0 cs o<|Z<|.im<|ah n):=d1 (dj<|tk cs n);have U9:bx (aw mc (ag 4)<|ag 2) (hy U0 cs o<|Z<|.im<|ah n)=Z (!decide (n∈o.1),hy U0 cs o<|Z<|.im<|ah n):=d1 (dj<|Nw o.1 n);unfold rW dQ;by_cases g:n∈cs
 ·rw[df g]at U3;by_cases c:n∈o.1
  ·rw[df c]at U9;rw[aO λi=>i.2 c];exact gZ (kM U3 U9) rfl
  ·rw[ep c]at U9;rw[aJ ⟨g,c⟩];have a:hI (.aQ<|bD o.1) (.im<|.tup<|dS n) (du aa)=Z (.aQ<|bD<|o.1++[n]):=by
    have d:gg o.1 n=o.1++[n]:=by unfold gg;rw[aO c]
    rw[<-d,<-Hu];exact aJ ⟨rfl,by unfold bD;rw[bS];lia⟩
   refine p_ (kM U3 U9) (cR (UE:=[Z (.aQ<|bD cs),U0,Z<|.aQ<|bD<|o.1++[n],Z<|a3 o.2,Z<|.im<|ah n]) ?_ ?_)
   ·refine iY rfl ?_;show (hI (.aQ<|bD o.1) (.im<|.tup<|dS n)<|du aa).map _=_;rw[a];rfl
   ·refine ng (ly rfl rfl (bV rfl rfl) rfl rfl (u_ (by rw[bS];lia)) ?_);show _=[Z (.aQ<|bD cs),U0,Z<|.aQ<|bD<|o.1++[n],Z<|a3<|o.2++[n],Z<|.im<|ah n];unfold a3;rw[fz];rfl
 ·rw[ep g]at U3;rw[aO λi=>g i.1];exact gZ (qt U3) rfl
def RK(cs:List b2)(o:List b2×List b2)(n:b2):(dQ cs o n).1.length<=o.1.length+1/\(dQ cs o n).2.length<=o.2.length+1:=by
 unfold dQ;split
 ·rw[d7,d7];exact⟨bT _,bT _⟩
 ·exact⟨⋯,⋯⟩
theorem HJ{U0:Option ak}{cs:List b2}:∀(y:List b2) (o:List b2×List b2) (U:Option ak),o.1.length+y.length<10000->o.2.length+y.length<10000->∃a,dK (bb 4) rW (y.map ah) (hy U0 cs o U)=Z (.aM,hy U0 cs (y.foldl (dQ cs) o) a)
 |[],o,U,_,_=>⟨U,rfl⟩
 |n::y,o,U,t,z=>by
  rw[dT]at t z;have M:=RK cs o n;let⟨a,b⟩:=HJ (U0:=U0) y (dQ cs o n) (Z<|.im<|ah n) ⋯ ⋯;refine⟨a,?_⟩;rw[cK,dK];show (rW<|hy U0 cs o<|Z<|.im<|ah n).bind _=_;rw[Od ⋯ ⋯];exact b
structure mN(cs:List b2)(j:b2)(o:List b2×List b2):Prop where
 ai:o.1.Nodup
 yv:j∈o.1
 con:∀f∈o.1,eM cs j f
 sub:∀f∈o.1,f=j\/f∈cs
 xM:∀f∈o.2,f∈o.1
def mN.step{cs:List b2}{j f:b2}{o:List b2×List b2}(UB:mN cs j o)(b:f∈o.1){n:b2}(h:n∈hU f):mN cs j (dQ cs o n):=by
 unfold dQ;split
 ·rename_i e;refine⟨?_,eG _ UB.yv,λl a=>?_,λl a=>?_,λl a=>?_⟩
  ·rw[dz];exact⟨UB.ai,fJ _ _,λg k c m d=>e.2 (by rw[<-cD.mp m,<-d];exact k)⟩
  ·rcases dv.mp a with i|i
   ·exact UB.con l i
   ·rw[cD.mp i];exact .step (UB.con f b) e.1 (Iu.mpr h)
  ·rcases dv.mp a with i|i
   ·exact UB.sub l i
   ·rw[cD.mp i];exact .inr e.1
  ·rcases dv.mp a with i|i
   ·exact eG _ (UB.xM l i)
   ·exact ei _ i
 ·exact UB
def So{cs:List b2}{l:b2}:(l∈o.1->l∈(dQ cs o n).1)/\(l∈o.2->l∈(dQ cs o n).2)/\(l∈(dQ cs o n).1->l∈o.1\/l∈(dQ cs o n).2)/\(n∈cs->n∈(dQ cs o n).1):=by
 unfold dQ;split
 ·rename_i e;refine⟨λi=>eG _ i,λi=>eG _ i,λi=>?_,λ_=>ei _<|.head _⟩;rcases dv.mp i with i|i
  ·exact .inl i
  ·exact .inr (ei _ i)
 ·rename_i e;refine⟨λi=>i,λi=>i,.inl,λi=>?_⟩;by_cases p:n∈o.1
  ·exact p
  ·exact absurd ⟨i,p⟩ e
theorem BH{cs:List b2}{j f:b2}:∀(y:List b2) (o:List b2×List b2),(∀n∈y,n∈hU f)->f∈o.1->mN cs j o->mN cs j (y.foldl (dQ cs) o)/\(∀l,l∈o.1->l∈(y.foldl (dQ cs) o).1)/\(∀l,l∈o.2->l∈(y.foldl (dQ cs) o).2)/\(∀l,l∈(y.foldl (dQ cs) o).1->l∈o.1\/l∈(y.foldl (dQ cs) o).2)/\(∀n∈y,n∈cs->n∈(y.foldl (dQ cs) o).1)/\(y.foldl (dQ cs) o).1.length+o.2.length=(y.foldl (dQ cs) o).2.length+o.1.length
 |[],o,_,_,UB=>⟨UB,λ_ e=>e,λ_ e=>e,λ_ e=>.inl e,λn e=>(by cases e),tf _ _⟩
 |n::y,o,a,b,UB=>by
  have E:=λl=>So (cs:=cs) (o:=o) (n:=n) (l:=l);let@⟨h,c,g,k,m,p⟩:=BH y (dQ cs o n) (λv hd=>a v<|.tail _ hd) ((E f).1 b) (UB.step b<|a n<|.head _);refine⟨h,λl e=>c l<|(E l).1 e,λl e=>g l<|(E l).2.1 e,λl e=>?_,λv hd e=>?_,?_⟩
  ·rcases k l e with i|i
   ·rcases (E l).2.2.1 i with C|C
    ·exact .inl C
    ·exact .inr (g l C)
   ·exact .inr i
  ·rcases bI.mp hd with rfl|hd
   ·exact c v ((E v).2.2.2 e)
   ·exact m v hd e
  ·have d:(dQ cs o n).1.length+o.2.length=(dQ cs o n).2.length+o.1.length:=by
    unfold dQ;split
    ·rw[d7,d7,kK];lia
    ·exact tf _ _
   show (y.foldl (dQ cs)<|dQ cs o n).1.length+o.2.length=(y.foldl (dQ cs)<|dQ cs o n).2.length+o.1.length;lia
structure nx(cs:List b2)(j:b2)(o:List b2×List b2):Prop where
 i:mN cs j o
 done:∀g∈o.1,g∉o.2->∀c∈cs,p7 g c=aa->c∈o.1
def mN.len{cs:List b2}(UB:mN cs j o):o.1.length<=cs.length+1:=
 uW (E:=j::cs) UB.ai λf a=>by
  rcases UB.sub f a with e|e
  ·rw[e];exact .head _
  ·exact .tail _ e
def nx.next{cs:List b2}(UB:nx cs j (L,C++[f])):nx cs j ((hU f).foldl (dQ cs) (L,C))/\((hU f).foldl (dQ cs) (L,C)).1.length+C.length=((hU f).foldl (dQ cs) (L,C)).2.length+L.length:=by
 have m:f∈L:=UB.i.xM f (ei _<|.head _);let@⟨n,o,p,q,r,s⟩:=BH (cs:=cs) (j:=j) (hU f) (L,C) (λ_ e=>e) m ⟨UB.i.ai,UB.i.yv,UB.i.con,UB.i.sub,λl t=>UB.i.xM l<|eG _ t⟩;refine⟨⟨n,λg u a c h d=>?_⟩,s⟩;have v:g∈L:=(q g u).resolve_right a;by_cases k:g=f
 ·subst k;exact r c (Iu.mp d) h
 ·refine o c (UB.done g v (λi=>?_) c h d);rcases dv.mp i with i|i
  ·exact a (p g i)
  ·exact k (cD.mp i)
def nx.fin{cs:List b2}(UB:nx cs j (L,[]))(f:b2):f∈L↔eM cs j f:=by
 refine⟨UB.i.con f,λe=>?_⟩;induction e with
 |self=>exact UB.i.yv
 |step _ a d c=>exact UB.done _ c (λi=>by cases i) _ a d
def Ny{cs:List b2}{j f:b2}(t:L.length<5000)(z:C.length<5000):∃a,u9 (hy U0 cs (L,C++[f]) U)=Z (.aM,hy U0 cs ((hU f).foldl (dQ cs) (L,C)) a):=by
 let⟨@a,b⟩:=HJ (U0:=U0) (cs:=cs) (hU f) (L,C) U (by show _+4<_;lia) (by show _+4<_;lia);refine⟨a,?_⟩;unfold u9;refine jz (m:=Y) (UE:=hy U0 cs (L,C) U) (Oa (v:=a3 (hU f)) (c0 (dF (cA<|ly (n:=a3 (C++[f])) (c:=a3 C) rfl rfl rfl rfl rfl ?_ rfl) rfl) rfl rfl (Gi f) rfl) rfl) b rfl;show (((C++[f]).map ah).getLast?).map (λv=>(ak.im v,ak.lst ((C++[f]).map ah).dropLast))=Z (.im<|ah f,a3 C);rw[fz,List.map_singleton,List.getLast?_concat,List.dropLast_concat];rfl
def Pr{cs:List b2}(D:cs.length<=900):∃pt,oR [.aQ (bD cs),.im<|ah j]=Z (aL pt,[.aQ (bD cs),.im<|ah j])/\iB pt/\(∀f,f∈pt↔eM cs j f):=by
 have s:nx cs j ([j],[j]):=⟨⟨fJ _ _,.head _,λf h=>by rw[cD.mp h];exact .self,λf h=>.inl<|cD.mp h,λf h=>h⟩,λg t a=>absurd t a⟩;let⟨@UO,dC,⟨L,@U,rfl,UB⟩⟩:=yu (n:=GA) (c:=u9) (λE k=>∃L C U,k=hy (Z<|.im<|ah j) cs (L,C) U/\nx cs j (L,C)/\C.length<=L.length/\E+L.length=cs.length+1+C.length) (λk=>∃L U,k=hy (Z<|.im<|ah j) cs (L,[]) U/\nx cs j (L,[])) (λE k ⟨L,C,U,d,UB,u,w⟩=>by
  subst d;have aU:=UB.i.len;rcases List.eq_nil_or_concat C with rfl|⟨C,f,rfl⟩
  ·exact⟨aq,_,h5 rfl rfl rfl,λe=>(by cases e),λ_=>⟨L,U,rfl,UB⟩⟩
  ·rw[List.concat_eq_append] at *;refine⟨aa,_,h5 (v:=a3 (C++[f])) rfl rfl ?_,λ_=>?_,λe=>by cases e⟩
   ·show Z (!((C++[f]).map ah).isEmpty)=Z aa;rw[fz,List.isEmpty_eq_false_iff.mpr ↥0];rfl
   ·rw[d7,kK]at u w;let⟨@x,l⟩:=Ny (cs:=cs) (j:=j) (f:=f) (L:=L) (C:=C) (U0:=Z (.im<|ah j)) (U:=U) (by show _<_;dsimp only at aU;lia) (by dsimp only at aU;lia);let@⟨UZ,m⟩:=UB.next;have p:=UZ.i.len;generalize (hU f).foldl (dQ cs) (L,C)=o at l UZ m p;let⟨y,Vj⟩:=o;dsimp only at aU p m;exact⟨.aM,_,l,.inl rfl,E-1,by omega,y,Vj,x,rfl,UZ,by omega,by omega⟩) 1000000 (cs.length+1) (hy (Z<|.im<|ah j) cs ([j],[j]) Y) ⟨[j],[j],Y,rfl,s,bT _,by show _=cs.length+1+1;rfl⟩ ⋯
 have q:=UB.i.ai;have r:=UB.i.len;let⟨@pt,z,A,B⟩:=LB q (by dsimp only at r ⊢;lia);refine⟨pt,?_,B,λf=>A.mem_iff.trans<|UB.fin f⟩;have UH:fk [.aQ (bD L)]=Z (a3 pt):=by
  show g9 ((bD L).map λo=>.tup o.1)=_;have d:((bD L).map λo=>ab.tup o.1)=L.map ah:=by unfold bD;rw[gr];rfl
  rw[d];unfold g9;rw[aJ (oJ.mpr (uw q (by dsimp only at r ⊢;lia))),z]
 unfold oR Dg;refine fD (k:=hy (Z<|.im<|ah j) cs (L,[]) U) rfl (cR (UE:=[Z (.aQ<|bD cs),Z<|.im<|ah j,Z<|.aQ<|bD [j],Y,Y]) rfl<|cR (UE:=hy (Z<|.im<|ah j) cs ([j],[j]) Y) rfl<|cR dC ?_) rfl;exact (d_<|et (bV (aW<|et (bV rfl rfl) rfl UH) rfl) rfl rfl)
def Et(b:Int):rt (.int b):=λg d=>by cases d
def RD(n:Int×Int):p1 (ah n):=⟨(λg d=>by cases d),λT d l a=>by
 cases d;rcases bI.mp a with rfl|a
 ·exact Et _
 ·rw[cD.mp a];exact Et _⟩
def K8{cs:List (Int×Int)}{f:ab}(e:f∈cs.map ah):p1 f:=by
 let⟨@n,W,rfl⟩:=ew.mp e;exact RD n
def JE{B:List ab}(e:∀f∈B,p1 f)(a:B.length<=290):uD (.tup B):=⟨(λg d=>by cases d),λT d=>by cases d;exact⟨a,e⟩⟩
theorem rk:∀D:List b2,ab.cQ 7 (D.map ah)=aa
 |[]=>rfl
 |c::D=>by
  rw[cK,ab.cQ,rk D];rfl
structure pV(cs:List b2):Prop where
 up:iB cs
 l9:∀n∈cs,0<=n.1/\n.1<=30/\0<=n.2/\n.2<=30
 len:cs.length<=200
def pV.px{cs:List b2}(N:pV cs):uD (.tup<|cs.map ah):=JE (λf a=>K8 a) (by rw[bS];have:=N.len;lia)
def pV.is{cs:List b2}(N:pV cs):xt (.tup<|cs.map ah)=aa:=by
 show ((cs.map ah).all iH&&sN (cs.map ah))=aa;rw[B5 N.up,xg,iU];intro f a;let⟨@n,b,rfl⟩:=ew.mp a;exact R4 (N.l9 n b)
def Jz(g c:List b2):es (aI ((g.map ah).length:Int)) (aI ((c.map ah).length:Int))=Z (du<|decide (g.length=c.length)):=by
 rw[nU,bS,bS];have:decide ((g.length:Int)=(c.length:Int))=decide (g.length=c.length):=lD.mpr ⟨λe=>⋯,λe=>⋯⟩;rw[this]
def Mq(j:b2)(r:List b2):a4 (aL (j::r)) (aI 0)=Z (.im<|ah j):=by
 show (eH ((j::r).map ah) 0).map ak.im=_;rw[xN (lH 0) (v:=ah j) rfl];rfl
def M5{L:ae}{r a:List b2}(N:pV (j::r))(b:oR [.aQ (bD (j::r)),.im<|ah j]=Z (aL a,[.aQ (bD (j::r)),.im<|ah j])):l6 L [aL (j::r)]=Z (du<|decide (a.length=(j::r).length),[aL (j::r)]):=by
 have d:=Qq (L:=L) N.px;rw[N.is]at d;have aU:=N.len;have J:=xE (cs:=j::r) (yi N.up) (by omega);have ne:es (aI (((j::r).map ah).length:Int)) (aI 0)=Z (du aq):=by
  rw[nU,ep (by rw[bS,dT];omega)]
 have U3:f5 (V<|bh 1 (G.qB L)<|aj (ag 0) aA) [Z (aL (j::r))]=Z (aa,[Z (aL (j::r))]):=h5 (aW<|c0 (UN:=[.aY 0]) (I:=[aL (j::r)]) (r:=du aa) rfl rfl rfl d rfl) rfl rfl;have U9:bx (aw es (V<|bR eo<|aj (ag 0) aA)<|V<|au<|.int 0) [Z (aL (j::r))]=Z (aq,[Z (aL (j::r))]):=d1 (bY (aW<|et (bV rfl rfl) rfl rfl) rfl rfl rfl ne);have c:bh 2 G.oR (aj (V<|bh 1 G.gE<|aj (ag 0) aA)<|aj (V<|aw a4 (ag 0)<|V<|au<|.int 0) aA) [Z (aL (j::r))]=Z (aL a,[Z (aL (j::r))]):=c0 (UN:=[.cB (.aQ<|bD (j::r)),.cB<|.im<|ah j]) (bV (aW<|c0 (UN:=[.aY 0]) (I:=[aL (j::r)]) rfl rfl rfl J rfl)<|bV (aW<|dj<|Mq j r) rfl) rfl rfl b rfl;unfold l6 DK;exact fD (k:=[Z (aL (j::r))]) rfl (cR (gZ (k8 (ks U3) U9) rfl)<|d_<|bY (aW<|et (bV (aW c) rfl) rfl rfl) (aW<|et (bV rfl rfl) rfl rfl) rfl rfl<|Jz a (j::r)) rfl
def Rv{a b:List aD}(t:a.Pairwise ro)(z:b.Pairwise ro)(o:a.Perm b):a=b:=C7 (le:=ro) (λg c W W f l=>by unfold ro at f l;exact eD ⋯ ⋯) t z o
structure gb(D ar:List aD):Prop where
 B:e7 D
 yN:jd D
 pm:ar.Perm (cells D)
 qg:jd ar
def gb.len(N:gb D ar):ar.length=4*D.length:=by rw[N.pm.length_eq,r7]
def gb.blocks(N:gb D ar):kc [aL ar]=Z (aL D,[aL ar]):=by
 let⟨m,a,b⟩:=uO N.B N.pm N.qg;have aU:=N.len;have aC:=N.B.len;have hF:=NH N.pm N.B.ai (λc e=>N.B.par c e m b);let⟨O,d,o,r⟩:=Pa a ⋯ (by rw[aU,hF.length_eq]);cases Rv (H0.mp r) (H0.mp N.yN) (o.trans hF);exact d
structure jC(D:List aD)(F:List ba):Prop where
 eJ:∀d∈F,e9 D d
 ai:F.Nodup
 up:qN F
 len:F.length+1=D.length
 sp:vv D F
def L4(N:gb D ar):∃F,ob [aL ar]=Z (.im<|.tup<|F.map aP,[aL ar])/\jC D F:=by
 have aC:=N.B.len;let⟨b,e,f⟩:=TX N.B;have ai:(ej (c_ D) (λc=>c,[])).2.Nodup:=(tX N.B.ai).sublist b;let⟨F,U5,g,h⟩:=DQ ai ⋯;have j:=Hc (kept:=[]) N.B (λ_ i=>nomatch i) ∅ g;refine⟨F,?_,λd a=>h9.mp<|b.subset<|U5.mem_iff.mp a,U5.nodup_iff.mpr ai,h,by rw[U5.length_eq];exact e,λp l=>f p λd a=>l d<|U5.mem_iff.mpr a⟩;unfold ob FE;exact fD (k:=[Z (aL ar)]) rfl (d_<|c0 (UN:=[.cB (aL D),.cB<|.im<|.tup []]) (bV (aW<|c0 (UN:=[.aY 0]) rfl rfl rfl N.blocks rfl)<|bV (aW rfl) rfl) rfl rfl j rfl) rfl
def RA(d:ba):mG [.im (aP d)]=Z (du aa,[.im (aP d)]):=rfl
theorem HV:∀{M:List ab},M.Pairwise (λg c=>a9 g c=aa)->((M.zip<|M.drop 1).all λo=>a9 o.1 o.2)=aa
 |[],_=>rfl
 |[_],_=>rfl
 |g::c::r,e=>by
  show (a9 g c&&(((c::r).zip<|(c::r).drop 1).all λo=>a9 o.1 o.2))=aa;let⟨t,z⟩:=hb.mp e;rw[t c (.head _),HV z];rfl
def fC(T:List ba):List (List ab×ab):=(T.map λd=>(ig d,.aC aa))
theorem D1{x:Option ak}:∀(a done:List ba) (b:Option ak),(done++a).Nodup->done.length+a.length<=1000->∃Vj,dK (bb 2) mu (a.map aP) [x,Z<|.aQ<|fC done,b]=Z (.aM,[x,Z<|.aQ<|fC<|done++a,Vj])
 |[],done,b,_,_=>⟨b,by rw[b_];rfl⟩
 |d::a,done,b,ai,f=>by
  rw[dT]at f;have g:d∉done:=λi=>(dz.mp ai).2.2 d i d (.head _) rfl;let⟨Vj,h⟩:=D1 (x:=x) a (done++[d]) (Z<|.im<|aP d) (by rw[bu];exact ai) (by rw[d7];show done.length+1+_<=_;lia);refine⟨Vj,?_⟩;have j:hI (.aQ<|fC done) (.im<|aP d) (.im<|.aC aa)=Z (.aQ<|fC<|done++[d]):=by
   have:g_ (fC done) (ig d) (.aC aa)=fC (done++[d]):=by
    unfold g_;rw[aO λi=>by
     let⟨p,k,e⟩:=oO.mp i;let⟨c,l,rfl⟩:=ew.mp k;exact g (Gf (eR e) ▸ l)]
    unfold fC;rw[fz];rfl
   rw[<-this];exact aJ ⟨rfl,by unfold fC;rw[bS];lia⟩
  have X:mu [x,Z<|.aQ<|fC done,Z<|.im<|aP d]=Z (.aM,[x,Z<|.aQ<|fC<|done++[d],Z<|.im<|aP d]):=by
   unfold mu;refine iY rfl ?_;show (hI (.aQ<|fC done) (.im<|aP d)<|.im<|.aC aa).map _=_;rw[j];rfl
  rw[cK,dK];show (mu [x,Z<|.aQ<|fC done,Z<|.im<|aP d]).bind _=_;rw[X,show done++d::a=done++[d]++a by rw[bu];rfl];exact h
def Ow(ai:T.Nodup)(b:T.length<=1000):gE [bf T]=Z (.aQ<|fC T,[bf T]):=by
 let⟨m,a⟩:=D1 (x:=Z .dd) T [] Y ai (by show 0+_<=_;lia);unfold gE vb;exact fD (k:=[Z (bf T),Z .dd,m]) rfl (cR (UE:=[Z (bf T),Z<|.aQ<|fC [],Y]) rfl<|cR (jz (m:=Z (0,bf T)) (UE:=[Z .dd,Z<|.aQ<|fC [],Y]) rfl a rfl)<|d_ rfl) rfl
def JU(T:List ba)(d:ba):ie (.im<|aP d) (.aQ<|fC T)=Z (du<|decide (d∈T)):=by
 have J:(eU (fC T)<|ig d).isSome=decide (d∈T):=by
  unfold eU fC;induction T with
  |nil=>rfl
  |cons g r a=>
   rw[cK,jl];by_cases i:g=d
   ·subst i;simp
   ·rw[show decide (((ig g,ab.aC aa):List ab×ab).1=ig d)=aq from ep λC=>i<|Gf C];dsimp only;rw[a,lD,bI];exact⟨.inr,λl=>l.resolve_left λC=>i C.symm⟩
 show ((if ab.keys 7 (ig d)=aa then Z (eU (fC T)<|ig d).isSome else Y).map λr=>ak.im<|.aC r)=_;rw[aJ (show ab.keys 7 (ig d)=aa from rfl),J];rfl
def mv{c:b2}(e:(g.1=c.1/\(g.2-c.2=1\/g.2-c.2 = -1))\/(g.2=c.2/\(g.1-c.1=1\/g.1-c.1 = -1))):p7 g c=aa:=by
 unfold p7;refine df ?_;split<;>split<;>omega
def gb.wq(N:gb D ar){m:aD}(q:m∈D):∀f∈ar,eM ar m f:=by
 have b:∀{c n:aD},c∈D->n∈eW c->n∈ar:=λa h=>N.pm.mem_iff.mpr (mm.mpr ⟨_,a,h⟩);have o:∀c:aD,(c.1,c.2+1)∈eW c:=λc=>.tail _ (.head _);have r:∀c:aD,(c.1+1,c.2+1)∈eW c:=λc=>.tail _ (.tail _<|.head _);have p:∀c:aD,(c.1+1,c.2)∈eW c:=λc=>.tail _ (.tail _<|.tail _<|.head _);have k:∀c:aD,c∈eW c:=λc=>.head _;have X:∀c∈D,eM ar m c->∀n∈eW c,eM ar m n:=λc a e n h=>by
  have t:eM ar m (c.1,c.2+1):=.step e (b a<|o c) (mv (by dsimp only;lia));have s:eM ar m (c.1+1,c.2):=.step e (b a<|p c) (mv (by dsimp only;lia));have z:eM ar m (c.1+1,c.2+1):=.step t (b a<|r c) (mv (by dsimp only;lia));simp only[eW,bI,hs,e_]at h;rcases h with i|i|i|i
  ·rw[i];exact e
  ·rw[i];exact t
  ·rw[i];exact z
  ·rw[i];exact s
 have R:∀c∈D,eM ar m c:=by
  classical
  have:=N.B.con (λc=>if eM ar m c then (0,0) else (1,1)) (λg j c a i=>by
   have u:eM ar m g->eM ar m c:=λe=>by
    rcases i with i|i
    ·rw[i];exact .step (X g j e _<|o g) (by rw[<-i];exact b a (k c)) (mv (by dsimp only;lia))
    ·rw[i];exact .step (X g j e _<|p g) (by rw[<-i];exact b a (k c)) (mv (by dsimp only;lia))
   have v:eM ar m c->eM ar m g:=λe=>by
    rcases i with i|i
    ·have t:eM ar m (g.1,g.2+1):=.step e (b j<|o g) (mv (by rw[i];dsimp only;lia));exact .step t (b j<|k g) (mv (by dsimp only;lia))
    ·have t:eM ar m (g.1+1,g.2):=.step e (b j<|p g) (mv (by rw[i];dsimp only;lia));exact .step t (b j<|k g) (mv (by dsimp only;lia))
   by_cases l:eM ar m g
   ·show (if eM ar m g then _ else _)=if eM ar m c then _ else _
    rw[aJ l,aJ<|u l]
   ·show (if eM ar m g then _ else _)=if eM ar m c then _ else _
    rw[aO l,aO λC=>l<|v C])
  intro c a;have d:=this m q c a;by_cases l:eM ar m c
  ·exact l
  ·exfalso;have d:(if eM ar m m then ((0:Int),(0:Int)) else (1,1))=if eM ar m c then (0,0) else (1,1):=d
   rw[aJ .self,aO l]at d;exact absurd (congrArg Prod.fst d) ∅
 intro f w;let⟨c,a,h⟩:=mm.mp (N.pm.mem_iff.mp w);exact X c a (R c a) f h
def IS{ar:List b2}(UH:j∈ar)(e:eM ar j f):f∈ar:=by
 cases e with
 |self=>exact UH
 |step _ a _=>exact a
def gb.field(N:gb D ar)(L:ae):l6 L [aL ar]=Z (du aa,[aL ar]):=by
 let⟨m,b,h⟩:=uO N.B N.pm N.qg;have wq:=N.wq h;have aU:=N.len;have aC:=N.B.len;have Uv:pV ar:=⟨t7.mp N.qg,λn i=>by
  let⟨c,k,l⟩:=mm.mp (N.pm.mem_iff.mp i);have:=N.B.lX c k;have:=vS.mp l;omega,by omega⟩
 cases ar with
 |nil=>cases b
 |cons j r=>
  cases b;let⟨o,p,q,g⟩:=Pr (cs:=m::r) (j:=m) (by omega);have e:=M5 (L:=L) Uv p;have d:o.length=(m::r).length:=Nat.le_antisymm (uW (yi q) λf a=>IS (.head _)<|(g f).mp a) (uW (yi Uv.up) λf a=>(g f).mpr<|wq f a);rw[df d]at e;exact e
theorem yj:∀F:List ba,ab.cQ 7 (F.map aP)=aa
 |[]=>rfl
 |d::r=>by rw[cK,ab.cQ,yj r];rfl
def Sb(M:List aD)(n:aD):ie (.im<|ah n) (a3 M)=Z (du<|decide (n∈M)):=by
 show (ho (ah n)<|a3 M).map _=_;rw[yU];rfl
def KN(F:List ba)(f:aD):List aD:=((F.filter λd=>decide (d.1=f)).map (·.2)++(F.filter λd=>decide (d.2=f)).map (·.1))
structure jm(D:List aD)(F:List ba)(met:List aD)(q:Nat):Prop where
 ai:met.Nodup
 sub:∀f∈met,f∈D
 fst:∀m,D[0]?=Z m->m∈met
 bM:∀b f,b<q->met[b]?=Z f->∀l,l∈KN F f->l∈met
end G
namespace L2
open Spec PyProof.Rows
section
variable{a:aK}{G:List (ae×a7)}{x:a5}{h:az}{j:ao}
variable{aH b:ae}{U7:List d0}{l:aF}{V3 q:Pos}{S:bz}{e:List bz}
def Pp{V2:af->ao->Prop}{d:ae}{VG:af}{c2:List zX}{k:kx}{I:e2}(g:aG a G x h j)(f:ky a G h j.heap d aH VG)(y:a.stack=a.env::U7)(z:a.ex=[])(B:ey a l)(D:a.ay l=Z (.ref b))(E:Φa a.K (.ref aH) (.ref b)=Z aa)(UH:∀Vw:a7,Vw.cls=.ref aH->gs (a.n9 G d Vw) (S::e) I)(F:I k x h)(hd:(l==("__debug__" : aF))=aq:=by decide):
  wpAny (aS a.prog a.w) a.A (handleBy (.ref d) a.env (.ExceptHandler (Z<|.Name l V3) Y (S::e) q::c2)) (jO a G k) V2 j:=by
 refine wpAny_handleBy_cons (codeAny_handlers_test ?_) (by intro p;cases p);obtain⟨Vw,t,J⟩:∃Vw,j.heap.get? d=Z Vw/\Vw.cls=.ref aH:=by
  let⟨U,U,Vw,U,U,U,U,n,o,U⟩:=f;exact⟨Vw,n,o.1⟩
 have UW:=g.n9 f t;refine tG UW B D ?_ hd;have LT:PySem.W.Looks (aS a.prog a.w) j.heap (p3<|.ref d) (.ref aH):=J ▸ ((Lx t).andThen .now);refine PySem.W.exm_one (M:=aS a.prog a.w) g.kd LT E _ _ _ j (λc m p=>p) ?_;refine codeAny_handlers_suite (TQ g f y z λUu Vh v=>?_);obtain⟨M,N,R⟩:∃Vw,Uu.get? d=Z Vw/\Vw.cls=.ref aH:=by
  let⟨U,U,Vw,U,U,U,U,n,o,U⟩:=v;exact⟨Vw,n,o.1⟩
 refine gS (UH M R [] _ _ h _ (Vh.n9 v N) F) (λL T p=>?_) λ_ U i=>False.elim i;cases L with
 |next=>let⟨s,P,Q,p⟩:=p;exact⟨_,P,Q.vV g.ok,p⟩
 |brk=>let⟨s,P,Q,p⟩:=p;exact⟨_,P,Q.vV g.ok,p⟩
 |cont=>let⟨s,P,Q,p⟩:=p;exact⟨_,P,Q.vV g.ok,p⟩
 |ret H=>let⟨u,s,P,Q,r,p⟩:=p;exact⟨u,_,P,Q.vV g.ok,r,p⟩
def BX(r:iv)(J:bt):bt:=(λk=>(r k).bind J)
def SM{UU:List Nat}{VN:List bz}{UM:Pos}{Vz:ae}{Vp J:bt}{r:iv}(s:a.stack=a.env::U7)(v:a.env.frame=Z Vz)(t:a.ex=[])(w:ey a l)(z:a.ay l=Z (.ref b))(A:Φa a.K (.ref aH) (.ref b)=Z aa)(B:∀Uv o,hX (a.hold Uv o) UU VN Vp)(D:∀Uv o y,(∀x h,y x h->qK (a.hold Uv o) aH x h)->g0 (a.hold Uv o) UU y VN (hj r))(UH:∀o d Vw,Vw.cls=.ref aH->hX (a.n9 o d Vw) UU (S::e) J)(hd:(l==("__debug__" : aF))=aq:=by decide):
  gG a UU (.Try VN [.ExceptHandler (Z<|.Name l V3) Y (S::e) q] [] [] UM) (rq Vp<|BX r J):=by
 intro G j x h k u ⟨g,N,aU,UE,X,ai,c,p⟩;unfold rq at c;cases m:Vp g with
 |some r=>
  rw[m]at c;exact (Ru (UM:=UM) B) j x h k u ⟨g,N,aU,UE,X,ai,by rw[m];exact c,p⟩
 |none=>
  rw[m]at c;let⟨UO,E,F⟩:=bE.mp c;refine HX (gS ((D _ G (λf P=>∃U8,c3 UU x f/\bA P UO f U8/\bk h N P U8)<|λf P M ap Ux d VG Vh O=>?_) [] j x h k (u.hold _) ⟨g,N,UO,X,ai,E,λf P U8 Vm n sp=>⟨U8,Vm,n,sp⟩⟩) (λL R C=>?_) λd R i=>i)
  ·let⟨U8,Vm,n,sp⟩:=M;have Q:=Vh.kR;have T:=O.kR;refine OP Q T Q.ok.frames s v t λUu al am=>?_;exact Pp al am s t w z A (I:=oc UU J) (λVw an=>UH G d Vw an) ⟨_,U8,aU,UE,n,sp.ai,F,p.on Vm sp⟩ hd
  ·have C:=jO.kR C;cases L with
   |next=>exact pn C
   |brk=>exact C
   |cont=>exact C
   |ret H=>exact C
end
end L2
namespace G
open L2
variable{o:aD->aD}{U2 F:List ba}{D:List aD}
def zo(a b:ae):aE ak:=((aw ie (ag 0)<|ag 1))
def vp(a b:ae):bt:=((bL (d3 (iT (fK<|f5<|V<|bh 1 (G.l6 b)<|aj (ag 0) aA)<|fK<|f5<|V<|bh 2 (G.pY a)<|aj (ag 1)<|aj (V<|au<|.fn a) aA) (cy<|au<|.aC aq) eX)<|bL (rq (cj 2<|bh 1 G.kc<|aj (ag 0) aA)<|BX (wb 1 (mf 1 2 G.pv)<|aj (ag 0) aA)<|cy<|au<|.aC aq)<|bL (cj 3<|bh 1 G.gE<|aj (V<|bh 1 G.qc<|aj (ag 2) aA) aA)<|cy<|gK<|eO (bx<|bR hZ<|aj (V<|de 1 [3] (dD<|ag 1) (bb 0) d5<|G.zo a b) aA)<|bx<|aw es (V<|bh 2 G.nG<|aj (ag 2)<|aj (ag 1) aA)<|ag 1))
def qr(a b:ae):cP:=(c5 2 4 [0,1] (vp a b))
def Ac(M:List ab):Bool:=((M.zip<|M.drop 1).all λo=>a9 o.1 o.2)
def P1{L:ae}(p:F.length<=1000):pY L [.im (.tup<|F.map aP),.im<|.fn L]=Z (du<|Ac<|F.map aP,[.im (.tup<|F.map aP),.im<|.fn L]):=by
 obtain⟨k,a⟩:∃k:a0,k=[Z (.im<|.tup<|F.map aP),Z<|.im<|.fn L]:=⟨_,rfl⟩;have h:de 1 [1] (dD<|ag 0) (bb 0) d5 (ym L) k=Z (.lst<|F.map λ_=>.aC aa,k):=by
  rw[a];refine l7 (y:=F.map aP) (m:=Y) (UE:=[Z (.im<|.tup<|F.map aP),Z<|.im<|.fn L]) rfl (jr aP (λ_=>.aC aa) _ (λf q=>?_) (by omega)) rfl;refine⟨[Z (.im<|aP f),Z<|.im<|.fn L],_,[Z (.im<|aP f),Z<|.im<|.fn L],rfl,rfl,?_,rfl⟩;unfold ym;show (if L=L then _ else _)=_;rw[aJ rfl];exact c0 (UN:=[.aY 0]) rfl rfl rfl (RA f) rfl
 have i:de 2 [] (jW<|aj (ag 0)<|aj (V<|gj (ag 0) (ht<|au<|.int 1) gX) aA) (d6 2<|cc (bb 0)<|cc (bb 1) eb) d5 (GV L) k=Z (.lst<|((F.map aP).zip<|(F.map aP).drop 1).map λo=>.aC<|a9 o.1 o.2,k):=by
  rw[a];refine l7 (y:=((F.map aP).zip<|(F.map aP).drop 1).map λo=>.tup [o.1,o.2]) (m:=Y) (UE:=[Z (.im<|.tup<|F.map aP),Z<|.im<|.fn L]) ?_ (jr (λo:ab×ab=>.tup [o.1,o.2]) (λo=>.aC<|a9 o.1 o.2) _ (λo b=>?_) ?_) rfl
  ·rw[<-yM];exact v3 (bV rfl (bV (aW (xJ (a:=.im (.tup<|(F.map aP).drop 1)) rfl rfl rfl rfl (by show Z (ak.im<|.tup<|fy (F.map aP) (Z ((1:Nat):Int)) Y)=_;rw[oi]))) rfl)) rfl
  ·let⟨g,W,d⟩:=ew.mp (oL b).1;let⟨c,W,e⟩:=ew.mp (mh (oL b).2);let⟨f,l⟩:=o;dsimp only at d e ⊢;subst d e;exact⟨[Z (.im<|aP g),Z<|.im<|aP c],_,[Z (.im<|aP g),Z<|.im<|aP c],rfl,rfl,bY rfl rfl rfl rfl rfl,rfl⟩
  ·rw[v7,gQ,bS];omega
 have j:hZ [.lst (F.map λ_=>.aC aa)]=Z (du aa):=by
  rw[pg (λ_:ba=>aa) F,show (F.all λ_=>aa)=aa from iU.mpr λ_ W=>rfl]
 have n:=pg (λo:ab×ab=>a9 o.1 o.2) ((F.map aP).zip<|(F.map aP).drop 1);unfold pY Ir;refine fD (k:=k) rfl ?_ (by rw[a];rfl);show bL _ _ [Z (.im<|.tup<|F.map aP),Z<|.im<|.fn L]=_;rw[<-a];exact cR (gZ (k8 (ks (by rw[a];exact h5 rfl rfl rfl))<|ks<|h5 (aW<|et (bV (aW h) rfl) rfl j) rfl rfl) rfl) (d_<|et (bV (aW i) rfl) rfl n)
theorem Ig:∀(T:List ba) (j:(aD->aD)×List ba),(∀d∈j.2,j.1 d.1=j.1 d.2)->j.2.Nodup->(ej T j).2.Nodup
 |[],_,_,e=>e
 |d::T,j,t,z=>by
  show (ej T<|bG j d).2.Nodup;refine Ig T _ ?_ ?_
  ·unfold bG;split
   ·exact t
   ·rename_i i;intro f a;show gh j.1 d f.1=gh j.1 d f.2;rcases dv.mp a with p|p
    ·unfold gh;rw[t f p]
    ·rw[cD.mp p];unfold gh;rw[aO i,aJ rfl]
  ·unfold bG;split
   ·exact z
   ·rename_i i;exact dz.mpr ⟨z,fJ _ _,λf a l b p=>i (by rw[<-cD.mp b,<-p];exact t f a)⟩
def Le(UY:e7 D)(f:∀d∈F,e9 D d):(ej (F++c_ D) (λc=>c,[])).2.Nodup/\(ej (F++c_ D) (λc=>c,[])).2.length+1=D.length/\vv D (ej (F++c_ D) (λc=>c,[])).2:=by
 have j:∀d∈F++c_ D,d.1∈D/\d.2∈D:=λd e=>by
  rcases dv.mp e with e|e
  ·exact⟨(f d e).1,(f d e).2.1⟩
  ·exact⟨(h9.mp e).1,(h9.mp e).2.1⟩
 let⟨Vh,W,n,W⟩:=vF UY.ai (F++c_ D) (λc=>c,[]) (j_.start D) j;have all:∀g∈D,∀c∈D,(ej (F++c_ D) (λc=>c,[])).1 g=(ej (F++c_ D) (λc=>c,[])).1 c:=UY.con _ λg a c b i=>n (g,c) (ei _<|h9.mpr ⟨a,b,i⟩);refine⟨Ig _ _ (λ_ i=>nomatch i) my,xC Vh UY.ai UY.ne all,λp h g a c b=>?_⟩;rw[<-Vh.gen p h g a,<-Vh.gen p h c b,all g a c b]
def Tp{Vp VD:bt}{k:a0}{r:nz×a0}(e:Vp k=Z r):rq Vp VD k=Z r:=by unfold rq;rw[e]
theorem tZ:∀UW F:List ba,eP (UW.map aP) (F.map aP)=decide (UW=F)
 |[],[]=>rfl
 |[],_::_=>rfl
 |_::_,[]=>rfl
 |g::UW,c::F=>by
  rw[cK,cK,eP,tZ UW F,xl,<-Fz];exact lD.mpr (by rw[HI])
def Fc(UW F:List ba):es (.im<|.tup<|UW.map aP) (.im<|.tup<|F.map aP)=Z (du<|decide (UW=F)):=by
 show (if (ab.cQ 7 (UW.map aP)&&ab.cQ 7 (F.map aP))=aa then Z (ak.im<|.aC<|eP (UW.map aP)<|F.map aP) else Y)=_;rw[yj,yj,aJ<|show (aa&&aa)=aa from rfl,tZ]
def Rk{ar:List aD}{a h:ae}(N:gb D ar)(u:F.length<=100):∃c,qr a h [aL ar,.im<|.tup<|F.map aP]=Z (du c,[aL ar,.im<|.tup<|F.map aP])/\(c=aa↔jC D F):=by
 have aC:=N.B.len;have H:(c_ D).length<=2*D.length:=r1 D D;have r:=N.field h;have i2:=P1 (L:=a) (F:=F) ⋯;unfold qr vp;cases n:Ac (F.map aP) with
 |false=>
  rw[n]at i2;refine⟨aq,fD (k:=[Z (aL ar),Z<|.im<|.tup<|F.map aP,Y,Y]) rfl (rl<|p_ (k8 (ks<|h5 (aW<|c0 (UN:=[.aY 0]) rfl rfl rfl r rfl) rfl rfl)<|Rb<|h5 (aW<|c0 (UN:=[.aY 1,.cB<|.im<|.fn a]) rfl rfl rfl i2 rfl) rfl rfl)<|d_ rfl) rfl,λi=>(by cases i),λI=>?_⟩;rw[show Ac (F.map aP)=aa from HV I.up]at n;cases n
 |true=>
  rw[n]at i2;have v:iT (fK<|f5<|V<|bh 1 (G.l6 h)<|aj (ag 0) aA) (fK<|f5<|V<|bh 2 (G.pY a)<|aj (ag 1)<|aj (V<|au<|.fn a) aA) [Z (aL ar),Z<|.im<|.tup<|F.map aP,Y,Y]=Z (aq,[Z (aL ar),Z<|.im<|.tup<|F.map aP,Y,Y]):=
   k8 (ks<|h5 (aW<|c0 (UN:=[.aY 0]) rfl rfl rfl r rfl) rfl rfl) (ks<|h5 (aW<|c0 (UN:=[.aY 1,.cB<|.im<|.fn a]) rfl rfl rfl i2 rfl) rfl rfl);obtain⟨k,o⟩:∃k:a0,k=[Z (aL ar),Z<|.im<|.tup<|F.map aP,Z<|aL D,Z<|.aQ<|fC<|c_ D]:=⟨_,rfl⟩;have s:de 1 [3] (dD<|ag 1) (bb 0) d5 (zo a h) k=Z (.lst<|F.map λd=>.aC<|decide (d∈c_ D),k):=by
   rw[o];refine l7 (y:=F.map aP) (m:=Y) (UE:=[Z (aL ar),Z<|.im<|.tup<|F.map aP,Z<|aL D,Z<|.aQ<|fC<|c_ D]) rfl (jr aP (λd=>.aC<|decide (d∈c_ D)) _ (λf J=>?_) ⋯) rfl;exact⟨[Z (.im<|aP f),Z<|.aQ<|fC<|c_ D],_,[Z (.im<|aP f),Z<|.aQ<|fC<|c_ D],rfl,rfl,dj<|JU (c_ D) f,rfl⟩
  have q:=pg (λd:ba=>decide (d∈c_ D)) F;have fin:∀c,eO (bx<|bR hZ<|aj (V<|de 1 [3] (dD<|ag 1) (bb 0) d5<|G.zo a h) aA) (bx<|aw es (V<|bh 2 G.nG<|aj (ag 2)<|aj (ag 1) aA)<|ag 1) k=Z (c,k)->c5 2 4 [0,1] (vp a h) [aL ar,.im<|.tup<|F.map aP]=Z (du c,[aL ar,.im<|.tup<|F.map aP]):=λc w=>by
   unfold vp;refine fD (k:=k) rfl (cR (gZ v rfl) (cR (UE:=[Z (aL ar),Z<|.im<|.tup<|F.map aP,Z<|aL D,Y]) (Tp<|kL (c0 (UN:=[.aY 0]) rfl rfl rfl N.blocks rfl) (iX rfl) rfl) (cR (UE:=k) (by
    rw[o];exact kL (c0 (UN:=[.cB (bf<|c_ D)]) (bV (aW<|c0 (UN:=[.aY 2]) rfl rfl rfl (Ct N.B) rfl) rfl) rfl rfl (Ow (tX N.B.ai) ⋯) rfl) (iX rfl) rfl)<|d_<|sy w))) (by rw[o];rfl)
  cases j:F.all λd=>decide (d∈c_ D) with
  |false=>
   rw[j]at q;refine⟨aq,fin aq<|qt<|d1<|et (bV (aW s) rfl) rfl q,λi=>(by cases i),λI=>?_⟩;rw[iU.mpr λd l=>df<|h9.mpr<|I.eJ d l]at j;cases j
  |true=>
   rw[j]at q;have eJ:∀d∈F,e9 D d:=λd l=>h9.mp (eR<|iU.mp j d l);let⟨t,x,z⟩:=Le N.B eJ;let⟨UW,U5,b,A⟩:=DQ t ⋯;have C:=Hc N.B eJ u b;refine⟨decide (UW=F),fin _ (kM (d1<|et (bV (aW s) rfl) rfl q) (d1 (by
    rw[o];exact bY (aW<|c0 (UN:=[.aY 2,.aY 1]) rfl rfl rfl C rfl) rfl rfl rfl (Fc UW F)))),λi=>?_,λI=>df ?_⟩
   ·have d:=eR i;subst d;exact⟨eJ,U5.nodup_iff.mpr t,A,by rw[U5.length_eq];exact x,λp E=>z p λd l=>E d<|U5.mem_iff.mpr l⟩
   ·rw[Kv N.B I.eJ I.len I.sp,RT I.ai ⋯ I.up]at b;injection b with b;injection b with b;exact ((List.map_inj_right λg c e=>B7 e).mp b).symm
abbrev e6(F:List ba):ak:=.im (.tup<|F.map aP)
def aX(v:ab):Bool:=(match mG [.im v] with
 |some (.im<|.aC u,_)=>u
 |_=>aq)
def Jg(ai:D.Nodup){U2:List ba}{o:aD->aD}(q:hQ D U2 o):∃S:List aD,S.Nodup/\(∀f,f∈S↔∃c∈D,o c=f)/\S.length+U2.length=D.length:=by
 induction q with
 |nil=>exact⟨D,ai,λf=>⟨λe=>⟨f,e,rfl⟩,λ⟨c,a,d⟩=>by rw[<-d];exact a⟩,rfl⟩
 |@add U2 o d q b k l=>
  let⟨S,g,h,m⟩:=l;have j:o d.1∈S:=(h _).mpr ⟨d.1,b.1,rfl⟩;refine⟨S.erase<|o d.1,g.erase _,λf=>?_,?_⟩
  ·rw[g.mem_erase_iff,h];constructor
   ·rintro⟨t,c,a,rfl⟩;exact⟨c,a,aO t⟩
   ·rintro⟨c,a,e⟩;have e:(if o c=o d.1 then o d.2 else o c)=f:=e;by_cases n:o c=o d.1
    ·rw[aJ n]at e;rw[<-e];exact⟨λi=>k i.symm,d.2,b.2.1,rfl⟩
    ·rw[aO n]at e;rw[<-e];exact⟨n,c,a,rfl⟩
  ·rw[Gy j,d7,kK];have:=yr j;lia
def BR(UY:e7 D){U2:List ba}{o:aD->aD}(q:hQ D U2 o)(j:∀d,e9 D d->o d.1=o d.2):U2.length+1=D.length:=by
 let⟨S,k,h,p⟩:=Jg UY.ai q;have n:=UY.con o λg a c b e=>j (g,c) ⟨a,b,e⟩;obtain⟨c,r,b⟩:∃c r,D=c::r:=by
  cases l:D with
  |nil=>exact absurd l UY.ne
  |cons c r=>exact⟨c,r,rfl⟩
 have i:c∈D:=by rw[b];exact .head _
 have:S.length=1:=by
  have t:o c∈S:=(h _).mpr ⟨c,i,rfl⟩;have z:S.length<=[o c].length:=k.length_le_of_subset λf m=>by
   let⟨g,a,rfl⟩:=(h f).mp m;rw[n g a c i];exact .head _
  have:=yr t;simp at z;lia
 lia
def S0(q:hQ D U2 o):(∀d∈U2,o d.1=o d.2)/\U2.Nodup:=by
 induction q with
 |nil=>exact⟨λ_ e=>(by cases e),my⟩
 |@add U2 o d q h c a=>
  refine⟨λf b=>?_,dz.mpr ⟨a.2,fJ _ _,λf b l g i=>c (by rw[cD.mp g]at i;rw[<-i];exact a.1 f b)⟩⟩;show (if o f.1=o d.1 then o d.2 else o f.1)=if o f.2=o d.1 then o d.2 else o f.2
  rcases dv.mp b with e|e
  ·rw[a.1 f e]
  ·rw[cD.mp e,aJ rfl,aO λi=>c i.symm]
def LG(q:hQ D U2 o):∀p:aD->aD,(∀d∈U2,p d.1=p d.2)->∀c,p (o c)=p c:=by
 induction q with
 |nil=>exact λ_ W W=>rfl
 |@add U2 o d q h j e=>
  intro p b c;have a:=e p λf g=>b f (eG _ g);show p (if o c=o d.1 then o d.2 else o c)=p c;split
  ·rename_i i;rw[a,<-b d (ei _<|.head _),<-a d.1,<-i,a]
  ·exact a c
def DS(UY:e7 D)(U5:F.Perm U2)(q:hQ D U2 o)(j:qN F)(h:∀d,e9 D d->o d.1=o d.2):jC D F:=by
 refine⟨λd a=>q.wJ d<|U5.mem_iff.mp a,U5.nodup_iff.mpr (S0 q).2,j,by rw[U5.length_eq];exact BR UY q h,λp k g b c f=>?_⟩;have e:=LG q p λd a=>k d (U5.mem_iff.mpr a);have n:o g=o c:=UY.con o (λg b c f i=>h (g,c) ⟨b,f,i⟩) g b c f;rw[<-e g,<-e c,n]
end G
namespace L2
open Spec PyProof.Rows
end L2
namespace G
open L2
variable{Uy:dM}{c:aD}{UW F:List ba}{D:List aD}
def Hk(a:ae):aE ak:=((gK<|eO (bx<|bh 1 G.k0<|aj (ag 0) aA)<|bx<|aw ie (ag 0)<|ag 1))
def Gv(a:ae):aE ak:=((aw ie (ag 1)<|V<|bh 1 G.sk<|aj (ag 0) aA))
def Il(a:ae):bt:=((bL (d3 (iT (fK<|f5<|V<|bh 1 (G.l6 a)<|aj (ag 0) aA)<|iT (fK<|f5<|V<|mT "tuple"<|ag 1)<|bx<|aw es (V<|bR eo<|aj (ag 1) aA)<|V<|au<|.int 0) (cy<|au<|.aC aq) eX)<|bL (cj 2<|bh 1 G.gE<|aj (ag 0) aA)<|bL (d3 (fK<|f5<|V<|bR hZ<|aj (V<|de 1 [2] (dD<|ag 1) (bb 0) d5<|G.Hk a) aA) (cy<|au<|.aC aq) eX)<|cy<|bR hZ<|aj (V<|de 2 [] (jW<|aj (ag 1)<|aj (V<|gj (ag 1) (ht<|au<|.int 1) gX) aA) (d6 2<|cc (bb 0)<|cc (bb 1) eb) d5<|G.Gv a) aA))
def pG(a:ae):cP:=(c5 2 3 [0,1] (Il a))
def q6(a b:ae)(Uy:dM):bt:=((d3 (bx<|aw eV (V<|bh 3 (G.kT Uy)<|aj (ag 0)<|aj (ag 1)<|aj (ag 3) aA)<|ag 4) (cy<|au<|.aC aq) eX))
def x1(b a:ae)(Uy:dM):bt:=((bL (d3 (bx<|aw (pP aa) (V<|bh 2 (G.qr b a)<|aj (ag 0)<|aj (ag 1) aA)<|V<|au<|.aC aa) (cy<|au<|.aC aq) eX)<|bL (cj 2<|bh 2 (G.kF Uy)<|aj (ag 0)<|aj (ag 1) aA)<|bL (d3 (iT (bx<|aw (pP aa) (V<|bh 2 (G.pG a)<|aj (ag 0)<|aj (ag 2) aA)<|V<|au<|.aC aa)<|iT (bx<|aw eV (V<|bR fk<|aj (ag 2) aA)<|V<|bR r9<|aj (ag 0) aA)<|bx<|aw eV (V<|aw a4 (ag 2)<|V<|au<|.int 0)<|V<|aw a4 (ag 0)<|V<|au<|.int 0) (cy<|au<|.aC aq) eX)<|bL (gv (jW<|aj (ag 2)<|aj (V<|aw dg (V<|gj (ag 2) (ht<|au<|.int 1) gX)<|V<|gj (ag 2) gX<|ht<|au<|.int 1) aA) (d6 2<|cc (bb 3)<|cc (bb 4) eb)<|G.q6 b a Uy)<|cy<|aw es (V<|bh 2 (G.sI Uy)<|aj (ag 0)<|aj (ag 1) aA)<|V<|bh 1 G.pK<|aj (V<|aw dg (ag 2)<|V<|gj (ag 2) gX<|ht<|au<|.int 2) aA))
def oV(a b:ae)(Uy:dM):cP:=(c5 2 5 [0,1] (x1 a b Uy))
def rN(a b:ae)(Uy:dM):aE ak:=((bh 2 (G.oV a b Uy)<|aj (ag 1)<|aj (ag 0) aA))
def n1(a b:ae)(Uy:dM):bt:=((d3 (bx<|aw eV (V<|aw es (ag 6)<|ag 7)<|V<|aw es (V<|bh 2 (G.kF Uy)<|aj (ag 4)<|aj (ag 6) aA)<|V<|bh 2 (G.kF Uy)<|aj (ag 4)<|aj (ag 7) aA) (cy<|au<|.aC aq) eX))
def u5(a b:ae)(Uy:dM):bt:=((bL (cj 2<|bh 2 G.rP<|aj (ag 0)<|aj (ag 1) aA)<|bL (cj 3<|bh 1 G.rZ<|aj (ag 2) aA)<|bL (cj 4<|bh 1 G.sH<|aj (ag 3) aA)<|bL (d3 (bx<|aw eV (V<|bh 1 G.kc<|aj (ag 4) aA)<|V<|bR jv<|aj (ag 3) aA) (cy<|au<|.aC aq) eX)<|bL (cj 5<|eC<|aj (V<|bh 2 G.lA<|aj (ag 2)<|aj (ag 3) aA)<|aj (V<|bh 2 G.lA<|aj (ag 2)<|aj (ag 3) aA)<|aj (V<|bh 1 G.ob<|aj (ag 4) aA) aA)<|bL (d3 (fK<|f5<|V<|bR hZ<|aj (V<|de 1 [4] (dD<|ag 5) (bb 0) d5<|G.rN a b Uy) aA) (cy<|au<|.aC aq) eX)<|gv (kE<|aj (ag 5)<|aj (V<|lW<|l_<|gj (ag 5) (ht<|au<|.int 1) gX) aA) (d6 2<|cc (bb 6)<|cc (bb 7) eb)<|G.n1 a b Uy))
def yc(a b:ae)(Uy:dM):bt:=((bL (gv (nc<|aj (V<|bR rV<|aj (V<|au<|.int 1)<|aj (V<|bR sQ<|aj (V<|au<|.int 4)<|aj (V<|bR eo<|aj (ag 0) aA) aA) aA) aA) (bb 1)<|G.u5 a b Uy)<|cy<|au<|.aC aa))
def r4(a b:ae)(Uy:dM):cP:=(c5 1 8 [0] (yc a b Uy))
theorem G9{D:List aD}:∀(UA:List ba),(∀d∈UA,e9 D d)->∃U2 o,hQ D U2 o/\U2.Sublist UA.reverse/\∀d∈UA,o d.1=o d.2
 |[],_=>⟨[],_,.nil,.slnil,λ_ e=>nomatch e⟩
 |d::UA,e=>by
  let⟨U2,o,q,j,b⟩:=G9 UA λf a=>e f (.tail _ a);rw[List.reverse_cons];by_cases n:o d.1=o d.2
  ·exact⟨U2,o,q,j.trans<|List.sublist_append_left _ _,λf a=>by
    rcases bI.mp a with rfl|a
    ·exact n
    ·exact b f a⟩
  ·refine⟨_,_,.add q (e d<|.head _) n,j.append<|.refl _,λf a=>?_⟩;show (if o f.1=o d.1 then o d.2 else o f.1)=if o f.2=o d.1 then o d.2 else o f.2
   rcases bI.mp a with rfl|a
   ·rw[aJ rfl,aO λi=>n i.symm]
   ·rw[b f a]
def jC.gR(UY:e7 D)(I:jC D F):∃o,hQ D F o/\∀d,e9 D d->o d.1=o d.2:=by
 let⟨U2,o,q,j,b⟩:=G9 (D:=D) F.reverse λd a=>I.eJ d (F7.mp a);rw[List.reverse_reverse]at j;have g:∀d,e9 D d->o d.1=o d.2:=λd a=>I.sp o (λf c=>b f<|F7.mpr c) _ a.1 _ a.2.1;have M:=BR UY q g;have:=I.len;rw[j.eq_of_length ⋯]at q;exact⟨o,q,g⟩
def K0(UY:e7 D){j I:aD×Nat}(UH:j∈c4 D)(f:I∈c4 D)(e:gd j=gd I):j=I:=by
 let⟨g,q⟩:=j;let⟨c,w⟩:=I;have a:=fA.mp UH;have b:=fA.mp f;have e:bM g q=bM c w:=e;have d:g=c:=UY.one a.1 b.1 (wh g a.2) (by rw[e];exact wh c b.2);subst d;have i:q=w:=KU a.2 b.2 e;rw[i]
def NR{q:Nat}(a:q<4)(e:aM F (c,q)=aM UW (c,q)):eE F c (dG c q)=eE UW c (dG c q):=by
 have s:dG c q≠c:=by
  intro i
  match q,a with
  |0,_=>have:=congrArg Prod.fst i;simp only[dG]at this;lia
  |1,_=>have:=congrArg Prod.snd i;simp only[dG]at this;lia
  |2,_=>have:=congrArg Prod.fst i;simp only[dG]at this;lia
  |3,_=>have:=congrArg Prod.snd i;simp only[dG]at this;lia
 unfold aM at e;dsimp only at e;cases t:eE F c (dG c q)<;>cases z:eE UW c (dG c q)<;>rw[t,z]at e
 ·exact absurd (congrArg Prod.fst e).symm s
 ·exact absurd (congrArg Prod.fst e) s
def Cu(h:∀d∈F,e9 D d)(k:∀d∈UW,e9 D d)(e:∀j∈c4 D,aM F j=aM UW j):∀d∈F,d∈UW:=λd a=>by
 let⟨g,c⟩:=d;have b:=h _ a;have q:∃q,q<4/\c=dG g q:=by
  rcases b.2.2 with i|i
  ·exact⟨1,by decide,i⟩
  ·exact⟨2,by decide,i⟩
 let⟨q,f,rfl⟩:=q;have w:=NR f (e (g,q)<|fA.mpr ⟨b.1,f⟩);have bG:eE F g (dG g q)=aa:=df (.inl a);rw[bG]at w;rcases eR w.symm with i|i
 ·exact i
 ·have p:=(k _ i).2.2;have l:=b.2.2;generalize dG g q=n at *;let⟨m,o⟩:=n;let⟨r,s⟩:=g;simp only[ox]at p l;lia
def Lh{m:aD}(UY:e7 D)(c:jC D F)(a:jC D UW)(g:m∈D)(e:cI F m (4*D.length)=cI UW m (4*D.length)):F=UW:=by
 let⟨o,q,l⟩:=c.gR UY;let⟨p,n,r⟩:=a.gR UY;let⟨u,v⟩:=zk UY (.refl _) q l g;let⟨y,w⟩:=zk UY (.refl _) n r g;have h:(m,0)∈c4 D:=fA.mpr ⟨g,by simp⟩;have d:∀b,b<=4*D.length->ct (aM F) (m,0) b=ct (aM UW) (m,0) b:=λb Uw=>by
  by_cases i:b=4*D.length
  ·rw[i,v,w]
  ·have Uw:b<4*D.length:=⋯
   refine K0 UY ((o3 c.eJ).ct h b) ((o3 a.eJ).ct h b) ?_;have J:=congrArg (λM=>M[b]?) e;simpa [cI,Uw] using J
 have s:∀j∈c4 D,aM F j=aM UW j:=λj UH=>by
  let⟨b,Uw,rfl⟩:=ew.mp (u.mem_iff.mpr UH);have Uw:=ip.mp Uw;have:=d (b+1) Uw;have x:=d b ⋯;show ct (aM F) (m,0) (b+1)=_;rw[this,x];rfl
 have U5:F.Perm UW:=(Fp c.ai a.ai).mpr λf=>⟨Cu c.eJ a.eJ s f,Cu a.eJ c.eJ (λj UH=>(s j UH).symm) f⟩;have M:=a.len;have aC:=UY.len;have k:=uf a.ai ⋯;have t:=tC k.1 (U5.map aP) c.up;have z:=tC k.1 (.refl _) a.up;have J:=tZ F UW;rw[t,<-z,tZ,df rfl]at J;exact eR J.symm
def Nd{g:aD}(e:qL g c):c∈hU g:=by
 let⟨a,b⟩:=g;let⟨aR,aX⟩:=c;unfold qL fB at e;simp only[hU,bI,ox,hs,e_];dsimp only at e;split at e<;>split at e<;>lia
theorem xf{U1:Type}(y:List U1):hZ [.lst (y.map λ_=>.aC aa)]=Z (du aa):=(pg (λ_=>aa) y).trans (by rw[iU.mpr λ_ W=>rfl])
def Ma{L:ae}{ar:List aD}{n:Nat->aD}{s:Nat}(N:gb D ar)(p:s<=500)(d:∀b,n b∈ar)(e:∀b,qL (n b)<|n<|b+1):pG L [aL ar,aL<|cs n<|s+1]=Z (du aa,[aL ar,aL<|cs n<|s+1]):=by
 have aU:=N.len;have aC:=N.B.len;have g:=xE (N.pm.nodup_iff.mpr N.B.w2) ⋯;obtain⟨C,a⟩:∃C,C=cs n (s+1):=⟨_,rfl⟩;have q:C.length=s+1:=by rw[a,bS,i0]
 have U9:bx (aw es (V<|bR eo<|aj (ag 1) aA)<|V<|au<|.int 0) [Z (aL ar),Z<|aL C,Y]=Z (aq,[Z (aL ar),Z<|aL C,Y]):=d1 (bY (aW<|et (bV rfl rfl) rfl<|rE C) rfl rfl rfl ((nU _ _).trans (by rw[ep ⋯])));have h:de 1 [2] (dD<|ag 1) (bb 0) d5 (G.Hk L) [Z (aL ar),Z<|aL C,Z<|.aQ<|bD ar]=Z (.lst<|C.map λ_=>.aC aa,[Z (aL ar),Z<|aL C,Z<|.aQ<|bD ar]):=by
  refine l7 (y:=C.map ah) (m:=Y) (UE:=[Z (aL ar),Z<|aL C,Z<|.aQ<|bD ar]) rfl (jr ah (λ_=>.aC aa) _ (λf c=>?_) ⋯) rfl;have c:f∈ar:=by
   rw[a]at c;let⟨b,W,rfl⟩:=ew.mp c;exact d b
  have j:k0 [.im (ah f)]=Z (.im<|.aC aa,[.im (ah f)]):=rfl;exact⟨[Z (.im<|ah f),Z<|.aQ<|bD ar],_,[Z (.im<|ah f),Z<|.aQ<|bD ar],rfl,rfl,sy (kM (d1<|c0 (UN:=[.aY 0]) rfl rfl rfl j rfl) (d1 (dj ((tk ar f).trans (by rw[df c]))))),rfl⟩
 have l:de 2 [] (jW<|aj (ag 1)<|aj (V<|gj (ag 1) (ht<|au<|.int 1) gX) aA) (d6 2<|cc (bb 0)<|cc (bb 1) eb) d5 (G.Gv L) [Z (aL ar),Z<|aL C,Z<|.aQ<|bD ar]=Z (.lst<|(range s).map λ_=>.aC aa,[Z (aL ar),Z<|aL C,Z<|.aQ<|bD ar]):=by
  refine l7 (y:=(range s).map λb=>.tup [ah (n b),ah<|n<|b+1]) (m:=Y) (UE:=[Z (aL ar),Z<|aL C,Z<|.aQ<|bD ar]) ?_ (jr (λb=>.tup [ah (n b),ah<|n<|b+1]) (λ_=>.aC aa) _ (λb W=>?_) (by rw[i0];lia)) rfl
  ·have i:=zU (λb=>ah<|n b) s;rw[<-tb,<-a]at i;have o:i_ (aL C) (Z 1) Y=Z (.im<|.tup<|(C.map ah).drop 1):=by
    show Z (ak.im<|.tup<|fy (C.map ah) (Z ((1:Nat):Int)) Y)=_;rw[oi]
   rw[<-i];exact v3 (bV rfl<|bV (aW<|nI rfl rfl rfl rfl o) rfl) rfl
  ·refine⟨[Z (.im<|ah<|n b),Z<|.im<|ah<|n<|b+1],_,[Z (.im<|ah<|n b),Z<|.im<|ah<|n<|b+1],rfl,rfl,?_,rfl⟩;exact bY rfl (aW<|c0 (UN:=[.aY 0]) rfl rfl rfl (Gi<|n b) rfl) rfl rfl ((Sb (hU<|n b)<|n<|b+1).trans (by rw[df (Nd<|e b)]))
 rw[<-a];unfold pG Il;exact fD (k:=[Z (aL ar),Z<|aL C,Z<|.aQ<|bD ar]) rfl (cR (gZ (k8 (ks<|h5 (aW<|c0 (UN:=[.aY 0]) rfl rfl rfl (N.field L) rfl) rfl rfl)<|k8 (UE:=[Z (aL ar),Z<|aL C,Y]) rfl U9) rfl)<|cR (i8 (c0 (UN:=[.aY 0]) rfl rfl rfl g rfl) (iX rfl) rfl)<|cR (gZ (ks<|h5 (aW<|et (bV (aW h) rfl) rfl<|xf C) rfl rfl) rfl)<|d_<|et (bV (aW l) rfl) rfl<|xf _) rfl
abbrev fZ(ar:List aD)(a:ab)(C:List aD)(b U:Option ak):a0:=[Z (aL ar),Z<|.im a,Z<|aL C,b,U]
theorem Bt{c d:ae}{Uy:dM}{ar C:List aD}{a:ab}{n:Nat->aD}:∀(M:List Nat) (f U:Option ak),(∀b∈M,kT Uy [aL ar,.im a,.im<|ah<|n b]=Z (.im<|ah<|n<|b+1,[aL ar,.im a,.im<|ah<|n b]))->
  ∃g h,dK (d6 2<|cc (bb 3)<|cc (bb 4) eb) (q6 c d Uy) (M.map λb=>.tup [ah (n b),ah<|n<|b+1]) (fZ ar a C f U)=Z (.aM,fZ ar a C g h)
 |[],f,U,_=>⟨f,U,rfl⟩
 |b::M,f,U,e=>by
  let⟨g,h,i⟩:=Bt (c:=c) (d:=d) (C:=C) M (Z<|.im<|ah<|n b) (Z<|.im<|ah<|n<|b+1) λw k=>e w (.tail _ k);refine⟨g,h,?_⟩;have l:=e b (.head _);have p:=si (n<|b+1) (n<|b+1);rw[df rfl]at p;have j:q6 c d Uy (fZ ar a C (Z<|.im<|ah<|n b)<|Z<|.im<|ah<|n<|b+1)=Z (.aM,fZ ar a C (Z<|.im<|ah<|n b)<|Z<|.im<|ah<|n<|b+1):=by
   unfold q6;exact gZ (mV<|dX (cA<|c0 (UN:=[.aY 0,.aY 1,.aY 3]) rfl rfl rfl l rfl) rfl rfl rfl p) rfl
  rw[cK,dK];dsimp only;rw[show d6 2 (cc (bb 3)<|cc (bb 4) eb) (.im<|.tup [ah (n b),ah<|n<|b+1]) (fZ ar a C f U)=Z (fZ ar a C (Z<|.im<|ah<|n b)<|Z<|.im<|ah<|n<|b+1) from rfl];show (q6 c d Uy _).bind _=_;rw[j];exact i
def MX(j:l3 Uy){c a:ae}{D ar:List aD}{F:List ba}(N:gb D ar)(I:jC D F):oV c a Uy [aL ar,e6 F]=Z (du aa,[aL ar,e6 F]):=by
 show oV c a Uy [aL ar,.im<|.tup<|F.map aP]=Z (du aa,[aL ar,.im<|.tup<|F.map aP]);have UY:=N.B;have aC:=UY.len;have bi:=nM.mpr UY.ne;have U:=I.len;have aU:=N.len;have l:=k1.of I.eJ;let⟨S,u,v⟩:=Rk (a:=c) (h:=a) N (show F.length<=100 by lia);cases v.mpr I;let⟨m,h,e⟩:=uO UY N.pm N.qg;let⟨o,gR,w⟩:=I.gR UY;let⟨x,p⟩:=zk UY (.refl _) gR w e;have y:=vn j UY h e l I.eJ aU;have dR:=Pe j UY h e l I.eJ aU p;have VC:=G1 (cZ F m) (4*D.length) ⋯;let⟨f,z,q⟩:=EG UY p;have i:∀b,ct (aM F) (m,0) b∈c4 D:=λb=>(o3 I.eJ).ct (fA.mpr ⟨e,by simp⟩) b;have wp:(cI F m<|4*D.length).Perm ar:=by
  refine .trans ?_ N.pm.symm;have:=x.map gd;rw[gr,Br]at this;exact this
 have A:∀b,cZ F m b∈ar:=λb=>N.pm.mem_iff.mpr (by rw[<-Br];exact zL (i b));have E:∀b,kT Uy [aL ar,.im<|.tup<|F.map aP,.im<|ah<|cZ F m b]=Z (.im<|ah<|cZ F m<|b+1,[aL ar,.im<|.tup<|F.map aP,.im<|ah<|cZ F m b]):=λb=>AY j UY h e (fA.mp<|i b).1 (fA.mp<|i b).2 l;obtain⟨UZ,g⟩:∃UZ,4*D.length=UZ+1:=⟨4*D.length-1,⋯⟩;have r:=Ma (L:=a) (n:=cZ F m) (s:=UZ) N ⋯ A λb=>Mi F (fA.mp<|i b).2;rw[<-Gb,<-g]at r;have bm:=wL F m (4*D.length);have H:(cI F m<|4*D.length).drop 1++(cI F m<|4*D.length).take 1=(range<|UZ+1).map λb=>cZ F m (b+1):=by
  rw[g];exact OY (cZ F m) UZ (by unfold cZ;rw[<-g,p];rfl)
 have iN:(cI F m<|4*D.length)[0]?=Z m:=by
  rw[g];unfold cI;rw[gy,yV ⋯];rfl
 have J:e3 ((cI F m<|4*D.length).map ah) (((cI F m<|4*D.length).map ah).drop 1++((cI F m<|4*D.length).map ah).take 1)=(range<|UZ+1).map λb=>.tup [ah (cZ F m b),ah<|cZ F m<|b+1]:=by
  rw[<-mj,<-lg,<-fz,H,g];unfold cI;rw[gr,gr];exact wD _ _ _
 let⟨M,O,P⟩:=Bt (c:=c) (d:=a) (Uy:=Uy) (C:=cI F m (4*D.length)) (range<|UZ+1) Y Y λb W=>E b;generalize sW (cZ F m) (4*D.length)=aE at dR VC;generalize (aL<|cs (cZ F m)<|4*D.length+2)=dc at q VC;generalize cI F m (4*D.length)=C at *;have ai:ar.Nodup:=N.pm.nodup_iff.mpr UY.w2;have aN:=Pw (Uy:=C) wp.symm N.qg ⋯ (wp.nodup_iff.mpr ai);have Q:a4 (aL C) (aI 0)=Z (.im<|ah m):=by
  show (eH (C.map ah) 0).map ak.im=_;rw[qs ∅ ⇑iN];rfl
 have T:a4 (aL ar) (aI 0)=Z (.im<|ah m):=by
  show (eH (ar.map ah) 0).map ak.im=_;rw[qs ∅ ⇑h];rfl
 have t:=si m m;rw[df rfl]at t;have al:i_ (aL C) (Z 1) Y=Z (.im<|.tup<|(C.map ah).drop 1):=by
  show Z (ak.im<|.tup<|fy (C.map ah) (Z ((1:Nat):Int)) Y)=_;rw[oi]
 have am:i_ (aL C) Y (Z 1)=Z (.im<|.tup<|(C.map ah).take 1):=by
  show Z (ak.im<|.tup<|fy (C.map ah) Y<|Z ((1:Nat):Int))=_;rw[EK]
 have an:dg (.im<|.tup<|(C.map ah).drop 1) (.im<|.tup<|(C.map ah).take 1)=Z (.im<|.tup<|(C.map ah).drop 1++(C.map ah).take 1):=aJ (by simp;lia);have ap:es (aI (aE:Int)) (aI (aE:Int))=Z (du aa):=(nU _ _).trans (by rw[df rfl]);have as:bx (aw (pP aa) (V<|bh 2 (G.qr c a)<|aj (ag 0)<|aj (ag 1) aA)<|V<|au<|.aC aa) [Z (aL ar),Z<|.im<|.tup<|F.map aP,Y,Y,Y]=Z (aq,[Z (aL ar),Z<|.im<|.tup<|F.map aP,Y,Y,Y]):=
  d1 (bY (aW<|c0 (UN:=[.aY 0,.aY 1]) rfl rfl rfl u rfl) rfl rfl rfl rfl);generalize (.tup (F.map aP):ab)=d at *;have a1:bx (aw (pP aa) (V<|bh 2 (G.pG a)<|aj (ag 0)<|aj (ag 2) aA)<|V<|au<|.aC aa) (fZ ar d C Y Y)=Z (aq,fZ ar d C Y Y):=
  d1 (bY (aW<|c0 (UN:=[.aY 0,.aY 2]) rfl rfl rfl r rfl) rfl rfl rfl rfl);have a2:fk [aL C]=Z (a3 ar):=aN;have bd:bx (aw eV (V<|bR fk<|aj (ag 2) aA)<|V<|bR r9<|aj (ag 0) aA) (fZ ar d C Y Y)=Z (aq,fZ ar d C Y Y):=
  d1 (bY (aW<|et (bV rfl rfl) rfl a2) (aW<|et (bV rfl rfl) rfl rfl) rfl rfl Kr);have be:bx (aw eV (V<|aw a4 (ag 2)<|V<|au<|.int 0)<|V<|aw a4 (ag 0)<|V<|au<|.int 0) (fZ ar d C Y Y)=Z (aq,fZ ar d C Y Y):=
  d1 (bY (aW<|dj Q) (aW<|dj T) rfl rfl t);unfold oV;refine fD (k:=fZ ar d C M O) rfl ?_ rfl;show x1 c a Uy [Z (aL ar),Z<|.im d,Y,Y,Y]=_;unfold x1;refine cR (gZ as rfl) (cR (i8 (c0 (UN:=[.aY 0,.aY 1]) rfl rfl rfl y rfl) (iX rfl) rfl)<|cR (gZ (k8 a1<|k8 bd be) rfl)<|cR (jz (m:=Y) ?_ P rfl)<|d_ ?_)
 ·rw[<-J];exact v3 (dF rfl<|dF (cA<|dX (cA<|nI rfl rfl rfl rfl al) (cA<|nI rfl rfl rfl rfl am) rfl rfl an) rfl) rfl
 ·exact bY (aW<|c0 (UN:=[.aY 0,.aY 1]) rfl rfl rfl dR rfl) (aW<|c0 (UN:=[.cB dc]) (bV (aW<|bY rfl (aW<|xJ rfl rfl rfl rfl z) rfl rfl q) rfl) rfl rfl VC rfl) rfl rfl ap
theorem xb:∀UW F:List aD,eP (UW.map ah) (F.map ah)=decide (UW=F)
 |[],[]=>rfl
 |[],_::_=>rfl
 |_::_,[]=>rfl
 |g::UW,c::F=>by
  rw[cK,cK,eP,xb UW F,mI,<-Fz];exact lD.mpr (by rw[HI])
def RE(UW F:List aD):es (aL UW) (aL F)=Z (du<|decide (UW=F)):=by
 show (if (ab.cQ 7 (UW.map ah)&&ab.cQ 7 (F.map ah))=aa then Z (ak.im<|.aC<|eP (UW.map ah)<|F.map ah) else Y)=_;rw[rk,rk,aJ<|show (aa&&aa)=aa from rfl,xb]
def Ob(UW F:List aD):eV (aL UW) (aL F)=Z (du<|!decide (UW=F)):=by
 show (if (ab.cQ 7 (UW.map ah)&&ab.cQ 7 (F.map ah))=aa then Z (ak.im<|.aC<|!eP (UW.map ah) (F.map ah)) else Y)=_;rw[rk,rk,aJ<|show (aa&&aa)=aa from rfl,xb]
abbrev dY(x U0 b c U Vq a A:Option ak):a0:=[x,U0,b,c,U,Vq,a,A]
def En(b:l3 Uy){h i:ae}{D ar:List aD}{F UW:List ba}{x U0 c d Vq:Option ak}(N:gb D ar)(I:jC D F)(j:jC D UW):
  n1 h i Uy (dY x U0 c d (Z<|aL ar) Vq (Z<|e6 F)<|Z<|e6 UW)=Z (.aM,dY x U0 c d (Z<|aL ar) Vq (Z<|e6 F)<|Z<|e6 UW):=by
 let⟨m,f,a⟩:=uO N.B N.pm N.qg;have k:=vn b N.B f a (k1.of I.eJ) I.eJ N.len;have l:=vn b N.B f a (k1.of j.eJ) j.eJ N.len;have n:=Fc F UW;have g:=RE (cI F m<|4*D.length) (cI UW m<|4*D.length);rw[show decide (cI F m (4*D.length)=cI UW m (4*D.length))=decide (F=UW) from lD.mpr ⟨Lh N.B I j a,λe=>by rw[e]⟩]at g;have ne:eV (du<|decide (F=UW)) (du<|decide (F=UW))=Z (du aq):=by cases decide (F=UW)<;>rfl
 unfold n1;exact gZ (mV<|dX (cA<|dX rfl rfl rfl rfl n) (cA<|dX (cA<|c0 (UN:=[.aY 4,.aY 6]) rfl rfl rfl k rfl) (cA<|c0 (UN:=[.aY 4,.aY 7]) rfl rfl rfl l rfl) rfl rfl g) rfl rfl ne) rfl
def Pb(e:l3 Uy){f g:ae}{D ar:List aD}{b:List (List ba)}{x U0 c d a A:Option ak}(N:gb D ar)(h:∀F∈b,jC D F)(j:b.length<=1000):
  de 1 [4] (dD<|ag 5) (bb 0) d5 (G.rN f g Uy) (dY x U0 c d (Z<|aL ar) (Z<|.lst<|b.map λF=>.tup<|F.map aP) a A)=Z (.lst<|b.map λ_=>.aC aa,dY x U0 c d (Z<|aL ar) (Z<|.lst<|b.map λF=>.tup<|F.map aP) a A):=by
 refine l7 (y:=b.map λF=>.tup<|F.map aP) (m:=Z (5,.lst<|b.map λF=>.tup<|F.map aP)) (UE:=dY x U0 c d (Z<|aL ar) (Z .dd) a A) rfl (jr (λF:List ba=>.tup<|F.map aP) (λ_=>.aC aa) _ (λF i=>?_) ⋯) rfl;refine⟨[Z (e6 F),Z<|aL ar],_,[Z (e6 F),Z<|aL ar],rfl,rfl,?_,rfl⟩;unfold rN;exact c0 (UN:=[.aY 1,.aY 0]) rfl rfl rfl (MX e N<|h F i) rfl
def LA(n:l3 Uy){UP:List Int}{q:Int}{g i:ae}{r l U Vq a A:Option ak}(S:0<=q)(T:q<1000):
  ∃Vj al am an ap as,u5 g i Uy (dY (Z<|.cF<|UP.map .int) (Z<|aI q) r l U Vq a A)=Z (.aM,dY (Z<|.cF<|UP.map .int) (Z<|aI q) Vj al am an ap as):=by
 let⟨e,a1,h⟩:=Lw (UP:=UP) S T;let⟨t,D,a2,UD,UY,yN⟩:=I2 (s:=999000) h;let⟨ar,bd,U5,Vv⟩:=PI UY;have N:gb D ar:=⟨UY,yN,U5,Vv⟩;let⟨z,d,U2,o,be,UT,y,gR,C,E⟩:=G0 (s:=998900) UY UD;have H:=DS UY y gR C E;let⟨ds,b,dL,Vj,bi,bm,I,J,L,M⟩:=G0 (s:=998800) UY UT;have u:=DS UY I J L M;let⟨c,bn,O⟩:=L4 N;clear gR J E M y I C L;let⟨p,rfl⟩:=h.lst;let⟨j,rfl⟩:=UD.lst;let⟨P,rfl⟩:=UT.lst;let⟨f,rfl⟩:=bm.lst;have bs:=N.blocks;have ne:=Ob D D;rw[df rfl]at ne;have Vz:(.lst [.tup (d.map aP),.tup<|b.map aP,.tup<|c.map aP]:ak)=.lst ([d,b,c].map λF=>.tup<|F.map aP):=rfl;have bv:∀F∈[d,b,c],jC D F:=λF Q=>by
  simp only[bI,hs,e_]at Q;rcases Q with rfl|rfl|rfl
  ·exact H
  ·exact u
  ·exact O
 have ca:bx (aw eV (V<|bh 1 G.kc<|aj (ag 4) aA)<|V<|bR jv<|aj (ag 3) aA) (dY (Z<|.cF<|UP.map .int) (Z<|aI q) (Z<|.lst j) (Z<|a3 D) (Z<|aL ar) Vq a A)=Z (aq,dY (Z<|.cF<|UP.map .int) (Z<|aI q) (Z<|.lst j) (Z<|a3 D) (Z<|aL ar) Vq a A):=
  mV (dX (cA<|c0 (UN:=[.aY 4]) rfl rfl rfl bs rfl) (cA<|qu (dF rfl rfl) rfl rfl) rfl rfl ne);obtain⟨k,w⟩:∃k:a0,k=dY (Z<|.cF<|UP.map .int) (Z<|aI q) (Z<|.lst f) (Z<|a3 D) (Z<|aL ar) (Z<|.lst<|[d,b,c].map λF=>.tup<|F.map aP) a A:=⟨_,rfl⟩;have cd:bh 2 G.lA (aj (ag 2)<|aj (ag 3) aA) (dY (Z<|.cF<|UP.map .int) (Z<|aI q) (Z<|.lst j) (Z<|a3 D) (Z<|aL ar) Vq a A)=Z (e6 d,(dY (Z<|.cF<|UP.map .int) (Z<|aI q) (Z<|.lst P) (Z<|a3 D) (Z<|aL ar) Vq a A)):=c0 (UN:=[.aY 2,.aY 3]) rfl rfl rfl be rfl;have ce:bh 2 G.lA (aj (ag 2)<|aj (ag 3) aA) (dY (Z<|.cF<|UP.map .int) (Z<|aI q) (Z<|.lst P) (Z<|a3 D) (Z<|aL ar) Vq a A)=Z (e6 b,(dY (Z<|.cF<|UP.map .int) (Z<|aI q) (Z<|.lst f) (Z<|a3 D) (Z<|aL ar) Vq a A)):=c0 (UN:=[.aY 2,.aY 3]) rfl rfl rfl bi rfl;have ch:bh 1 G.ob (aj (ag 4) aA) (dY (Z<|.cF<|UP.map .int) (Z<|aI q) (Z<|.lst f) (Z<|a3 D) (Z<|aL ar) Vq a A)=Z (e6 c,(dY (Z<|.cF<|UP.map .int) (Z<|aI q) (Z<|.lst f) (Z<|a3 D) (Z<|aL ar) Vq a A)):=c0 (UN:=[.aY 4]) rfl rfl rfl bn rfl;have ci:cj 5 (eC<|aj (V<|bh 2 G.lA<|aj (ag 2)<|aj (ag 3) aA)<|aj (V<|bh 2 G.lA<|aj (ag 2)<|aj (ag 3) aA)<|aj (V<|bh 1 G.ob<|aj (ag 4) aA) aA) (dY (Z<|.cF<|UP.map .int) (Z<|aI q) (Z<|.lst j) (Z<|a3 D) (Z<|aL ar) Vq a A)=Z (.aM,k):=by
  rw[w];exact i8 (UE:=(dY (Z<|.cF<|UP.map .int) (Z<|aI q) (Z<|.lst f) (Z<|a3 D) (Z<|aL ar) Vq a A)) (rC (Vd:=(dY (Z<|.cF<|UP.map .int) (Z<|aI q) (Z<|.lst f) (Z<|a3 D) (Z<|aL ar) Vq a A)) (UN:=[.cB (e6 d),.cB<|e6 b,.cB<|e6 c]) (B:=[e6 d,e6 b,e6 c]) (v:=.lst ([d,b,c].map λF=>.tup<|F.map aP)) (dF (cA cd)<|dF (cA ce)<|dF (cA ch) rfl) rfl (gT rfl) rfl) (iX rfl) rfl
 have cl:de 1 [4] (dD<|ag 5) (bb 0) d5 (G.rN g i Uy) k=Z (.lst<|[d,b,c].map λ_=>.aC aa,k):=by
  rw[w];exact Pb n N bv ↥0
 have gz:fK (f5<|V<|bR hZ<|aj (V<|de 1 [4] (dD<|ag 5) (bb 0) d5<|G.rN g i Uy) aA) k=Z (aq,k):=ks (h5 (aW<|et (bV (aW cl) rfl) rfl<|xf _) rfl rfl);have co:=En n (h:=g) (i:=i) (x:=Z (.cF<|UP.map .int)) (U0:=Z (aI q)) (c:=Z (.lst f)) (d:=Z (a3 D)) (Vq:=Z .dd) N H u;have Vj:=En n (h:=g) (i:=i) (x:=Z (.cF<|UP.map .int)) (U0:=Z (aI q)) (c:=Z (.lst f)) (d:=Z (a3 D)) (Vq:=Z .dd) N u O;have cr:dK (d6 2<|cc (bb 6)<|cc (bb 7) eb) (n1 g i Uy) [.tup [.tup (d.map aP),.tup<|b.map aP],.tup [.tup (b.map aP),.tup<|c.map aP]] (dY (Z<|.cF<|UP.map .int) (Z<|aI q) (Z<|.lst f) (Z<|a3 D) (Z<|aL ar) (Z .dd) a A)=Z (.aM,dY (Z<|.cF<|UP.map .int) (Z<|aI q) (Z<|.lst f) (Z<|a3 D) (Z<|aL ar) (Z .dd) (Z<|e6 b)<|Z<|e6 c):=by
  rw[dK];dsimp only;rw[show d6 2 (cc (bb 6)<|cc (bb 7) eb) (.im<|.tup [.tup (d.map aP),.tup<|b.map aP]) (dY (Z<|.cF<|UP.map .int) (Z<|aI q) (Z<|.lst f) (Z<|a3 D) (Z<|aL ar) (Z .dd) a A)=Z (dY (Z<|.cF<|UP.map .int) (Z<|aI q) (Z<|.lst f) (Z<|a3 D) (Z<|aL ar) (Z .dd) (Z<|e6 d)<|Z<|e6 b) from rfl];show (n1 g i Uy _).bind _=_;rw[co];show dK _ _ _ _=_;rw[dK];dsimp only;rw[show d6 2 (cc (bb 6)<|cc (bb 7) eb) (.im<|.tup [.tup (b.map aP),.tup<|c.map aP]) (dY (Z<|.cF<|UP.map .int) (Z<|aI q) (Z<|.lst f) (Z<|a3 D) (Z<|aL ar) (Z .dd) (Z<|e6 d)<|Z<|e6 b)=Z (dY (Z<|.cF<|UP.map .int) (Z<|aI q) (Z<|.lst f) (Z<|a3 D) (Z<|aL ar) (Z .dd) (Z<|e6 b)<|Z<|e6 c) from rfl];show (n1 g i Uy _).bind _=_;rw[Vj];rfl
 have cs:gv (kE<|aj (ag 5)<|aj (V<|lW<|l_<|gj (ag 5) (ht<|au<|.int 1) gX) aA) (d6 2<|cc (bb 6)<|cc (bb 7) eb) (G.n1 g i Uy) k=Z (.aM,dY (Z<|.cF<|UP.map .int) (Z<|aI q) (Z<|.lst f) (Z<|a3 D) (Z<|aL ar) (Z<|.lst<|[d,b,c].map λF=>.tup<|F.map aP) (Z<|e6 b)<|Z<|e6 c):=by
  rw[w];have db:i_ (.lst<|[d,b,c].map λF=>.tup<|F.map aP) (Z 1) Y=Z (.lst [.tup (b.map aP),.tup<|c.map aP]):=by
   show Z (ak.lst<|fy ([d,b,c].map λF=>ab.tup<|F.map aP) (Z ((1:Nat):Int)) Y)=_;rw[oi];rfl
  exact jz (m:=Z (5,.lst<|[d,b,c].map λF=>.tup<|F.map aP)) (wQ (dF rfl<|dF (cA<|xx<|yF<|nI rfl rfl rfl rfl db) rfl) rfl rfl rfl rfl rfl) cr rfl
 unfold u5;refine⟨_,_,_,_,_,_,cR (UE:=dY (Z<|.cF<|UP.map .int) (Z<|aI q) (Z<|.lst p) l U Vq a A) (i8 (c0 (UN:=[.aY 0,.aY 1]) rfl rfl rfl a1 rfl) (iX rfl) rfl)<|cR (UE:=dY (Z<|.cF<|UP.map .int) (Z<|aI q) (Z<|.lst j) (Z<|a3 D) U Vq a A) (i8 (c0 (UN:=[.aY 2]) rfl rfl rfl a2 rfl) (iX rfl) rfl)<|cR (UE:=dY (Z<|.cF<|UP.map .int) (Z<|aI q) (Z<|.lst j) (Z<|a3 D) (Z<|aL ar) Vq a A) (i8 (c0 (UN:=[.aY 3]) rfl rfl rfl bd rfl) (iX rfl) rfl)<|cR (gZ ca rfl)<|cR ci<|cR (gZ gz rfl) cs⟩
def Jt(h i:ae)(j:l3 Uy)(UP:List Int)(z:UP.length<100000):∃I,r4 h i Uy [.cF (UP.map .int)]=Z (.im<|.aC aa,I):=by
 obtain⟨s,l,VM,B⟩:∃s:Int,bR rV (aj (V<|au<|.int 1)<|aj (V<|bR sQ<|aj (V<|au<|.int 4)<|aj (V<|bR eo<|aj (ag 0) aA) aA) aA) (dY (Z<|.cF<|UP.map .int) Y Y Y Y Y Y Y)=Z (aI s,dY (Z<|.cF<|UP.map .int) Y Y Y Y Y Y Y)/\0<=s/\s<=4:=by
  refine⟨_,et (bV rfl<|bV (aW<|et (bV rfl<|bV (aW<|et (bV rfl rfl) rfl rfl) rfl) rfl rfl) rfl) rfl rfl,?_,?_⟩
  ·split<;>split<;>lia
  ·split<;>split<;>lia
 let⟨UO,n,o,e,g,U,Vq,a,A,rfl⟩:=Ii (Vc:=bb 1) (c:=u5 h i Uy) (y:=iF 0 s.toNat) (λb k=>∃U0 e g U Vq a A,k=dY (Z<|.cF<|UP.map .int) U0 e g U Vq a A) (k:=dY (Z<|.cF<|UP.map .int) Y Y Y Y Y Y Y)
  ⟨_,_,_,_,_,_,_,rfl⟩ (λb f k p r=>by
   let⟨U0,e,g,U,Vq,a,A,rfl⟩:=r;let⟨Uw,rfl⟩:=SX p;let⟨Vj,t,u,v,w,x,d⟩:=LA j (UP:=UP) (q:=0+(b:Int)) (g:=h) (i:=i) (r:=e) (l:=g) (U:=U) (Vq:=Vq) (a:=a) (A:=A) ⋯ ⋯;exact⟨_,_,_,rfl,d,.inl rfl,_,Vj,t,u,v,w,x,rfl⟩)
 refine⟨_,fD (k:=dY (Z<|.cF<|UP.map .int) o e g U Vq a A) rfl ?_ rfl⟩;show yc h i Uy (dY (Z<|.cF<|UP.map .int) Y Y Y Y Y Y Y)=_;unfold yc;exact cR (jz (m:=Y) (EZ (bV (aW l) rfl) rfl ⟨⋯,⋯⟩) n rfl) (d_ rfl)
end G
namespace L2
def Kd{Vm:List Nat}{b:Nat}{J:aE ak}(Uw:b∈Vm):∀k r UO,kE (aj (ag b)<|aj (V J) aA) k=Z (r,UO)->k2 Vm r.2:=by
 intro k r UO e;let⟨⟨UN,UE⟩,t,z⟩:=bE.mp e;let⟨⟨f,Vd⟩,c,h⟩:=bE.mp t;let⟨⟨UL,F⟩,i,j⟩:=cx.mp h;cases j;let⟨⟨l,v⟩,g,m⟩:=bE.mp i;let⟨⟨VJ,w⟩,n,p⟩:=cx.mp m;cases p;cases n;unfold V at g;let⟨o,x,q⟩:=cx.mp g;cases q;have Vl:f=.aY b:=by
  unfold ag at c;split at c
  ·cases c;rfl
  ·cases c
 subst Vl;let⟨⟨B,y⟩,A,d⟩:=bE.mp z;dsimp only at d;split at d
 ·rename_i U0 C U_ Vi s;cases s;let⟨f,D,u⟩:=bE.mp d;let⟨l,E,a⟩:=bE.mp u;split at a
  ·cases a;show k2 Vm (if U_.dA=aa then Y else Z (b,U_));split
   ·trivial
   ·exact Uw
  ·split at a
   ·cases a;trivial
   ·cases a
 ·cases d
end L2
set_option maxHeartbeats 4000000
namespace K65
open L2 PyProof.Rows
variable{L:ae}{n:eI}{q:Nat}{O:bB}
def dh(b:Nat):bz:=(PySem.Challenge.pw_mowfloor_k65_whole_rounds.main.body.getD b (.Pass ⟨0,0,0,0⟩))
structure dN(ay:aF->Option af):Prop where
 mP:ay "all" = Y
 NL:ay "bool" = Y
 FG:ay "dict" = Y
 Bf:ay "int" = Y
 oT:ay "isinstance" = Y
 hB:ay "len" = Y
 DZ:ay "list" = Y
 E8:ay "max" = Y
 GD:ay "min" = Y
 Ik:ay "range" = Y
 mZ:ay "sorted" = Y
 Mc:ay "sum" = Y
 jt:ay "tuple" = Y
 oQ:ay "zip" = Y
 Gu:∃I,ay "GREATEST" = Z (.int 30 I)
 ml:∃I,ay "SIDE" = Z (.int 2 I)
def nt:fw "all" = Z (.builtin "all"):=by decide +kernel
def P4:fw "bool" = Z (.type "bool"):=by decide +kernel
def Em:fw "dict" = Z (.type "dict"):=by decide +kernel
def B2:fw "int" = Z (.type "int"):=by decide +kernel
def nV:fw "isinstance" = Z (.builtin "isinstance"):=by decide +kernel
def hC:fw "len" = Z (.builtin "len"):=by decide +kernel
def EP:fw "list" = Z (.type "list"):=by decide +kernel
def GK:fw "max" = Z (.builtin "max"):=by decide +kernel
def Al:fw "min" = Z (.builtin "min"):=by decide +kernel
def nv:fw "sorted" = Z (.builtin "sorted"):=by decide +kernel
def MS:fw "sum" = Z (.builtin "sum"):=by decide +kernel
def js:fw "tuple" = Z (.type "tuple"):=by decide +kernel
def cg(a:ea q O):O.units+20<b9:=by have:=a.un;omega
def CI(a:ea q O):O.units+30<b9:=by have:=a.un;omega
abbrev yh:bz:=dh 2
abbrev QJ:List aF:=["thing"]
abbrev v9:bz:=dh 3
abbrev LY:List aF:=["thing"]
abbrev og:bz:=dh 4
abbrev QO:List aF:=["thing"]
abbrev kC:bz:=dh 5
abbrev QN:List aF:=["thing"]
abbrev vX:bz:=dh 6
abbrev J0:List aF:=["thing","is_kind"]
abbrev vM:bz:=dh 6
abbrev Lp:List aF:=["thing","is_kind"]
abbrev xw:bz:=dh 7
abbrev Ou:List aF:=["one","other"]
abbrev n_:bz:=dh 8
abbrev Ke:List aF:=["things","found","thing"]
abbrev s9:bz:=dh 9
abbrev Jo:List aF:=["cell","row","column"]
abbrev tN:bz:=dh 10
abbrev KX:List aF:=["free","start","found","waiting","cell"]
abbrev uZ:bz:=dh 16
abbrev OO:List aF:=["field","cell"]
abbrev j6:bz:=dh 17
abbrev BU:List aF:=["field","found"]
abbrev vl:bz:=dh 19
abbrev JB:List aF:=["thing"]
abbrev sd:bz:=dh 20
abbrev If:List aF:=["thing"]
abbrev uc:bz:=dh 22
abbrev Sx:List aF:=["field","thing","free"]
abbrev pM:bz:=dh 23
abbrev zu:List aF:=["walk","ways"]
abbrev wA:bz:=dh 26
abbrev O6:List aF:=["cell","way","many"]
abbrev vy:bz:=dh 27
abbrev SW:List aF:=["field","tree","cell","block","ways"]
abbrev se:bz:=dh 28
abbrev QU:List aF:=["field","tree","walk"]
abbrev t8:bz:=dh 29
abbrev OE:List aF:=["field","tree","walk"]
abbrev sx:bz:=dh 31
abbrev EF:List aF:=["some","every","found","block","onward"]
abbrev yD:bz:=dh 32
abbrev Sy:List aF:=["some","branches","group","block","found","branch","stays","given_up"]
abbrev r6:bz:=dh 33
abbrev Pl:List aF:=["some","kept"]
abbrev va:bz:=dh 34
abbrev TV:List aF:=["field","thing","some","every"]
abbrev nO:bz:=dh 35
abbrev A5:List aF:=["field"]
abbrev y_:bz:=dh 37
abbrev Kj:List aF:=["_law_script","_law_k"]
abbrev vR:bz:=dh 38
abbrev L0:List aF:=["_law_script","_law_k","_law_cell","_law_bound","_law_seed"]
abbrev wG:bz:=dh 39
abbrev K2:List aF:=["_law_hand_here","_law_many","_law_digit"]
abbrev s8:bz:=dh 40
abbrev Ms:List aF:=["_law_hand_here","_law_many","_law_some","_law_turn","_law_row","_law_column","_law_down","_law_right_here","_law_one"]
abbrev zy:bz:=dh 41
abbrev SV:List aF:=["_law_block","_law_row","_law_column"]
abbrev vU:bz:=dh 42
abbrev Nv:List aF:=["_law_some","_law_cells","_law_block"]
abbrev tr:bz:=dh 43
abbrev B8:List aF:=["_law_some","_law_pairs_here","_law_row","_law_column"]
abbrev vj:bz:=dh 44
abbrev JP:List aF:=["_law_hand_here","_law_some","_law_rest","_law_taken","_law_piece","_law_one","_law_other","_law_old","_law_new"]
abbrev uT:bz:=dh 45
abbrev Rf:List aF:=["_law_field_here","_law_tree_here","_law_walk","_law_one","_law_other"]
abbrev zI:bz:=dh 46
abbrev PX:List aF:=["_law_script","_law_k","_law_hand_here","_law_some","_law_field_here","_law_trees","_law_one","_law_other"]
section
variable{UB:bC}{C:bg}{Q:Φ}{ay:aF->Option af}{UC:aZ}
abbrev C0(n:eI)(L:ae):Prop:=e4 n 1 "is_whole" yh L ["thing"] 1 G.pz
def Js(N:dp n.K n.ay "is_whole" yh L ["thing"])(F:dN n.ay):C0 n L:=by
 refine d2 QJ N λai Vg O U7 j h Uv a=>?_;exact (b4<|cS<|kq (g8<|n4 rfl F.oT nV rfl F.Bf B2<|ax 0)<|g8<|o2<|I1<|g8<|n4 rfl F.oT nV rfl F.NL P4<|ax 0)
abbrev z1(n:eI)(L:ae):Prop:=e4 n 2 "is_pair" v9 L ["thing"] 1 G.k0
def Qg(N:dp n.K n.ay "is_pair" v9 L ["thing"])(F:dN n.ay){c:ae}(b:C0 n c):z1 n L:=by
 refine d2 LY N λai Vg O U7 j h Uv a=>?_;exact (b4<|cS<|kq (g8<|n4 rfl F.oT nV rfl F.jt js<|ax 0)<|kq (g8<|jh (jn<|cg a) (aV<|dO h8 F.hB hC<|bJ<|ax 0) bc<|eg _)<|kq (g8<|ck b a<|bJ<|c7 a (ax 0) bc)<|g8<|o2<|ck b a<|bJ<|c7 a (ax 0) bc)
abbrev Tr(n:eI)(L:ae):Prop:=e4 n 3 "are_two_pairs" og L ["thing"] 1 G.mG
def NV(N:dp n.K n.ay "are_two_pairs" og L ["thing"])(F:dN n.ay){c:ae}(b:z1 n c):Tr n L:=by
 refine d2 QO N λai Vg O U7 j h Uv a=>?_;exact (b4<|cS<|kq (g8<|n4 rfl F.oT nV rfl F.jt js<|ax 0)<|kq (g8<|jh (jn<|cg a) (aV<|dO h8 F.hB hC<|bJ<|ax 0) bc<|eg _)<|kq (g8<|ck b a<|bJ<|c7 a (ax 0) bc)<|g8<|o2<|ck b a<|bJ<|c7 a (ax 0) bc)
abbrev NX(n:eI)(L:ae):Prop:=e4 n 3 "is_cell" kC L ["thing"] 1 G.j4
def Q7(N:dp n.K n.ay "is_cell" kC L ["thing"])(F:dN n.ay){b:ae}(c:z1 n b):NX n L:=by
 refine d2 QN N λai Vg O U7 j h Uv a=>?_;exact (b4<|cS<|kq (g8<|ck c a<|bJ<|ax 0)<|kq (g8<|Cv m4 m4 bc (c7 a (ax 0) bc)<|aV<|kf rfl F.Gu.choose_spec)<|g8<|o2<|Cv m4 m4 bc (c7 a (ax 0) bc)<|aV<|kf rfl F.Gu.choose_spec)
def Qw(N:dp Q ay "is_rising" vX L ["thing","is_kind"])(F:dN ay){b:ae}(d:cq UB C Q ay UC 3 "is_cell" kC b ["thing"] 1 G.j4):
  cq UB C Q ay UC 4 "is_rising" vX L ["thing","is_kind"] 2 (G.rz b):=by
 refine d2 J0 N λai Vg O U7 j h Uv c=>?_;exact (b1 (fI (hV.m1<|mY (j7<|jq<|aV<|n4 rfl F.oT nV rfl F.jt js<|ax 0)<|pA<|j7<|jq<|aV<|dO (mE rfl) F.mP nt<|bJ<|aV<|jA ["part"] [1] (gU<|ax 0) (λa=>(fP 0))<|λa=>(DE d c (ez 1)<|bJ<|ax 0)) (b4<|cS gJ) fL)<|b4<|cS<|dO (mE rfl) F.mP nt<|bJ<|aV<|jA ["ahead" ,"behind"] [] (uo rfl F.oQ<|b0 (ax 0)<|aV<|kJ (ax 0) (k3 f_) k_) (λa=>(iJ (fP 0)<|fP 1))<|λa=>(jh (Hy<|cg c) (ax 0) (ax 1)<|eg _))
def Pg(N:dp Q ay "is_rising" vM L ["thing","is_kind"])(F:dN ay){b:ae}(d:cq UB C Q ay UC 3 "are_two_pairs" og b ["thing"] 1 G.mG):
  cq UB C Q ay UC 4 "is_rising" vM L ["thing","is_kind"] 2 (G.pY b):=by
 refine d2 Lp N λai Vg O U7 j h Uv c=>?_;exact (b1 (fI (hV.m1<|mY (j7<|jq<|aV<|n4 rfl F.oT nV rfl F.jt js<|ax 0)<|pA<|j7<|jq<|aV<|dO (mE rfl) F.mP nt<|bJ<|aV<|jA ["part"] [1] (gU<|ax 0) (λa=>(fP 0))<|λa=>(DE d c (ez 1)<|bJ<|ax 0)) (b4<|cS gJ) fL)<|b4<|cS<|dO (mE rfl) F.mP nt<|bJ<|aV<|jA ["ahead" ,"behind"] [] (uo rfl F.oQ<|b0 (ax 0)<|aV<|kJ (ax 0) (k3 f_) k_) (λa=>(iJ (fP 0)<|fP 1))<|λa=>(jh (Hy<|cg c) (ax 0) (ax 1)<|eg _))
abbrev A1(n:eI)(L:ae):Prop:=e4 n 1 "lesser_first" xw L ["one","other"] 2 G.sF
def SA(N:dp n.K n.ay "lesser_first" xw L ["one","other"])(F:dN n.ay):A1 n L:=by
 refine d2 Ou N λai Vg O U7 j h Uv a=>?_;exact (b4 (cS (jZ (by exact (b0 (aV<|dO (Jw rfl<|cg a) F.GD Al<|b0 (ax 0)<|ax 1)<|aV<|dO (Lj rfl<|cg a) F.E8 GK<|b0 (ax 0)<|ax 1)))))
abbrev zO(n:eI)(L:ae):Prop:=e4 n 1 "lookup" n_ L ["things"] 1 G.gE
def MB(N:dp n.K n.ay "lookup" n_ L ["things"])(F:dN n.ay):zO n L:=by
 refine d2 Ke N λai Vg O U7 j h Uv a=>?_;exact (b1 (eu 1 ai Dy) (b1 (kh (Vm:=[0]) h6 rfl (gU<|ax 0) (fH 2 ai) (b4<|i5 gJ<|oq (ez 1) (jJ<|ez 2)<|vw<|cg a) ∅ (pO ∅))<|b4<|cS<|jJ<|ez 1))
abbrev C9(n:eI)(L:ae):Prop:=e4 n 1 "around" s9 L ["cell"] 1 G.sk
def Qo(N:dp n.K n.ay "around" s9 L ["cell"])(F:dN n.ay):C9 n L:=by
 refine d2 Jo N λai Vg O U7 j h Uv a=>?_;exact (b1 (eu 1 ai<|lh a (ax 0) bc) (b1 (eu 2 ai<|lh a (ax 0) bc) (b4 (cS (hz (by exact (oz (fR (by exact (b0 (cH k9 (ax 1) bc)<|ax 2))) (by exact (j1 (fR (by exact (b0 (ax 1)<|cH k9 (ax 2) bc))) (fR (by exact (b0 (ax 1)<|cH ft (ax 2) bc))) (fR (by exact (b0 (cH ft (ax 1) bc)<|ax 2))))))))))))
abbrev IY(n:eI)(L:ae):Prop:=e4 n 2 "reached" tN L ["free","start"] 2 G.oR
def Ll(N:dp n.K n.ay "reached" tN L ["free","start"])(F:dN n.ay){b:ae}(c:C9 n b):IY n L:=by
 refine d2 KX N λai Vg O U7 j h Uv a=>?_;exact (b1 (eu 2 ai<|Q9 (cg a) (jJ<|ez 1) gJ) (b1 (eu 3 ai (hz (by exact (bJ<|ax 1)))) (b1 (yO 1000000 h6 (jq<|ax 3) (b4 (kh (Vm:=[0,1]) h6 rfl (gU<|aV<|ck c a<|bJ<|aV<|OB k5 lp EM HU O2<|ez 3) (fH 4 ai) (b4<|fI (hV.m1<|sR (eT (oD<|cg a) (ax 4) (ax 0) rfl)<|Fj<|eT (AU<|cg a) (ax 4) (ax 2) rfl) (b1 (i5 gJ<|oq (ez 2) (jJ<|ez 4)<|vw<|cg a)<|b4<|mJ<|mx k5 lp q_ sh q4 (ez 3)<|bJ<|ax 4) fL) ∅ Tf)))<|b4<|cS<|jH n6 rfl F.jt js<|bJ<|aV<|dO (m5 rfl<|cg a) F.mZ nv<|bJ<|ax 2)))
abbrev wW(n:eI)(L:ae):Prop:=e4 n 1 "block_of" uZ L ["field","cell"] 2 G.n5
def Mp(N:dp n.K n.ay "block_of" uZ L ["field","cell"])(F:dN n.ay):wW n L:=by
 refine d2 OO N λai Vg O U7 j h Uv a=>?_;exact (b4 (cS (jZ (by exact (b0 (cH k9 (c7 a (ax 1) bc)<|cH l5 (cH k9 (c7 a (ax 1) bc)<|c7 a (c7 a (ax 0) bc) bc)<|aV<|kf rfl F.ml.choose_spec)<|cH k9 (c7 a (ax 1) bc)<|cH l5 (cH k9 (c7 a (ax 1) bc)<|c7 a (c7 a (ax 0) bc) bc)<|aV<|kf rfl F.ml.choose_spec)))))
def JM:kb BU ["field"] (dU j6):=xa
abbrev H2(n:eI)(L:ae):Prop:=e4 n 2 "blocks" j6 L ["field"] 1 G.kc
def PA(N:dp n.K n.ay "blocks" j6 L ["field"])(F:dN n.ay){b:ae}(c:zO n b){d:ae}(e:wW n d):H2 n L:=by
 refine d2 BU N λai Vg O U7 j h Uv a=>?_;exact (b1 (eu 1 ai<|ck c a<|bJ<|aV<|jA ["cell"] [0] (gU<|ax 0) (λf=>(fP 0))<|λf=>(ck e a<|b0 (ax 1)<|ax 0))<|b1 (fI (eT (ki<|cg a) (aV<|dO h8 F.hB hC<|bJ<|ax 0) (cH hT (cH hT (aV<|dO Gn F.hB hC<|bJ<|ax 1)<|aV<|kf rfl F.ml.choose_spec)<|aV<|kf rfl F.ml.choose_spec)<|eg _) (b4 J7) fL)<|b4<|cS<|jH n6 rfl F.jt js<|bJ<|aV<|dO (m5 rfl<|cg a) F.mZ nv<|bJ<|ax 1)
def S3(N:dp Q ay "blocks" j6 L ["field"])(F:dN ay){d:ae}(e:cq UB C Q ay UC 1 "lookup" n_ d ["things"] 1 G.gE){f:ae}(g:cq UB C Q ay UC 1 "block_of" uZ f ["field","cell"] 2 G.n5){b:ae}(c:tw Q ay "NoBlocks" b):
  pX UB C Q ay UC 2 "blocks" j6 L ["field"] 1 (mf 1 2 G.pv) b:=by
 refine Fh (UU:=[]) N JM rfl λai Vg O U7 j h Uv a=>?_;exact (Gt (eu 1 ai<|ck e a<|bJ<|aV<|jA ["cell"] [0] (gU<|ax 0) (λl=>(fP 0))<|λl=>(ck g a<|b0 (ax 1)<|ax 0))<|Oo (eT (ki<|cg a) (aV<|dO h8 F.hB hC<|bJ<|ax 0) (cH hT (cH hT (aV<|dO Gn F.hB hC<|bJ<|ax 1)<|aV<|kf rfl F.ml.choose_spec)<|aV<|kf rfl F.ml.choose_spec)<|eg _)<|Md rfl rfl c.1 c.2<|λk x h i=>Tz k x h i)
def LU(N:dp Q ay "is_floor" vl L ["thing"])(F:dN ay){a:ae}(b:cq UB C Q ay UC 3 "is_cell" kC a ["thing"] 1 G.j4){c:ae}(d:cq UB C Q ay UC 4 "is_rising" vX c ["thing","is_kind"] 2 (G.rz a)):
  cq UB C Q ay UC 5 "is_floor" vl L ["thing"] 1 (G.qB a):=by
 refine d2 JB N λai Vg O U7 j h Uv e=>?_;exact (b4<|cS<|ck d e<|b0 (ax 0)<|aV<|w_ rfl b.m)
def R3(N:dp Q ay "is_field" sd L ["thing"])(F:dN ay){b:ae}(k:cq UB C Q ay UC 3 "is_cell" kC b ["thing"] 1 G.j4){c:ae}(d:cq UB C Q ay UC 5 "is_floor" vl c ["thing"] 1 (G.qB b)){e:ae}(f:cq UB C Q ay UC 2 "reached" tN e ["free","start"] 2 G.oR){g:ae}(i:cq UB C Q ay UC 1 "lookup" n_ g ["things"] 1 G.gE):
  cq UB C Q ay UC 6 "is_field" sd L ["thing"] 1 (G.l6 b):=by
 refine d2 If N λai Vg O U7 j h Uv a=>?_;exact (b1 (fI (hV.m1<|mY (j7<|jq<|aV<|ck d a<|bJ<|ax 0)<|pA<|eT (jn<|cg a) (aV<|dO h8 F.hB hC<|bJ<|ax 0) bc<|eg _) (b4<|cS gJ) fL)<|b4<|cS<|jh (jn<|cg a) (aV<|dO h8 F.hB hC<|bJ<|aV<|ck f a<|b0 (aV<|ck i a<|bJ<|ax 0)<|c7 a (ax 0) bc) (aV<|dO h8 F.hB hC<|bJ<|ax 0)<|eg _)
def Q3(N:dp Q ay "is_walk" uc L ["field","thing"])(F:dN ay){c:ae}(o:cq UB C Q ay UC 3 "is_cell" kC c ["thing"] 1 G.j4){e:ae}(f:cq UB C Q ay UC 6 "is_field" sd e ["thing"] 1 (G.l6 c)){g:ae}(i:cq UB C Q ay UC 1 "lookup" n_ g ["things"] 1 G.gE){k:ae}(l:cq UB C Q ay UC 2 "is_pair" v9 k ["thing"] 1 G.k0){m:ae}(n:cq UB C Q ay UC 1 "around" s9 m ["cell"] 1 G.sk):
  cq UB C Q ay UC 7 "is_walk" uc L ["field","thing"] 2 (G.pG c):=by
 refine d2 Sx N λai Vg O U7 j h Uv a=>?_;exact (b1 (fI (hV.m1<|mY (j7<|jq<|aV<|ck f a<|bJ<|ax 0)<|mY (j7<|jq<|aV<|n4 rfl F.oT nV rfl F.jt js<|ax 1)<|pA<|eT (jn<|cg a) (aV<|dO h8 F.hB hC<|bJ<|ax 1) bc<|eg _) (b4<|cS gJ) fL) (b1 (nS (b:=2) ai rfl (Or.inr rfl) (ck i a<|bJ<|ax 0) ∅)<|b1 (fI (j7<|jq<|aV<|dO (mE rfl) F.mP nt<|bJ<|aV<|jA ["cell"] [2] (gU<|ax 1) (λd=>(fP 0))<|λd=>(kq (g8<|ck l a<|bJ<|ax 0)<|g8<|o2<|jh (oD<|cg a) (ax 0) (ax 1) rfl)) (b4<|cS gJ) fL)<|b4<|cS<|dO (mE rfl) F.mP nt<|bJ<|aV<|jA ["ahead" ,"behind"] [] (uo rfl F.oQ<|b0 (ax 1)<|aV<|kJ (ax 1) (k3 f_) k_) (λd=>(iJ (fP 0)<|fP 1))<|λd=>(jh (oD<|cg a) (ax 1) (aV<|ck n a<|bJ<|ax 0) rfl)))
abbrev EI(n:eI)(L:ae):Prop:=e4 n 1 "turns" pM L ["walk"] 1 G.pK
def Lb(N:dp n.K n.ay "turns" pM L ["walk"])(F:dN n.ay):EI n L:=by
 refine d2 zu N λai Vg O U7 j h Uv a=>?_;exact (b1 (SP (b:=1) (own:=["ahead" ,"behind"]) (Ve:=[]) ai rfl (Or.inl rfl) rfl (sb (dU pM) zu (by decide +kernel)) ∅ (zh rfl F.oQ<|b0 (ax 0)<|aV<|yl<|yw<|kJ (ax 0) (k3 f_) k_) (λc=>(iJ (fP 0)<|fP 1)) (λc=>FX) (λc=>(jZ (by exact (b0 (cH k9 (c7 a (ax 1) bc)<|c7 a (ax 0) bc)<|cH k9 (c7 a (ax 1) bc)<|c7 a (ax 0) bc)))) ∅) (b4 (cS (dO (Pt rfl) F.Mc MS (bJ (aV (vB (own:=["ahead" ,"behind"]) (Ve:=[]) rfl (sb (dU pM) zu (by decide +kernel)) ∅ (zh rfl F.oQ<|b0 (ax 1)<|aV<|yl<|yw<|kJ (ax 1) (k3 f_) k_) (λc=>(iJ (fP 0)<|fP 1)) (λc=>(wu<|eT (ki<|cg a) (ax 0) (ax 1)<|eg _))<|λc=>f_)))))))
abbrev Bh(n:eI)(Uy:dM)(L:ae):Prop:=e4 n 1 "moved" wA L ["cell","way","many"] 3 (G.lE Uy)
def Jl(N:dp n.K n.ay "moved" wA L ["cell","way","many"])(F:dN n.ay){Uy:dM}(c9:lx n.K n.P n.w Uy.kt Uy.cz)(b:n.ay "WAYS" = Z (.ref Uy.gB)):Bh n Uy L:=by
 refine d2 O6 N λai Vg O U7 j h Uv a=>?_;exact (b4 (cS (jZ (by exact (b0 (cH ft (aV<|i7 (jB (cg a) c9) (ax 0) bc<|λ_ W=>rfl)<|cH hT (aV<|i7 (jB (cg a) c9) (ax 1) bc<|λ_ W=>rfl)<|ax 2)<|cH ft (aV<|i7 (jB (cg a) c9) (ax 0) bc<|λ_ W=>rfl)<|cH hT (aV<|i7 (jB (cg a) c9) (ax 1) bc<|λ_ W=>rfl)<|ax 2)))))
abbrev Ej(n:eI)(Uy:dM)(L:ae):Prop:=e4 n 2 "next_round" vy L ["field","tree","cell"] 3 (G.kT Uy)
def Jd(N:dp n.K n.ay "next_round" vy L ["field","tree","cell"])(F:dN n.ay){Uy:dM}(c9:lx n.K n.P n.w Uy.kt Uy.cz)(c:n.ay "WAYS" = Z (.ref Uy.gB)){d:ae}(e:wW n d){f:ae}(g:A1 n f){i:ae}(b:Bh n Uy i):Ej n Uy L:=by
 refine d2 SW N λai Vg O U7 j h Uv a=>?_;exact (b1 (eu 3 ai<|ck e a<|b0 (ax 0)<|ax 2) (b1 (eu 4 ai (i7 (jB (cg a) c9) (aV<|w_ rfl c) (fR (by exact (b0 (cH k9 (aV<|i7 (jB (cg a) c9) (ax 2) bc<|λ_ W=>rfl)<|aV<|i7 (jB (cg a) c9) (ax 3) bc<|λ_ W=>rfl)<|cH k9 (aV<|i7 (jB (cg a) c9) (ax 2) bc<|λ_ W=>rfl)<|aV<|i7 (jB (cg a) c9) (ax 3) bc<|λ_ W=>rfl)))<|λ_ W=>rfl))<|b1 (fI (eT (oD<|cg a) (aV<|ck g a<|b0 (ax 3)<|aV<|ck b a<|j1 (ax 3) (aV<|i7 (jB (cg a) c9) (ax 4) bc<|λ_ W=>rfl)<|aV<|kf rfl F.ml.choose_spec) (ax 1) rfl) (b4<|cS<|ck b a<|j1 (ax 2) (aV<|i7 (jB (cg a) c9) (ax 4) bc<|λ_ W=>rfl) bc) fL)<|b4<|cS<|ck b a<|j1 (ax 2) (aV<|i7 (jB (cg a) c9) (ax 4) bc<|λ_ W=>rfl) bc))
abbrev BN(n:eI)(Uy:dM)(L:ae):Prop:=e4 n 3 "ring" se L ["field","tree"] 2 (G.kF Uy)
def LR(N:dp n.K n.ay "ring" se L ["field","tree"])(F:dN n.ay){Uy:dM}(c9:lx n.K n.P n.w Uy.kt Uy.cz)(d:n.ay "WAYS" = Z (.ref Uy.gB)){b:ae}(c:Ej n Uy b):BN n Uy L:=by
 refine d2 QU N λai Vg O U7 j h Uv a=>?_;exact (b1 (eu 2 ai (hz (by exact (bJ<|c7 a (ax 0) bc))))<|b1 (yO 1000000 h6 (eT zc (aV<|dO h8 F.hB hC<|bJ<|ax 2) (aV<|dO h8 F.hB hC<|bJ<|ax 0)<|eg _)<|b4<|mJ<|mx k5 lp q_ sh q4 (ez 2)<|bJ<|aV<|ck c a<|j1 (ax 0) (ax 1)<|c7 a (ax 2)<|aV<|vO f_)<|b4<|cS<|jH n6 rfl F.jt js<|bJ<|ax 2)
abbrev R_(n:eI)(Uy:dM)(L:ae):Prop:=e4 n 4 "ring_turns" t8 L ["field","tree"] 2 (G.sI Uy)
def Ng(N:dp n.K n.ay "ring_turns" t8 L ["field","tree"])(F:dN n.ay){Uy:dM}(c9:lx n.K n.P n.w Uy.kt Uy.cz)(f:n.ay "WAYS" = Z (.ref Uy.gB)){b:ae}(c:BN n Uy b){d:ae}(e:EI n d):R_ n Uy L:=by
 refine d2 OE N λai Vg O U7 j h Uv a=>?_;exact (b1 (eu 2 ai<|ck c a<|b0 (ax 0)<|ax 1)<|b4<|cS<|ck e a<|bJ<|cH ft (ax 2)<|aV<|kJ (ax 2) k_<|k3 f_)
abbrev DG(n:eI)(L:ae):Prop:=e4 n 2 "all_branches" sx L ["some"] 1 G.qc
def S_(N:dp n.K n.ay "all_branches" sx L ["some"])(F:dN n.ay){d:ae}(e:zO n d):DG n L:=by
 refine d2 EF N λai Vg O U7 j h Uv a=>?_;exact (b1 (nS (b:=1) ai rfl (Or.inr rfl) (ck e a<|bJ<|ax 0) ∅) (b1 (eu 2 ai (hz (by exact mH))) (b1 (kh (Vm:=[0]) h6 rfl (gU<|ax 0) (n2 (b:=3) ai rfl (Or.inr rfl) ∅) (b1 (eu 4 ai (hz (by exact (b0 (fR (by exact (b0 (c7 a (ax 3) bc)<|cH ft (c7 a (ax 3) bc)<|aV<|kf rfl F.ml.choose_spec))) (fR (by exact (b0 (cH ft (c7 a (ax 3) bc)<|aV<|kf rfl F.ml.choose_spec)<|c7 a (ax 3) bc))))))) (b4 (mJ (mx k5 lp z4 zS yB (ez 2) (bJ (aV (vB (own:=["other"]) (Ve:=[1,3]) rfl (sb (dU sx) EF (by decide +kernel)) ∅ (gU<|ax 4) (λc=>(fP 0)) (λc=>(wu<|eT (oD<|cg a) (ax 0) (ax 1) rfl)) (λc=>(jZ (by exact (b0 (ax 2)<|ax 0))))))))))) ∅ (pO ∅))<|b4<|cS<|jJ<|ez 2)))
abbrev Gk(n:eI)(L:ae):Prop:=e4 n 1 "joining" yD L ["some","branches"] 2 G.uA
def N0(N:dp n.K n.ay "joining" yD L ["some","branches"])(F:dN n.ay):Gk n L:=by
 refine d2 Sy N λai Vg O U7 j h Uv a=>?_;exact (b1 (eu 2 ai Dy) (b1 (kh (Vm:=[0,1]) h6 rfl (gU<|ax 0) (fH 3 ai) (b4<|i5 (jJ<|ez 3)<|oq (ez 2) (jJ<|ez 3)<|vw<|cg a) ∅ (pO ∅)) (b1 (eu 4 ai (hz (by exact mH))) (b1 (kh (Vm:=[0,1]) h6 rfl (gU<|ax 1) (fH 5 ai) (b1 (eu 6 ai<|lh a (ax 2)<|c7 a (ax 5) bc) (b1 (eu 7 ai<|lh a (ax 2)<|c7 a (ax 5) bc) (b4 (fI (eT (ki<|cg a) (ax 6) (ax 7)<|eg _) (b1 (mJ<|mx k5 lp q_ sh q4 (ez 4)<|bJ<|ax 5) (b4 (kh (Vm:=[0,1]) h6 rfl (gU<|ax 0) (fH 3 ai) (b4<|fI (eT (jn<|cg a) (c7 a (ax 2)<|ax 3) (ax 7)<|eg _) (b4<|i5 (jJ<|ez 6)<|oq (ez 2) (jJ<|ez 3)<|vw<|cg a) fL) ∅ (pO ∅)))) fL)))) ∅ (pO ∅))<|b4<|cS<|jH n6 rfl F.jt js<|bJ<|aV<|dO (m5 rfl<|cg a) F.mZ nv<|bJ<|ax 4))))
abbrev Fq(n:eI)(L:ae):Prop:=e4 n 3 "full_tree" r6 L ["some","kept"] 2 G.nG
def I8(N:dp n.K n.ay "full_tree" r6 L ["some","kept"])(F:dN n.ay){b:ae}(c:Gk n b){d:ae}(e:DG n d):Fq n L:=by
 refine d2 Pl N λai Vg O U7 j h Uv a=>?_;exact (b4<|cS<|ck c a<|b0 (ax 0)<|cH ft (aV<|jH C6 rfl F.DZ EP<|bJ<|ax 1)<|aV<|ck e a<|bJ<|ax 0)
def Ot(N:dp Q ay "is_tree" va L ["field","thing"])(F:dN ay){e:ae}(I:cq UB C Q ay UC 3 "is_cell" kC e ["thing"] 1 G.j4){f:ae}(i:cq UB C Q ay UC 3 "are_two_pairs" og f ["thing"] 1 G.mG){k:ae}(l:cq UB C Q ay UC 6 "is_field" sd k ["thing"] 1 (G.l6 e)){n:ae}(p:cq UB C Q ay UC 4 "is_rising" vM n ["thing","is_kind"] 2 (G.pY f)){g:ae}(q:cq UB C Q ay UC 2 "blocks" j6 g ["field"] 1 G.kc){s:ae}(t:cq UB C Q ay UC 1 "lookup" n_ s ["things"] 1 G.gE){u:ae}(v:cq UB C Q ay UC 2 "all_branches" sx u ["some"] 1 G.qc){w:ae}(x:cq UB C Q ay UC 3 "full_tree" r6 w ["some","kept"] 2 G.nG){c:ae}(z:tw Q ay "NoBlocks" c)(A:pX UB C Q ay UC 2 "blocks" j6 g ["field"] 1 (mf 1 2 G.pv) c)(B:Φa Q (.ref c) (.ref c)=Z aa):
  cq UB C Q ay UC 7 "is_tree" va L ["field","thing"] 2 (G.qr f e):=by
 refine d2 TV N λai Vg O U7 j h Uv a=>?_;exact (b1 (fI (hV.m1<|mY (j7<|jq<|aV<|ck l a<|bJ<|ax 0)<|pA<|j7<|jq<|aV<|ck p a<|b0 (ax 1)<|aV<|w_ rfl i.m) (b4<|cS gJ) fL) (b1 (SM (r:=(wb 1 (mf 1 2 G.pv)<|aj (ag 0) aA)) (J:=(cy<|au<|.aC aq)) rfl rfl rfl rfl z.1 B (λUv o=>(b4<|eu 2 ai<|ck q a<|bJ<|ax 0)) (λUv o y D=>(MT (b:=2) ai rfl (Or.inl rfl)<|Cc A a rfl rfl D<|bJ<|ax 0))<|λo d Vw M=>(b4<|cS gJ)) (b1 (nS (b:=3) ai rfl (Or.inr rfl) (ck t a<|bJ<|aV<|ck v a<|bJ<|ax 2) ∅)<|b4<|cS<|kq (g8<|dO (mE rfl) F.mP nt<|bJ<|aV<|jA ["branch"] [3] (gU<|ax 1) (λH=>(fP 0))<|λH=>(jh (oD<|cg a) (ax 0) (ax 1) rfl))<|g8<|o2<|jh (jn<|cg a) (aV<|ck x a<|b0 (ax 2)<|ax 1) (ax 1)<|eg _)))
def IM:kb A5 ["field"] (dU nO):=xa
abbrev R0(n:eI)(L:ae):Prop:=e4 n 4 "some_tree" nO L ["field"] 1 G.ob
def Tq(N:dp n.K n.ay "some_tree" nO L ["field"])(F:dN n.ay){b:ae}(c:Fq n b){d:ae}(e:H2 n d):R0 n L:=by
 refine d2 A5 N λai Vg O U7 j h Uv a=>?_;exact (b4 (cS (ck c a (b0 (aV<|ck e a<|bJ<|ax 0) (fR (by exact mH))))))
def TL(N:dp Q ay "some_tree" nO L ["field"])(F:dN ay){d:ae}(e:cq UB C Q ay UC 3 "full_tree" r6 d ["some","kept"] 2 G.nG){b:ae}(g:cq UB C Q ay UC 2 "blocks" j6 b ["field"] 1 G.kc){a:ae}(k:tw Q ay "NoBlocks" a)(f:pX UB C Q ay UC 2 "blocks" j6 b ["field"] 1 (mf 1 2 G.pv) a):
  pX UB C Q ay UC 4 "some_tree" nO L ["field"] 1 (mf 1 1 G.Qr) a:=by
 refine Fh (UU:=[]) N IM rfl λai Vg O U7 j h Uv c=>?_;exact (J5<|Ti e c rfl<|SO<|Cc f c rfl rfl (λx h i=>Qf x h i)<|bJ<|ax 0)
abbrev Fb(n:eI)(L:ae):Prop:=e4 n 1 "_law_cell_at" y_ L ["_law_script","_law_k"] 2 G.rn
def Rq(N:dp n.K n.ay "_law_cell_at" y_ L ["_law_script","_law_k"])(F:dN n.ay):Fb n L:=by
 refine d2 Kj N λai Vg O U7 j h Uv a=>?_;exact (b1 (fI (eT zc (ax 1) (aV<|dO h8 F.hB hC<|bJ<|ax 0)<|eg _) (b4<|cS<|lh a (ax 0)<|ax 1) fL)<|b4<|cS f_)
abbrev Nb(n:eI)(L:ae):Prop:=e4 n 2 "_law_hand" vR L ["_law_script","_law_k"] 2 G.rP
def Qj(N:dp n.K n.ay "_law_hand" vR L ["_law_script","_law_k"])(F:dN n.ay){a:ae}(b:Fb n a):Nb n L:=by
 refine d2 L0 N λai Vg O U7 j h Uv c=>?_;exact (b1 (eu 2 ai<|ck b c<|b0 (ax 0)<|ax 1) (b1 (eu 3 ai<|lC hT (cH hT (cH vm bc bc)<|cH vm bc bc)<|cH vm bc bc) (b1 (eu 4 ai<|lC l5 (cH hT (cH ft (cH ft (cH l5 (ax 2) bc)<|cH hT (cH hT bc<|ax 1)<|ax 1) bc) bc) bc) (b4 (cS (hz (by exact (j1 (cH hT (cH l5 (ax 2)<|ax 3)<|aV<|jH Sn rfl F.Bf B2<|bJ<|aV<|jh Ni (ax 2) (cH vm bc bc)<|eg _) (ax 4) bc))))))))
abbrev w9(n:eI)(L:ae):Prop:=e4 n 1 "_law_pick" wG L ["_law_hand_here","_law_many"] 2 G.gm
def Lm(N:dp n.K n.ay "_law_pick" wG L ["_law_hand_here","_law_many"])(F:dN n.ay):w9 n L:=by
 refine d2 K2 N λai Vg O U7 j h Uv a=>?_;exact (b1 (fI (eT Pq (c7 a (ax 0) bc) bc<|eg _) (b1 (eu 2 ai<|lC l5 (c7 a (ax 0) bc)<|ax 1)<|b1 (i5 (lC B9 (c7 a (ax 0) bc)<|ax 1)<|oq (ez 0) f_<|Aj<|cg a)<|b4<|cS<|jJ<|ez 2) fL)<|b1 (i5 (lC ft (c7 a (ax 0) bc) bc)<|oq (ez 0) f_<|Aj<|cg a)<|b1 (i5 (lC l5 (cH ft (cH ft (cH hT (c7 a (ax 0) bc) bc) bc)<|cH hT bc<|c7 a (ax 0) bc) bc)<|oq (ez 0) f_<|Aj<|cg a)<|b4<|cS<|lC l5 (cH B9 (cH l5 (cH hT (c7 a (ax 0) bc)<|c7 a (ax 0) bc) bc) bc)<|ax 1)
abbrev Ph(n:eI)(L:ae):Prop:=e4 n 2 "_law_some_blocks" s8 L ["_law_hand_here"] 1 G.rZ
def Tu(N:dp n.K n.ay "_law_some_blocks" s8 L ["_law_hand_here"])(F:dN n.ay){c:ae}(b:w9 n c):Ph n L:=by
 refine d2 Ms N λai Vg O U7 j h Uv a=>?_;exact (b1 (eu 1 ai (lC ft bc (aV (ck b a (b0 (ax 0) (c7 a (aV (hz (by exact (oz bc (by exact (j1 bc bc bc))))))<|aV<|ck b a<|b0 (ax 0) bc)))))) (b1 (eu 2 ai (hz (by exact (bJ (fR (by exact (b0 (aV<|ck b a<|b0 (ax 0) bc)<|aV<|ck b a<|b0 (ax 0) bc))))))) (b1 (kh (Vm:=[0]) h6 rfl (GY rfl F.Ik<|bJ<|cH hT bc<|ax 1) (fH 3 ai) (b1 (i5 (lh a (ax 2)<|aV<|ck b a<|b0 (ax 0)<|aV<|dO h8 F.hB hC<|bJ<|ax 2)<|iJ (fH 4 ai)<|fH 5 ai) (b1 (fI (eT (jn<|cg a) (aV<|ck b a<|b0 (ax 0) bc) bc<|eg _) (b4<|i5 (lh a (ax 2)<|aV<|vO f_)<|iJ (fH 4 ai)<|fH 5 ai) fL) (b1 (i5 (lh a (aV (hz (by exact (oz (fR (by exact (b0 bc bc))) (by exact (j1 (fR (by exact (b0 bc bc))) (fR (by exact (b0 bc<|aV<|vO f_))) (fR (by exact (b0 (aV<|vO f_) bc)))))))))<|aV<|ck b a<|b0 (ax 0) bc)<|iJ (fH 6 ai)<|fH 7 ai) (b1 (eu 8 ai (jZ (by exact (b0 (cH ft (ax 4)<|ax 6)<|cH ft (ax 5)<|ax 7))))<|b4<|fI (hV.m1<|sR (eT (AU<|cg a) (ax 8) (ax 2) rfl)<|sR (eT zc (aV<|dO h8 F.hB hC<|bJ<|ax 2) (ax 1)<|eg _)<|sR (BY m4 m4 bc (c7 a (ax 8) bc) bc)<|Fj<|BY m4 m4 bc (c7 a (ax 8) bc) bc) (b4<|mJ<|mx k5 lp q_ sh q4 (ez 2)<|bJ<|ax 8) fL)))) ∅ DV)<|b4<|cS<|dO (m5 rfl<|cg a) F.mZ nv<|bJ<|ax 2)))
abbrev GG(n:eI)(L:ae):Prop:=e4 n 1 "_law_four" zy L ["_law_block"] 1 G.tc
def PB(N:dp n.K n.ay "_law_four" zy L ["_law_block"])(F:dN n.ay):GG n L:=by
 refine d2 SV N λai Vg O U7 j h Uv a=>?_;exact (b1 (i5 (jJ<|ez 0)<|iJ (fH 1 ai)<|fH 2 ai) (b4 (cS (hz (by exact (oz (fR (by exact (b0 (ax 1)<|ax 2))) (by exact (j1 (fR (by exact (b0 (ax 1)<|cH ft (ax 2) bc))) (fR (by exact (b0 (cH ft (ax 1) bc)<|cH ft (ax 2) bc))) (fR (by exact (b0 (cH ft (ax 1) bc)<|ax 2)))))))))))
abbrev P6(n:eI)(L:ae):Prop:=e4 n 2 "_law_field" vU L ["_law_some"] 1 G.sH
def PH(N:dp n.K n.ay "_law_field" vU L ["_law_some"])(F:dN n.ay){b:ae}(c:GG n b):P6 n L:=by
 refine d2 Nv N λai Vg O U7 j h Uv a=>?_;exact (b1 (eu 1 ai (hz (by exact mH))) (b1 (kh (Vm:=[0]) h6 rfl (gU<|ax 0) (fH 2 ai) (b4<|mJ<|mx k5 lp z4 zS yB (ez 1)<|bJ<|aV<|ck c a<|bJ<|ax 2) ∅ (pO ∅))<|b4<|cS<|jH n6 rfl F.jt js<|bJ<|aV<|dO (m5 rfl<|cg a) F.mZ nv<|bJ<|ax 1))
abbrev G7(n:eI)(L:ae):Prop:=e4 n 1 "_law_pairs" tr L ["_law_some"] 1 G.qU
def I6(N:dp n.K n.ay "_law_pairs" tr L ["_law_some"])(F:dN n.ay):G7 n L:=by
 refine d2 B8 N λai Vg O U7 j h Uv a=>?_;exact (b1 (eu 1 ai (hz (by exact mH))) (b1 (KD (Vm:=[0]) h6 rfl (ax 0) (iJ (n2 (b:=2) ai rfl (Or.inr rfl) ∅) (n2 (b:=3) ai rfl (Or.inr rfl) ∅)) (b4 (mJ (mx k5 lp z4 zS yB (ez 1) (bJ (aV (vB (own:=["_law_one"]) (Ve:=[0,2,3]) rfl (sb (dU tr) B8 (by decide +kernel)) ∅ (gU (aV (hz (by exact (b0 (fR (by exact (b0 (ax 2)<|cH ft (ax 3) bc))) (fR (by exact (b0 (cH ft (ax 2) bc)<|ax 3)))))))) (λc=>(fP 0)) (λc=>(wu<|eT (oD<|cg a) (ax 0) (ax 1) rfl)) (λc=>(jZ (by exact (b0 (fR (by exact (b0 (ax 2)<|ax 3)))<|ax 0)))))))))) ∅ ∅)<|b4<|cS<|dO (m5 rfl<|cg a) F.mZ nv<|bJ<|ax 1))
abbrev Ol(n:eI)(L:ae):Prop:=e4 n 2 "_law_tree" vj L ["_law_hand_here","_law_some"] 2 G.lA
def Oe(N:dp n.K n.ay "_law_tree" vj L ["_law_hand_here","_law_some"])(F:dN n.ay){d:ae}(e:G7 n d){f:ae}(g:w9 n f):Ol n L:=by
 refine d2 JP N λai Vg O U7 j h Uv a=>?_;exact (b1 (JH (b:=2) (w:=3) rfl ai rfl rfl ∅ rfl rfl (b0 (aV<|ck e a<|bJ<|ax 1) (aV (hz (by exact mH)))) ∅ ∅ rfl) (b1 (nS (b:=4) ai rfl (Or.inr rfl) (jH (Ff rfl<|CI a) rfl F.FG Em (bJ (aV (jA ["_law_block"] [] (gU<|ax 1) (λc=>(fP 0)) (λc=>(jZ (by exact (b0 (ax 0)<|ax 0)))))))) ∅) (b1 (yO 1000000 h6 (eT (ki<|cg a) (ax 2) (aV (hz (by exact mH)))<|eg _) (b1 (i5 (mx k5 lp EM HU OQ (ez 2)<|bJ<|aV<|ck g a<|b0 (ax 0)<|aV<|dO h8 F.hB hC<|bJ<|ax 2)<|iJ (fH 5 ai)<|fH 6 ai) (b4 (fI (eT (ki<|cg a) (c7 a (ax 4)<|ax 5) (c7 a (ax 4)<|ax 6)<|eg _) (b1 (mJ (mx k5 lp q_ sh q4 (ez 3) (bJ (fR (by exact (b0 (ax 5)<|ax 6)))))) (b1 (i5 (jZ (by exact (b0 (c7 a (ax 4)<|ax 5)<|c7 a (ax 4)<|ax 6))) (iJ (n2 (b:=7) ai rfl (Or.inr rfl) ∅) (n2 (b:=8) ai rfl (Or.inr rfl) ∅))) (b4 (nS (b:=4) ai rfl (Or.inr rfl) (jH (Ff rfl<|CI a) rfl F.FG Em (bJ (aV (jA ["_law_block"] [4,7,8] (gU<|ax 1) (λc=>(fP 0)) (λc=>(jZ (by exact (b0 (ax 0)<|aV<|Sg (eT (jn<|cg a) (c7 a (ax 1)<|ax 0) (ax 2)<|eg _) (jJ<|ez 3)<|lh a (ax 1)<|ax 0)))))))) ∅)))) fL))))<|b4<|cS<|jH n6 rfl F.jt js<|bJ<|aV<|dO (m5 rfl<|cg a) F.mZ nv<|bJ<|ax 3)))
def Pn(N:dp Q ay "_law_right" uT L ["_law_field_here","_law_tree_here"])(F:dN ay){Uy:dM}(c9:lx Q UB C Uy.kt Uy.cz)(r:ay "WAYS" = Z (.ref Uy.gB)){c:ae}(s:cq UB C Q ay UC 3 "are_two_pairs" og c ["thing"] 1 G.mG){b:ae}(t:cq UB C Q ay UC 3 "is_cell" kC b ["thing"] 1 G.j4){d:ae}(e:cq UB C Q ay UC 7 "is_tree" va d ["field","thing"] 2 (G.qr c b)){f:ae}(g:cq UB C Q ay UC 3 "ring" se f ["field","tree"] 2 (G.kF Uy)){i:ae}(k:cq UB C Q ay UC 7 "is_walk" uc i ["field","thing"] 2 (G.pG b)){l:ae}(m:cq UB C Q ay UC 2 "next_round" vy l ["field","tree","cell"] 3 (G.kT Uy)){n:ae}(o:cq UB C Q ay UC 4 "ring_turns" t8 n ["field","tree"] 2 (G.sI Uy)){p:ae}(q:cq UB C Q ay UC 1 "turns" pM p ["walk"] 1 G.pK):
  cq UB C Q ay UC 8 "_law_right" uT L ["_law_field_here","_law_tree_here"] 2 (G.oV c b Uy):=by
 refine d2 Rf N λai Vg O U7 j h Uv a=>?_;exact (b1 (fI (eT Dl (aV<|ck e a<|b0 (ax 0)<|ax 1) (aV gJ)<|eg _) (b4<|cS gJ) fL) (b1 (eu 2 ai<|ck g a<|b0 (ax 0)<|ax 1) (b1 (fI (hV.m1<|mY (eT Dl (aV<|ck k a<|b0 (ax 0)<|ax 2) (aV gJ)<|eg _)<|mY (eT (ki<|cg a) (aV<|dO (m5 rfl<|cg a) F.mZ nv<|bJ<|ax 2) (aV<|jH C6 rfl F.DZ EP<|bJ<|ax 0)<|eg _)<|pA<|eT (ki<|cg a) (c7 a (ax 2) bc) (c7 a (ax 0) bc)<|eg _) (b4<|cS gJ) fL) (b1 (kh (Vm:=[0,1]) h6 rfl (uo rfl F.oQ<|b0 (ax 2)<|cH ft (aV<|kJ (ax 2) (k3 f_) k_)<|aV<|kJ (ax 2) k_<|k3 f_) (iJ (fH 3 ai)<|fH 4 ai) (b4<|fI (eT (ki<|cg a) (aV<|ck m a<|j1 (ax 0) (ax 1)<|ax 3) (ax 4)<|eg _) (b4<|cS gJ) fL) ∅ LN)<|b4<|cS<|jh (jn<|cg a) (aV<|ck o a<|b0 (ax 0)<|ax 1) (aV<|ck q a<|bJ<|cH ft (ax 2)<|aV<|kJ (ax 2) k_<|k3 f_)<|eg _))))
def S1(N:dp Q ay "law" zI L ["_law_script"])(F:dN ay){Uy:dM}(c9:lx Q UB C Uy.kt Uy.cz)(x:ay "WAYS" = Z (.ref Uy.gB)){c:ae}(y:cq UB C Q ay UC 3 "are_two_pairs" og c ["thing"] 1 G.mG){d:ae}(z:cq UB C Q ay UC 3 "is_cell" kC d ["thing"] 1 G.j4){g:ae}(i:cq UB C Q ay UC 2 "_law_hand" vR g ["_law_script","_law_k"] 2 G.rP){k:ae}(l:cq UB C Q ay UC 2 "_law_some_blocks" s8 k ["_law_hand_here"] 1 G.rZ){m:ae}(n:cq UB C Q ay UC 2 "_law_field" vU m ["_law_some"] 1 G.sH){o:ae}(p:cq UB C Q ay UC 2 "blocks" j6 o ["field"] 1 G.kc){q:ae}(r:cq UB C Q ay UC 4 "some_tree" nO q ["field"] 1 G.ob){s:ae}(e:cq UB C Q ay UC 2 "_law_tree" vj s ["_law_hand_here","_law_some"] 2 G.lA){t:ae}(u:cq UB C Q ay UC 8 "_law_right" uT t ["_law_field_here","_law_tree_here"] 2 (G.oV c d Uy)){v:ae}(f:cq UB C Q ay UC 3 "ring" se v ["field","tree"] 2 (G.kF Uy)):
  cq UB C Q ay UC 9 "law" zI L ["_law_script"] 1 (G.r4 c d Uy):=by
 refine d2 PX N λai Vg O U7 j h Uv a=>?_;exact (b1 (kh (Vm:=[0]) h6 rfl (GY rfl F.Ik<|bJ<|aV<|dO (D2 rfl) F.E8 GK<|b0 bc<|aV<|dO (Av rfl) F.GD Al<|b0 bc<|aV<|dO h8 F.hB hC<|bJ<|ax 0) (fH 1 ai) (b1 (eu 2 ai<|ck i a<|b0 (ax 0)<|ax 1) (b1 (eu 3 ai<|ck l a<|bJ<|ax 2) (b1 (nS (b:=4) ai rfl (Or.inr rfl) (ck n a<|bJ<|ax 3) ∅) (b1 (fI (eT (ki<|cg a) (aV<|ck p a<|bJ<|ax 4) (aV<|jH n6 rfl F.jt js<|bJ<|ax 3)<|eg _) (b4<|cS gJ) fL) (b1 (eu 5 ai (hz (by exact (j1 (aV<|ck e a<|b0 (ax 2)<|ax 3) (aV<|ck e a<|b0 (ax 2)<|ax 3)<|aV<|ck r a<|bJ<|ax 4)))) (b1 (fI (j7<|jq<|aV<|dO (mE rfl) F.mP nt<|bJ<|aV<|jA ["_law_tree_here"] [4] (gU<|ax 5) (λw=>(fP 0))<|λw=>(ck u a<|b0 (ax 1)<|ax 0)) (b4<|cS gJ) fL) (b4 (kh (Vm:=[5,0]) h6 rfl (zh rfl F.oQ<|b0 (ax 5)<|aV<|yl<|yw<|kJ (ax 5) (k3 f_) k_) (iJ (fH 6 ai)<|fH 7 ai) (b4<|fI (eT (ki<|cg a) (aV<|jh (jn<|cg a) (ax 6) (ax 7)<|eg _) (aV<|jh (jn<|cg a) (aV<|ck f a<|b0 (ax 4)<|ax 6) (aV<|ck f a<|b0 (ax 4)<|ax 7)<|eg _)<|eg _) (b4<|cS gJ) fL) ∅ (Kd ∅))))))))) ∅ DV)<|b4<|cS gJ)
end
end K65
namespace L2
open Spec PyProof.Rows
section
variable{Q:Φ}
variable{g:ae}{v:Option ae}{s:Nat}{j:Array (Option af)}
def kpm{b w:Int}{I H:ib}(e:Q.lookup g=Z ⟨.type "tuple",v,.seq #[.int b I,.int w H] s,j⟩):hu Q g b w:=⟨_,_,_,_,_,e⟩
def krm{f l:ae}(e:Q.lookup g=Z ⟨.type "tuple",v,.seq #[.ref f,.ref l] s,j⟩):oo Q g f l:=⟨_,_,_,e⟩
end
end L2
namespace K65
open L2 PyProof.Rows
variable{b k:ae}{M:PySem.W.OpenLaw}
def all_mk{C:bg}{Q:Φ}{e:aZ}{ay:aF->Option af}{s I J L N O P S T U al am an ap as a1 a2 bd be bi bm bn bs bv ca cd ce ch ci cl co cr cs db:ae}(a:Q.In e)(c:e.Ns dP ay)(ds:ay "law" = Z (.ref s)){t v:ib}(dL:dk Q "is_whole" yh I)(eq:dk Q "is_pair" v9 J)(ev:dk Q "are_two_pairs" og k)(ex:dk Q "is_cell" kC b)(fn:dk Q "is_rising" vX L)(fr:dk Q "is_rising" vM N)(f0:dk Q "lesser_first" xw O)(f1:dk Q "lookup" n_ P)(f2:dk Q "around" s9 S)(f4:dk Q "reached" tN T)(f8:dk Q "block_of" uZ U)(ga:dk Q "blocks" j6 al)(ge:dk Q "is_floor" vl am)(gl:dk Q "is_field" sd an)(go:dk Q "is_walk" uc ap)(gt:dk Q "turns" pM as)(g1:dk Q "moved" wA a1)(g2:dk Q "next_round" vy a2)(g3:dk Q "ring" se bd)(hd:dk Q "ring_turns" t8 be)(he:dk Q "all_branches" sx bi)(hf:dk Q "joining" yD bm)(hm:dk Q "full_tree" r6 bn)(hw:dk Q "is_tree" va bs)(h0:dk Q "some_tree" nO bv)(ii:dk Q "_law_cell_at" y_ ca)(im:dk Q "_law_hand" vR cd)(io:dk Q "_law_pick" wG ce)(it:dk Q "_law_some_blocks" s8 ch)(jp:dk Q "_law_four" zy ci)(kw:dk Q "_law_field" vU cl)(lc:dk Q "_law_pairs" tr co)(lf:dk Q "_law_tree" vj cr)(li:dk Q "_law_right" uT cs)(w:dk Q "law" zI db){Uy:dM}{x:ae}(lm:Ψ Q dP "WAYS" = Z (Z<|.ref x))(ln:Uy.gB=x)(c9:lx Q M.prog C Uy.kt Uy.cz)(ls:Ψ Q dP "GREATEST" = Z (Z<|.int 30 t))(lv:Ψ Q dP "SIDE" = Z (Z<|.int 2 v)){h:ae}(lw:Ψ Q dP "NoBlocks" = Z (Z<|.ref h))(mb:Γ Q h [.type "ValueError",.type "Exception",.type "BaseException",.type "object"] "ValueError.__new__" = aa)(mo:Φa Q (.ref h) (.ref h)=Z aa)(mp:Ψ Q dP "all" = Z Y)(ms:Ψ Q dP "bool" = Z Y)(m0:Ψ Q dP "dict" = Z Y)(na:Ψ Q dP "int" = Z Y)(nb:Ψ Q dP "isinstance" = Z Y)(ne:Ψ Q dP "len" = Z Y)(nl:Ψ Q dP "list" = Z Y)(nm:Ψ Q dP "max" = Z Y)(nn:Ψ Q dP "min" = Z Y)(no:Ψ Q dP "range" = Z Y)(np:Ψ Q dP "sorted" = Z Y)(ns:Ψ Q dP "sum" = Z Y)(nw:Ψ Q dP "tuple" = Z Y)(of:Ψ Q dP "zip" = Z Y):
  ∃fd:gC,(∀(j:ao) (u:af),mF j fd ⟨[u],[]⟩ [("_law_script",u)])/\∀UC:aZ,Q.In UC->UC.Ns dP ay->gL M.prog C Q ay UC il 9 s fd ["_law_script"] (jX 1<|G.r4 k b Uy):=by
 have F:dN ay:=⟨iG a c mp,iG a c ms,iG a c m0,iG a c na,iG a c nb,iG a c ne,iG a c nl,iG a c nm,iG a c nn,iG a c no,iG a c np,iG a c ns,iG a c nw,iG a c of,⟨t,mD a c ls⟩,⟨v,mD a c lv⟩⟩;have h_w11:=ga.aR (UJ:=["field"]) a c;have h_w24:=h0.aR (UJ:=["field"]) a c;have d:=mD a c lm;rw[<-ln]at d;have m:tw Q ay "NoBlocks" h:=⟨mD a c lw,mb⟩;refine Lo w a c ds (λ_ R R R R R R R=>.of_eq rfl) λUC=>?_;let n:eI:=⟨M.prog,C,Q,ay,UC⟩
 have ok:=Js (n:=n) (dL.aR a c) F;have o:=Qg (n:=n) (eq.aR a c) F ok;have i:=NV (n:=n) (ev.aR a c) F o;have f:=Q7 (n:=n) (ex.aR a c) F o;have ol:=Qw (UB:=M.prog) (C:=C) (UC:=UC) (fn.aX a c) F f;have on:=Pg (UB:=M.prog) (C:=C) (UC:=UC) (fr.aX a c) F i;have op:=SA (n:=n) (f0.aX a c) F;have g:=MB (n:=n) (f1.aR a c) F;have y:=Qo (n:=n) (f2.aR a c) F;have o0:=Ll (n:=n) (f4.aX a c) F y;have p:=Mp (n:=n) (f8.aX a c) F;have z:=S3 (UB:=M.prog) (C:=C) (UC:=UC) h_w11 F g p m;have l:=PA (n:=n) h_w11 F g p;have pc:=LU (UB:=M.prog) (C:=C) (UC:=UC) (ge.aR a c) F f ol;have A:=R3 (UB:=M.prog) (C:=C) (UC:=UC) (gl.aR a c) F f pc o0 g;have pi:=Q3 (UB:=M.prog) (C:=C) (UC:=UC) (go.aX a c) F f A g o y;have B:=Lb (n:=n) (gt.aR a c) F;have pm:=Jl (n:=n) (g1.vg a c) F c9 d;have D:=Jd (n:=n) (g2.vg a c) F c9 d p op pm;have q:=LR (n:=n) (g3.aX a c) F c9 d D;have po:=Ng (n:=n) (hd.aX a c) F c9 d q B;have E:=S_ (n:=n) (he.aR a c) F g;have pp:=N0 (n:=n) (hf.aX a c) F;have r:=I8 (n:=n) (hm.aX a c) F pp E;have pr:=Ot (UB:=M.prog) (C:=C) (UC:=UC) (hw.aX a c) F f i A on l g E r m z mo;have ss:=TL (UB:=M.prog) (C:=C) (UC:=UC) h_w24 F r l m z;have pt:=Tq (n:=n) h_w24 F r l;have pu:=Rq (n:=n) (ii.aX a c) F;have py:=Qj (n:=n) (im.aX a c) F pu;have H:=Lm (n:=n) (io.aX a c) F;have rc:=Tu (n:=n) (it.aR a c) F H;have re:=PB (n:=n) (jp.aR a c) F;have rs:=PH (n:=n) (kw.aR a c) F re;have sc:=I6 (n:=n) (lc.aR a c) F;have sn:=Oe (n:=n) (lf.aX a c) F sc H;have sp:=Pn (UB:=M.prog) (C:=C) (UC:=UC) (Uy:=Uy) (li.aX a c) F c9 d i f pr q pi D po B;exact S1 (Uy:=Uy) (w.aR a c) F c9 d i f py rc rs l pt sn sp q
def walk{a x VK c U0 d l m n r t u w:ae}{p:bC}{A:List aF}{B:(aF->Option af)->aZ->Prop}{y:bg->aZ->Prop}{v:DefRec}{Q:tD->Φ}(D:M.most=Z 63)(E:v.params.defaults=[])(F:∀(C:bg) (e:aZ),y C e->(Q C.params).In e)(I:∀o,qS (Q o)=aa)(N:∀(C:bg) (ay:aF->Option af) (z:ae) (e:aZ),(Q C.params).In e->e.Ns dP ay->ay v.name=Z (.ref z)->
   ∃fd:gC,(∀(j:ao) (H:af),mF j fd ⟨[H],[]⟩ [("_law_script",H)])/\∀UC:aZ,(Q C.params).In UC->UC.Ns dP ay->gL M.prog C (Q C.params) ay UC il 9 z fd ["_law_script"] (jX 1<|G.r4 k b<|oE a x VK c U0 d l m n r t u w))(J:G.l3 (oE a x VK c U0 d l m n r t u w)):
  PySem.W.WalkO p A B y M.row.toRowW v [] (λL S=>PySem.call L S):=
 L2.PZ (s:=63) (q:=9) (f := "_law_script") (VL:=λ_=>il) (sp:=λC=>jX 1<|G.r4 k b<|oE a x VK c U0 d l m n r t u w) D ∅ E ⟨rfl,by decide,by decide,rfl⟩ F N (λC h g UP O P T=>TH (I C.params) h g UP P T (G.Jt k b J UP (AD O ∅))) λ_ U U U U i=>i
end K65
namespace PySem.W.Fast
def tw3053688726566180542:=(0)
def tw6223545229661685248:=(0)
def tw17591159571223382816:=(0)
def tw7406080076266057664:=(0)
def tw6229125024138868929:=(0)
def tw14500681829050082753:=(0)
def tw581548156574029345:=(0)
def tw8409502386539078401:=(0)
def tw2212958632781543874:=(0)
def tw4985865886432534306:=(0)
def tw5666675865438882754:=(0)
def tw7997889926969891778:=(0)
def tw9352328914582634531:=(0)
def tw10561152922645131651:=(0)
def tw73703211060440803:=(0)
def tw3148520445152332932:=(0)
def tw13458071187895304900:=(0)
def tw15021828446996297476:=(0)
def tw5173272304376749892:=(0)
def tw16296224413571456773:=(0)
def tw13866004488847340325:=(0)
def tw7211704554338183045:=(0)
def tw8998318532744158214:=(0)
def tw3198715596660681382:=(0)
def tw13437434127826899718:=(0)
def tw12711254182291826598:=(0)
def tw3986965130838934502:=(0)
def tw11016278938560976263:=(0)
def tw1038764047470176903:=(0)
def tw11700851859320267431:=(0)
def tw3207499394714327815:=(0)
def tw17425291865114566920:=(0)
def tw13530177521875682600:=(0)
def tw3100242461276457352:=(0)
def tw944499745435409800:=(0)
def tw9178515618325897736:=(0)
def tw2377148202989579784:=(0)
def tw5228684881789472296:=(0)
def tw10647356323107281512:=(0)
def tw7943441505395848968:=(0)
def tw3812047100694175688:=(0)
def tw15574004563883711785:=(0)
def tw1405651823304290633:=(0)
def tw6875486337071506985:=(0)
def tw15207358709378649801:=(0)
def tw13164107449047482345:=(0)
def tw12906013035373725066:=(0)
def tw16455208008293512203:=(0)
def tw9137841592797988235:=(0)
def tw876565186595940075:=(0)
def tw11395449750851264267:=(0)
def tw15239408953524858795:=(0)
def tw8869196495690910796:=(0)
def tw1229934876863303852:=(0)
def tw2774093282389477228:=(0)
def tw4901044624367419853:=(0)
def tw14021816115500927821:=(0)
def tw17119011903949694925:=(0)
def tw224755250047164397:=(0)
def tw18353328360086107150:=(0)
def tw12374902063199150126:=(0)
def tw14448150414079688110:=(0)
def tw4533058403276446254:=(0)
def tw14244457400335666094:=(0)
def tw15908936063063244815:=(0)
def tw6398071038285661391:=(0)
def tw18121100711308539855:=(0)
def tw3583389509979294703:=(0)
def tw9378211130354794672:=(0)
def tw4513688347436639472:=(0)
def tw12441457533739526480:=(0)
def tw11137056288110029136:=(0)
def tw11776516850254438768:=(0)
def tw7875032727085372625:=(0)
def tw7584369443408874865:=(0)
def tw10904135796398529041:=(0)
def tw3733319546154298065:=(0)
def tw9090314825073300433:=(0)
def tw13021882164817847890:=(0)
def tw13584034086900025234:=(0)
def tw9565359037122566419:=(0)
def tw10264156565546605907:=(0)
def tw8658379709606494099:=(0)
def tw15945908692475677876:=(0)
def tw9696397548125918004:=(0)
def tw11525326874116495348:=(0)
def tw15758843027702616245:=(0)
def tw2971867904825110101:=(0)
def tw15242665109887236789:=(0)
def tw2712636955047830614:=(0)
def tw15253959250386867446:=(0)
def tw12391401538041912694:=(0)
def tw14327383278321505814:=(0)
def tw11827116362722983542:=(0)
def tw17622114625945273046:=(0)
def tw9012691310560395158:=(0)
def tw3457424959091731446:=(0)
def tw6390029132152796150:=(0)
def tw10691033318439975959:=(0)
def tw3700387197132303447:=(0)
def tw17776756539995668855:=(0)
def tw2955830982820959639:=(0)
def tw9373275778968844791:=(0)
def tw12286720058356361911:=(0)
def tw17775590184616330967:=(0)
def tw12595183066521461687:=(0)
def tw232229911673962104:=(0)
def tw16234504967416749816:=(0)
def tw14353120531021424568:=(0)
def tw13747350885881449400:=(0)
def tw9177399378040064089:=(0)
def tw8769698271608263769:=(0)
def tw8478265487049260313:=(0)
def tw10979703477566142841:=(0)
def tw5436945652781814649:=(0)
def tw4580948496800211162:=(0)
def tw9670896915816702362:=(0)
def tw1307965549776403898:=(0)
def tw18194932108842538618:=(0)
def tw5122229089750369978:=(0)
def tw1317003797911683770:=(0)
def tw16063224237198715738:=(0)
def tw11209393743741754427:=(0)
def tw9965545137325338875:=(0)
def tw15497388311062115899:=(0)
def tw1460044707228318555:=(0)
def tw16292365508265703419:=(0)
def tw17278318593209768124:=(0)
def tw15832933874052330748:=(0)
def tw14933629459858129180:=(0)
def tw15295448483392304476:=(0)
def tw12766017972762388988:=(0)
def tw11856102550966278684:=(0)
def tw6500652455587878652:=(0)
def tw11234453215654588316:=(0)
def tw2322442821358781565:=(0)
def tw8855269479440316701:=(0)
def tw11408691177954625949:=(0)
def tw6648666842126129629:=(0)
def tw6401405313740290877:=(0)
def tw1877313245920897566:=(0)
def tw7681685456346218366:=(0)
def tw1619216324246291454:=(0)
def tw204686223434446911:=(0)
def tw5279484587098585151:=(0)
end PySem.W.Fast
end
open PySem PySem.W PyProof.Rows
set_option maxRecDepth 100000 in
set_option maxHeartbeats 0 in
theorem PySem.Challenge.cw_mowfloor_k65_whole_rounds_holds : PySem.Challenge.rw_mowfloor_k65_whole_rounds.Holds := by
  w_on; o_law; k_head; (case hw => w_witness2)
  k_fill
  refine' K65.walk (M := PySem.Challenge.rw_mowfloor_k65_whole_rounds) rfl rfl (fun w h Y => PySem.W.kIn_of Y) ?hK ?F ?KO
  case hK => intro p; rfl
  case F =>
    intro w mg fa h KX G hmg
    apply K65.all_mk KX G hmg
    iterate 35 (apply L2.FY; iterate 4 k_is)
    k_is
    rfl
    (apply L2.E4; k_is; (iterate 4 kernel_rfl); (iterate 4 (apply L2.kpm; k_is)); (iterate 4 (apply L2.krm; k_is)); (iterate 8 (apply L2.kpm; k_is)))
    iterate 3 k_is
    k_exc
    kts_exm
    iterate 14 k_is
  case KO => exact ⟨⟨_, _, _, rfl, rfl, rfl, rfl, rfl, rfl, rfl⟩, ⟨_, _, _, rfl, rfl, rfl, rfl, rfl, rfl, rfl⟩, ⟨_, _, _, rfl, rfl, rfl, rfl, rfl, rfl, rfl⟩, ⟨_, _, _, rfl, rfl, rfl, rfl, rfl, rfl, rfl⟩⟩
