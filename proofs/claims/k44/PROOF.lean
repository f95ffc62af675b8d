import PyProof.Rows.All
import Wide.All
import OpenK.AllK
import Wide.FinOn
import Lean
import PyProof.EqAt
import PyProof.EqKinds
import PyProof.TupleCall
import PyProof.IsiNone
import PyProof.NeKinds
import PyProof.MaxThree
import PyProof.NsDelKeeps
import KE.KTryMore
import KE.KIsAll
import PyProof.ExcAttrAll.ValueError
import PyProof.Rows.SetFrom
import PyProof.WalksMore
import PyProof.CallStr
import PySem.Challenge.RW_mowfloor_k44_whole_rings_mirrored
set_option maxHeartbeats 4000000
set_option Elab.async false
set_option compiler.extract_closed false
open List (range range' replicate)
noncomputable section
local macro_rules|`(∅)=>`(by decide)
local macro_rules|`(⇑$e)=>`(by simpa using $e)
local macro_rules|`(↥$_)=>`(by simp)
local macro_rules|`(tactic|let $p:term:=$e)=>do
 let q:=p.raw
 let X (s:Lean.Syntax):=s.isOfKind ``Lean.Parser.Term.explicit
 let I (s:String):=Lean.mkIdent (.mkSimple s)
 let l:=(if X q then q[1] else q)[1].getSepArgs
 let n:=l.size
 let j:=if X q then 0 else ((l.findIdx? X).map (·+1)).getD 99
 let mut b:Array Lean.Ident:=#[]
 let mut t:Array (Lean.TSyntax `tactic):=#[]
 let w:=I "ζ"
 let E:=e.raw
 let u:=E.getId
 let c:=j<99&&E.isIdent&&l.any fun s=>s.getId==u||s[1].getId==u
 let h:=I "ξ"
 let u:=u.toString
 let u:=if u.startsWith "ζ" then u else "ζ"
 let d:Lean.Term:=if c then h else e
 let r ←if c then `(tactic|(revert $(⟨e⟩):ident;intro $h:ident)) else `(tactic|skip)
 if j<99&&E.isIdent then t:=t.push (←`(tactic|try clear $(⟨d⟩):ident))
 for i in [0:n] do
  let s:=if i+1==j then l[i]![1] else l[i]!
  let z:=I s!"{u}{i}"
  if s.isIdent&&(j==99||s.getId != `rfl) then b:=b.push ⟨s⟩
  else
   b:=b.push z
   if s.isIdent then t:=t.push (←`(tactic|subst $z))
   else if !s.isOfKind ``Lean.Parser.Term.hole then t:=t.push (←`(tactic|let $(⟨s⟩):term:=$z))
 let A:=b.extract j n
 let B:=b.extract 0 j
 let k:=I s!"xE{j}"
 if j==99 then `(tactic|(obtain ⟨$[$b:ident],*⟩:=$e;$t;*)) else if j==0 then `(tactic|($r;refine $(I s!"xA{n}") ($d :) fun $b* =>?_;$t;*)) else if j+1==n then `(tactic|($r;refine $k ($d :) fun $b* =>?_;$t;*)) else `(tactic|($r;refine $k ($d :) fun $B* $w=>?_;refine $(I s!"xA{n-j}") $w fun $A* =>?_;clear $w;$t;*))
local macro_rules|`(command|def $i:declId $s:optDeclSig:=$v)=>if v.raw.isOfKind ``Lean.Parser.Term.paren then `(command|noncomputable def $i $s:optDeclSig:=$v) else (·.raw.rewriteBottomUp (·.setInfo .none))<$>`(command|theorem $i $(⟨.node .none ``Lean.Parser.Command.declSig #[s.raw[0],s.raw[1][0]]⟩):declSig:=$v)|`(command|def $i:declId $s:optDeclSig $v:matchAlts)=>`(command|noncomputable def $i $s:optDeclSig $v:matchAlts)|`(command|@[simp] def $i:declId $s:optDeclSig:=$v)=>`(command|@[simp] noncomputable def $i $s:optDeclSig:=$v)|`(command|@[simp] def $i:declId $s:optDeclSig $v:matchAlts)=>`(command|@[simp] noncomputable def $i $s:optDeclSig $v:matchAlts)|`(command|abbrev $i:declId $s:optDeclSig:=$v)=>`(command|noncomputable abbrev $i $s:optDeclSig:=$v)
local macro_rules|`(⋯)=>`(by lia)
open PySem renaming wpAny_bind->ax,wpAny_pure->ba,wpAny_seqItems->fX,wpAny_callSpecial?_slot->kz,wpAny_newObj_type->i0,wpAny_field->fU,wpAny_call_entry->iW,wpAny_setField_rec->jA,wpAny_holding->h1,wpAny_truthy_bool->kP,wpAny_mono->gT,wpAny_letGo->iF,wpAny_rule->iu,plainId_quiet->lF,wpAny_typeNameOfWhole_keyiter->uL,wpAny_updateSeq_pair->pD,wpAny_tryCatch->mW,codeAny_builtin->nW,wpAny_passesOwn->o1,wpAny_onRaise->m9,wpAny_Call_Name_kw->rd,wpAny_execs_nil->q6,wpAny_updateSeq->pv,wpAny_attempt->n_,wpAny_forIn_list->te,call_meets->m6,wpAny_dictEntries->vS,wpAny_isInstance->tV,wpAny_pyIter_zip->tM,wpAny_typeOf->rN,wpAny_setField->u_,wpAny_letOwnedTupleGo_zip->De,wpAny_standAt->w7,noFill_tuple_add->zG,codeAny_mono->uq,richCompare_meets_room->DF,wpAny_specialOf->yb,wpAny_dictEpoch->xG,wpAny_notOrdered_dict->DW,wpAny_isOneOf_keyiter->Gj,wpAny_setFlight_noneW->DO,sizeLine_eq->vi,seqIndex_of->vh,wpAny_of_eq->vZ,isSubtype_stop->Ah,wpAny_newTuple->Aq,seq_tuple_add->Ag,wpAny_newList->yP,wpAny_getItem_heap->F_,wpAny_dictSet_heap->I6,call_function_tree->DL,eqIsQuiet_byValue->Jo,wpAny_assign_Name->Em,concat_meets->yA,wpAny_sequenceKey->Bu,seqIndex_neg->z0,slot_list_getitem->Cx,list_append->Ft,wpAny_pyHash_int->IF,wpAny_pyHash_str->D0,wpAny_execs_cons->BZ,wpAny_Try_except->GN,wpAny_ret_mkInt->Ir,wpAny_Name->yI,wpAny_bindName->FV,typeIs_str->zO,wpAny_fieldsOf->Hh,evalPart_none->FL,call_list_seq->Ek,wpAny_handled->EC,intBits_le_64->Cw,callType_new->HR
open Option renaming bind_eq_some_iff->bM,map_eq_some_iff->cv,bind_some->qP,getD_some->rH,map_some->rz,isSome_map->vm,isSome_iff_exists->DA,getD_none->Ex
open List renaming append_assoc->bz,getD_eq_getElem?_getD->cR,length_map->bB,mem_cons->bO,mem_singleton->cH,append_nil->cj,perm_append_comm->dx,size_toArray->cX,nodup_append->dt,mem_append_right->ez,map_cons->cS,length_append->d7,mem_append->dy,mem_append_left->eL,length_cons->dV,getElem?_eq_some_iff->fY,getElem?_eq_getElem->fL,pairwise_singleton->fN,mem_map->dK,take_append_drop->gq,pairwise_cons->fZ,map_append->fM,not_mem_nil->gz,drop_eq_getElem_cons->jZ,getElem?_map->hb,length_drop->gQ,lookup_cons->gZ,length_take->h5,mem_of_getElem?->jJ,map_map->f5,length_singleton->ko,nodup_cons->hN,all_eq_true->jm,find?_cons->jb,mem_range->i8,length_range->ky,mem_cons_of_mem->l5,mem_of_mem_drop->mV,drop_of_length_le->m3,mem_nil_iff->kr,length_pos_iff->mH,getElem?_append_right->q3,getElem?_append_left->pl,pairwise_iff_getElem->p6,eq_nil_of_length_eq_zero->s7,nil_append->k7,mem_cons_self->nD,getElem?_drop->nC,getElem?_set_ne->oR,mem_flatMap->lZ,flatMap_cons->nc,map_congr_left->oE,mem_map_of_mem->oV,getElem?_take->o3,getElem_map->nv,map_take->ly,nodup_nil->mA,mem_of_mem_take->q_,drop_zero->mC,pairwise_map->oF,foldl_cons->nU,map_drop->mx,any_eq_true->oH,of_mem_zip->n5,ext_getElem?->pK,eraseIdxIfInBounds_toArray->yV,filterMap_cons->rX,drop_drop->ox,take_length->qO,range_succ_eq_map->uE,getElem?_set_self->vO,take_of_length_le->vv,getElem_range->th,forIn_cons->pH,any_cons->o6,reverse_cons->rr,getElem_drop->rq,mem_iff_getElem->vT,cons_append->rF,zipIdx_cons->sx,countP_map->sd,take_sublist->wi,getElem_take->t5,drop_take->tk,countP_congr->vk,length_pos_of_mem->yk,getElem?_eq_none->ye,ext_getElem->tI,any_toArray->vy,countP_cons->vD,mem_erase_of_ne->Az,length_eraseIdx->A1,length_set->w3,length_nil->tC,zipIdx_nil->tK,length_zip->wL,range_succ->vI,lookup_append->xR,take_take->w6,setIfInBounds_toArray->EL,forIn_nil->uQ,getLast?_eq_getElem?->DE,getElem?_zip_eq_some->B_,mem_of_find?_eq_some->DG,drop_sublist->xu,mem_of_mem_eraseIdx->Ea,length_erase_of_mem->Ia,drop_length->yl,map_nil->vz,mem_filter->zB,dropLast_eq_take->Ez,mem_iff_getElem?->Cs,take_zero->xe,extract_toArray->Fe,perm_cons_erase->HT,getElem?_range->EU,set_comm->yE,mem_filterMap->F2,all_map->yn,getElem?_set->Ba,set_set->An,foldl_append->Ei,any_map->xp,getElem_inj->Gr,nodup_range->Cq,getElem_mem->IP,map_toArray->FK,filter_cons->H2,flatMap_nil->DV,mem_reverse->Jn,map_id->zd,find?_some->E7,not_lt->Br
open PySem.Heap renaming get?_push_of_some->b4,get?_push_size->dr,lt_size->cg,get?_update_other->iZ,size_push->h3,get?_update_self->oI,get?_none_of_le->xh
open Nat renaming le_refl->bT,le_of_ble_eq_true->fu,lt_of_lt_of_le->fk,ne_of_lt->ef,le_trans->fv,lt_irrefl->iU,le_add_right->md,ne_of_gt->jR,zero_le->kZ,mod_eq_of_lt->qI,min_eq_left->p4,add_assoc->oL,lt_succ_self->sO,add_lt_add_iff_right->Ad,lt_or_ge->pS,le_of_lt->tE,add_comm->wt,lt_of_le_of_lt->HC,mod_lt->vB,le_succ_of_le->Gd,add_zero->xo,sub_self->ys,sub_zero->AI,lt_trichotomy->HJ,succ_le_succ->B7,min_eq_right->CI,lt_trans->BO,zero_add->I0,min_self->Fs,le_succ->CK,le_zero->Jl,add_mod->FH,not_lt->Ew
open PySem.W renaming kasC_pure->bq,kasC_bind->bw,mg_none_of->iV,kasC_range->gg,hideAll_none->qy,kasC_modify->lA,mg_of->nZ,hideAll_get->sL,kasC_get->kC,of_hideAll->vl,kasC_lift->ov,callWith_K->Ac,cellsFrom_some->Hl,ktu_apart->F8,kat_item->u9,kas_swaps_map->BW,kat_kind->zU
open Bool renaming and_eq_true->cV,false_ne_true->eu,false_eq_true->gk,eq_iff_iff->k8,not_eq_true'->vR,or_eq_true->AO,not_true->y0,and_true->AD,not_eq_true->A3,decide_and->Jf,and_false->F0,true_bne->D3,or_true->G2
open List.Perm renaming append_left->en,append_right->fw,eq_of_pairwise->G_,map->yf,cons_inv->Ue
open Array renaming length_toList->f6,getElem?_toList->hq,ext'->kN,getD_eq_getD_getElem?->Fm,perm_iff_toList_perm->Cb,getElem?_eq_getElem->FN,getElem_toList->Ji,forIn_toList->Ie,append_assoc->H5,toList_push->A8
open PySem.F renaming plainAttrs_list->jF,slot_list_append->q9,type_list_append->qM,slot_dict_keyiterator_next->r7,plain_min_loop->nz,slot_zip_next->m7,slot_tuple_iterator_next->u6,args_tuple_add_2->Ae,slot_list_getattribute->xk,slot_list_extend->yM,type_list_extend->yL,entry_tuple_add->xn,slot_tuple_hash->vP,slot_tuple_add->AV,args_zip_next_1->ue,args_dict_keyiterator_next_1->EM,entry_zip_next->wx,entry_min_loop->wX,entry_dict_keyiterator_next->Ef,args_tuple_iterator_next_1->Fz,entry_tuple_iterator_next->Di,excBase_ValueError->Fu,slot_dict_getitem->Jw,slot_list_pop->EA,type_list_pop->H8,args_list_append_2->El,args_object_init_3->Bn,entry_list_append->Gs,slot_list_append->E1,slot_list_index->IV,entry_list_pop->Il,slot_dict_iter->IW,typeCall_zip_2->A_,slot_list_pop->Hn,newCall_zip_2->EY,entry_zip_new->Cd,slot_dict_len->I2,called_zip->BC,plain_min->IS,entry_min->HO,kind_min->Hj
open Prod renaming ext->el
open PySem.PassesOwn renaming never->iz
open PyProof.Rows renaming slot_tuple_getitem->qU,callWith_type1->t8,assignInOrder_cons->xt,subscriptTail_builtinR->Jj,entry_tuple_getitem->Jb,args_tuple_getitem->Cz,assignInOrder_nil->EH,callWith_builtin1->Um,get?_update_seq->HI,entry_list_sort->Iu,slicePart_none->DQ,elem'_eq->uy,slot_list_sort->Cn,args_list_sort->CN,tupleItemsOf_->Gz,listUpdate_at->I1,plain_sorted->Ij,entry_sorted->DD,args_sorted1->Ce,tail_any->yF,lt_int->QW,gt_int->Q2
open Prod.mk renaming injEq->ib
open PySem.Around renaming under_plainId->nd
open Ne renaming symm->fI
open Int renaming le_refl->lY,toNat_natCast->rg,emod_nonneg->rx,emod_lt_of_pos->wb,le_trans->zz,not_lt->zC,mul_one->IJ
open PySem.Calls renaming call_function_entry->yQ,Name_function_global->H9,callWith_builtin->DP,evalArgs_plain->HL
open PySem.Heap.SameBut renaming update->wH
open PySem.Obj renaming data_mapFields->va,isFreed_of_fields->EZ,cls_mapFields->Jr
open PySem.AutoSeq1 renaming sub_tuple_tuple->Gw,list_reverse_list_0->Lo
open PySem.W.Looks renaming of_pure->z4,ld->Rn
open PySem.SeqAt.EqAt renaming int_str->Fh,str_int->D1,none_tuple->QI,bool_tuple->QT,tuple_none->JJ,tuple_bool->Nf,none_bool->MS,bool_none->Pm,bool_bool->Ut,int_tuple->Ma,str_tuple->Mg,tuple_int->QH,tuple_str->TC,none_int->Ul,none_str->TY,bool_int->PZ,bool_str->L5,int_none->RI,int_bool->PY,str_none->R7,str_bool->M4,int_int->Ng,str_str->Pu,of_refs->Qo
open PySem.SeqAt.RcAt renaming tuples->Ga,lists_lengths->R1,none_tuple->O6,bool_tuple->SE,tuple_none->Mk,tuple_bool->UC,none_none->K8,none_bool->OQ,bool_none->Lm,bool_bool->Ke,int_tuple->LC,str_tuple->Sv,tuple_int->JI,tuple_str->KV,none_int->JT,none_str->Th,bool_int->Lb,bool_str->NT,int_none->OY,int_bool->O0,str_none->Rx,str_bool->Pd,int_int->MJ,int_str->TP,str_int->R0,str_str->P5,lists->MA
open List.Pairwise renaming map->IX,imp_of_mem->N3,filter->RM,imp₂->T1
open PySem.IsL renaming update->ES
open List.cons renaming injEq->A7
open PySem.SeqAt.RcNeAt renaming lists_lengths->PC,none_tuple->Sl,bool_tuple->L0,tuple_none->So,tuple_bool->JS,none_none->O7,none_bool->T3,bool_none->OO,bool_bool->J3,int_tuple->OK,str_tuple->SK,tuple_int->K9,tuple_str->PS,none_int->Kx,none_str->OE,bool_int->Qp,bool_str->SO,int_none->Nh,int_bool->RA,str_none->LY,str_bool->Ln,int_int->NZ,int_str->Rm,str_int->Kp,str_str->QC,tuples->QY,lists->Sr
open List.Sublist renaming append_left->Ki
open PySem.Heap.IsListIter renaming «at»->KQ
open PySem renaming Scope->hp,Str->aD,Heap->aY,Value->af,CmpOp->l9,Sem->eo,Addr->ae,Stmt->bC,Expr->bt,Obj->bc,Shared->ao,Around->bE,World->bj,Program->bF,Builtin->bx,cLine->b9,model->aW,Tok->h_,Paired->eA,sysModules->jf,mainGlobals->d2,builtinsNs->wY,bootBuiltins->fR,Env->eg,GenState->y5,Model->gw,eval->b_,isTrue->qf,backTo->fE,starEach->bP,swapsWith->mz,assign->jd,assignInOrder->zt,assignEach->hr,setItem->wj,swapsWithSole->uH,swappedStores->vu,bindName->wD,PassesOwn->pZ,pyNext->gF,letOwnedTupleGo->qK,pyIter->vF,rawInt->ja,Walks->lj,foldedSetIterable->mQ,Operator->y_,binaryOp->gn,compareOp->ea,behindInMarks->qc,lastMarks->uO,recursionLimit->Ey,Result->u7,FuncData->gR,BindsTo->nq,bindArgs->nh,Keyword->oz,NameKind->da,cellsFrom->yK,richCompare->kT,IsPart->lD,getItem->nT,seqIndex?->x6,sliceBounds->o2,PlainAttrs->t6,typeOf->qb,attributeBase->sk,backToKw->AL,keywordEach->AM,valueAt->n9,atKey->kA,Params->vo,callerA->oe,cellOf->wz,compEnvC->uP,newFunctionEnv->Gf,comprehension->AX,newList->u4,newExc->vf,newTuple->xa,firstArgMember->uu,seqItems?->nI,ZipApart->ng,IsZip->fG,IsPair->e4,shortFactorBits->uX,getattributeRaised->GC,entryFor->x4,updateSeq->uA,PyData->nG,ExceptHandler->zI,argBest->iR
open Bool renaming true->V,false->aq
open Option renaming some->Z,none->Y
open PyProof.Rows renaming IsTup->o9,AllBare->ll,envOfC->iT,subscriptTail->EE,IntsAre->rK,bubble->sT,SortKind->gU,Keyed->bu,SortSt->bH,pendingOf->iw,failedOf->h9,mergeAt'->wq,ltAt'->oG,reverseSlice'->s8,seqObj->gM,keyKind'->yN,tuples'->sZ
open PySem.W renaming WData->si,WShape->sb,kas_rev->nf,kas_cmp->fC,kas_item->bp,kas_st->tF,Frag->Φ,nsIn->Ψ,fnOf->Ξ,keepIn->Θ,excIn->Δ,hideAll->Γ,codeIn->Ω,exmOne->Φa,methodObj->Φb
open PySem
abbrev aJ:=@if_pos
abbrev aP:=@if_neg
abbrev dJ:=@decide_eq_true
abbrev e9:=@of_decide_eq_true
abbrev eB:=@decide_eq_false
abbrev hD:=@decide_eq_true_iff
abbrev eT:=@or_false
abbrev kd:=@decide_eq_decide
abbrev fy:=@if_false
abbrev lh:=@beq_self_eq_true
abbrev fl:=@if_true
abbrev y1:=@decide_eq_false_iff_not
abbrev uF:=@decide_eq_true_eq
abbrev Ap:=@beq_eq_false_iff_ne
abbrev uT:=@beq_iff_eq
variable{V7:Sort _}{p:Prop}
def xE1{o:V7->Prop}(e:∃g,o g)(q:∀g,o g->p):p:=have ⟨g,i⟩:=e;q g i
variable{WL:Sort _}
def xE2{o:V7->WL->Prop}(e:∃g d,o g d)(q:∀g d,o g d->p):p:=have ⟨g,d,i⟩:=e;q g d i
variable{Xa:Sort _}
def xE3{o:V7->WL->Xa->Prop}(e:∃g d n,o g d n)(q:∀g d n,o g d n->p):p:=have ⟨g,d,n,i⟩:=e;q g d n i
variable{Xb:Sort _}
def xE4{o:V7->WL->Xa->Xb->Prop}(e:∃g d n s,o g d n s)(q:∀g d n s,o g d n s->p):p:=have ⟨g,d,n,s,i⟩:=e;q g d n s i
variable{Xc:Sort _}
def xE5{o:V7->WL->Xa->Xb->Xc->Prop}(e:∃g d n s c,o g d n s c)(q:∀g d n s c,o g d n s c->p):p:=have ⟨g,d,n,s,c,i⟩:=e;q g d n s c i
variable{Xd:Sort _}
def xE6{o:V7->WL->Xa->Xb->Xc->Xd->Prop}(e:∃g d n s c N,o g d n s c N)(q:∀g d n s c N,o g d n s c N->p):p:=have ⟨g,d,n,s,c,N,i⟩:=e;q g d n s c N i
variable{Xf:Sort _}
def xE7{o:V7->WL->Xa->Xb->Xc->Xd->Xf->Prop}(e:∃g d n s c N L,o g d n s c N L)(q:∀g d n s c N L,o g d n s c N L->p):p:=have ⟨g,d,n,s,c,N,L,i⟩:=e;q g d n s c N L i
variable{V6:Sort _}
def xE8{o:V7->WL->Xa->Xb->Xc->Xd->Xf->V6->Prop}(e:∃g d n s c N L b,o g d n s c N L b)(q:∀g d n s c N L b,o g d n s c N L b->p):p:=have ⟨g,d,n,s,c,N,L,b,i⟩:=e;q g d n s c N L b i
def xE9{a:Sort _}{o:V7->WL->Xa->Xb->Xc->Xd->Xf->V6->a->Prop}(e:∃g d n s c N L b v,o g d n s c N L b v)(q:∀g d n s c N L b v,o g d n s c N L b v->p):p:=have ⟨g,d,n,s,c,N,L,b,v,i⟩:=e;q g d n s c N L b v i
variable{g d:Prop}
def xA2(e:g/\d)(q:g->d->p):p:=q e.1 e.2
variable{n:Prop}
def xA3(e:g/\d/\n)(q:g->d->n->p):p:=q e.1 e.2.1 e.2.2
variable{s:Prop}
def xA4(e:g/\d/\n/\s)(q:g->d->n->s->p):p:=q e.1 e.2.1 e.2.2.1 e.2.2.2
variable{c:Prop}
def xA5(e:g/\d/\n/\s/\c)(q:g->d->n->s->c->p):p:=q e.1 e.2.1 e.2.2.1 e.2.2.2.1 e.2.2.2.2
variable{N:Prop}
def xA6(e:g/\d/\n/\s/\c/\N)(q:g->d->n->s->c->N->p):p:=q e.1 e.2.1 e.2.2.1 e.2.2.2.1 e.2.2.2.2.1 e.2.2.2.2.2
variable{L:Prop}
def xA7(e:g/\d/\n/\s/\c/\N/\L)(q:g->d->n->s->c->N->L->p):p:=q e.1 e.2.1 e.2.2.1 e.2.2.2.1 e.2.2.2.2.1 e.2.2.2.2.2.1 e.2.2.2.2.2.2
def xA8{b:Prop}(e:g/\d/\n/\s/\c/\N/\L/\b)(q:g->d->n->s->c->N->L->b->p):p:=q e.1 e.2.1 e.2.2.1 e.2.2.2.1 e.2.2.2.2.1 e.2.2.2.2.2.1 e.2.2.2.2.2.2.1 e.2.2.2.2.2.2.2
set_option linter.all false
set_option maxRecDepth 100000
namespace L2
open Spec PyProof.Rows
variable{V1:hp}{WH f:aD}{VM e:aY}{aB:aD->Option af}{VQ VX:List aD}{W6 Wr:l9}{N:af->af->eo af}{cF WM:List ae}{WU:List bC}{v w q b We:Nat}{L:Int->Int->Int}{Wh c n:bt}{U:List bt}{R:Φ}{G:List (ae×bc)}{VT:Pos}{h VE:ao}{D VD:af->ao->Prop}{P:bE}{VH d g:ae}{y:bj}{VJ:bF}{J:af}{VZ:List af}
inductive ab where
 | aS|aF (d:Bool)|int (b:Int)|str (f:aD)|tup (B:List ab)|fn (g:ae)|a3 (B:List ab)|fd
mutual
def ab.beq:ab->ab->Bool
 |.aS,.aS=>V
 |.aF g,.aF d=>g==d
 |.int b,.int v=>decide (b=v)
 |.str f,.str t=>decide (f=t)
 |.tup g,.tup d=>ab.mu g d
 |.fn g,.fn d=>decide (g=d)
 |.a3 g,.a3 d=>ab.mu g d
 |.fd,.fd=>V
 |_,_=>aq
def ab.mu:List ab->List ab->Bool
 |[],[]=>V
 |g::r,d::I=>ab.beq g d&&ab.mu r I
 |_,_=>aq
end
mutual
theorem ab.beq_iff:∀g d:ab,ab.beq g d=V↔g=d
 |.aS,d=>by cases d<;>simp[ab.beq]
 |.aF g,d=>by cases d<;>simp[ab.beq]
 |.int b,d=>by cases d<;>simp[ab.beq]
 |.str f,d=>by cases d<;>simp[ab.beq]
 |.tup f,d=>by
  cases d with
  |tup t=>rw[ab.beq,ab.xI f t];simp
  |_=>simp[ab.beq]
 |.fn g,d=>by cases d<;>simp[ab.beq]
 |.a3 f,d=>by
  cases d with
  |a3 t=>rw[ab.beq,ab.xI f t];simp
  |_=>simp[ab.beq]
 |.fd,d=>by cases d<;>simp[ab.beq]
theorem ab.xI:∀g d:List ab,ab.mu g d=V↔g=d
 |[],d=>by cases d<;>simp[ab.mu]
 |f::r,d=>by
  cases d with
  |nil=>simp[ab.mu]
  |cons t I=>rw[ab.mu,cV,ab.beq_iff f t,ab.xI r I];simp
end
noncomputable instance:DecidableEq ab:=λg d=>decidable_of_iff (ab.beq g d=V) (ab.beq_iff g d)
mutual
def dB(e:aY):ab->af->Prop
 |.aS,u=>u=.none
 |.aF d,u=>u=.bool d
 |.int b,u=>∃I,u=.int b I
 |.str f,u=>∃I,u=.str f I
 |.fn g,u=>u=.ref g
 |.a3 _,u=>∃g,u=.ref g
 |.fd,u=>∃g,u=.ref g
 |.tup B,u=>∃g m V9 w,u=.ref g/\e.get? g=Z m/\m.cls=.type "tuple" /\ m.data=.seq V9 w/\eb e B V9.toList
def eb(e:aY):List ab->List af->Prop
 |[],T=>T=[]
 |s::B,T=>∃u r,T=u::r/\dB e s u/\eb e B r
end
mutual
def ab.key:Nat->ab->Bool
 |_,.int _=>V
 |_,.str _=>V
 |w+1,.tup B=>ab.keys w B
 |_,_=>aq
def ab.keys:Nat->List ab->Bool
 |_,[]=>V
 |w,s::B=>ab.key w s&&ab.keys w B
end
mutual
def m2(y:bj):ab->Int
 |.int b=>hashInt b
 |.str f=>hashStr y f
 |.tup B=>reduceHash (bx.Tuple.tupleHashOf<|i5 y B)
 |_=>0
def i5(y:bj):List ab->List Int
 |[]=>[]
 |s::B=>m2 y s::i5 y B
end
mutual
def tX:ab->Nat
 |.tup B=>kJ B+1
 |_=>1
def kJ:List ab->Nat
 |[]=>0
 |s::B=>tX s+kJ B
end
theorem yJ(y:bj):∀g d:List ab,i5 y (g++d)=i5 y g++i5 y d
 |[],d=>rfl
 |s::g,d=>by rw[rF,i5,i5,yJ y g d,rF]
theorem As:∀g d:List ab,kJ (g++d)=kJ g+kJ d
 |[],d=>by simp[kJ]
 |s::g,d=>by rw[rF,kJ,kJ,As g d];lia
theorem Bo{w:Nat}:∀{g d:List ab},ab.keys w (g++d)=V->ab.keys w d=V
 |[],d,e=>e
 |s::g,d,e=>by rw[rF,ab.keys,cV]at e;exact Bo e.2
theorem eb.length{e:aY}:∀{B:List ab}{T:List af},eb e B T->B.length=T.length
 |[],T,c=>by rw[show T=[] from c];rfl
 |s::B,T,c=>by
  let⟨u,@r,rfl,W,c⟩:=c;rw[dV,dV,eb.length c]
def BP(e VB:aY):Prop:=(∀g m V9 w,e.get? g=Z m->m.cls=.type "tuple" -> m.data=.seq V9 w->VB.get? g=Z m)
mutual
theorem dB.keep{e VB:aY}(q:BP e VB):∀{s:ab}{u:af},dB e s u->dB VB s u
 |.aS,_,c=>c
 |.aF _,_,c=>c
 |.int _,_,c=>c
 |.str _,_,c=>c
 |.fn _,_,c=>c
 |.a3 _,_,c=>c
 |.fd,_,c=>c
 |.tup B,_,c=>by
  let⟨g,m,V9,@w,rfl,A,C,a,b⟩:=c;exact⟨g,m,V9,w,rfl,q g m V9 w A C a,C,a,eb.keep q b⟩
theorem eb.keep{e VB:aY}(q:BP e VB):∀{B:List ab}{T:List af},eb e B T->eb VB B T
 |[],_,c=>c
 |s::B,_,c=>by
  let⟨u,@r,rfl,A,C⟩:=c;exact⟨u,r,rfl,dB.keep q A,eb.keep q C⟩
end
theorem CO{e:aY}:∀(w:Nat) {f t:ab}{u:af},ab.key w f=V->ab.key w t=V->dB e f u->dB e t u->f=t
 |w,.int b,t,u,_,bg,h,a=>by
  let⟨@I,rfl⟩:=h;cases t with
  |int v=>let⟨@J,c⟩:=a;injection c with c;rw[c]
  |str i=>let⟨@J,c⟩:=a;cases c
  |tup B=>let⟨W,W,W,@W,c,W⟩:=a;cases c
  |_=>cases w<;>cases bg
 |w,.str i,t,u,_,bg,h,a=>by
  let⟨@I,rfl⟩:=h;cases t with
  |int v=>let⟨@J,c⟩:=a;cases c
  |str i=>let⟨@J,c⟩:=a;injection c with c;rw[c]
  |tup B=>let⟨W,W,W,@W,c,W⟩:=a;cases c
  |_=>cases w<;>cases bg
 |w+1,.tup B,t,u,l,bg,h,a=>by
  let⟨g,m,V9,@H,rfl,A,C,n,o⟩:=h;cases t with
  |int v=>let⟨@J,c⟩:=a;cases c
  |str i=>let⟨@J,c⟩:=a;cases c
  |tup U=>
   let⟨E,Wj,F,@G,c,k,L,j,x⟩:=a;cases c;rw[A]at k;cases k;rw[n]at j;injection j with j _;subst j;have all:∀(B U:List ab) (T:List af),ab.keys w B=V->ab.keys w U=V->eb e B T->eb e U T->B=U:=by
    intro B;induction B with
    |nil=>
     intro U T W W g d;cases U with
     |nil=>rfl
     |cons c U=>let⟨W,@W,p,W⟩:=d;rw[show T=[] from g]at p;cases p
    |cons s B y=>
     intro U T V8 Wd g d;let⟨u,@r,rfl,z,D⟩:=g;cases U with
     |nil=>cases (show u::r=[] from d)
     |cons c U=>
      let⟨M,@Wz,p,aU,aV⟩:=d;cases p;rw[ab.keys,cV]at V8 Wd;rw[CO w V8.1 Wd.1 z aU,y U r V8.2 Wd.2 D aV]
   rw[all B U _ l bg o x]
  |_=>cases bg
 |_,.aS,_,_,q,_,_,_=>by cases ‹Nat›<;>cases q
 |_,.aF _,_,_,q,_,_,_=>by cases ‹Nat›<;>cases q
 |_,.fn _,_,_,q,_,_,_=>by cases ‹Nat›<;>cases q
 |_,.a3 _,_,_,q,_,_,_=>by cases ‹Nat›<;>cases q
 |_,.fd,_,_,q,_,_,_=>by cases ‹Nat›<;>cases q
 |0,.tup _,_,_,q,_,_,_=>by cases q
section
variable{VO:bF}{y:bj}
theorem CW:∀(w:Nat) {P:bE}{VD:af->ao->Prop}{h:ao}{s:ab}{u:af}{D:Int->ao->Prop},ab.key w s=V->P.units+w<b9->dB h.heap s u->D (m2 y s) {h with toks:=h.toks+tX s}->
  wpAny (aW VO y) P (pyHash u) D VD h
 |w,P,VD,h,.int b,u,D,_,_,a,e=>by
  let⟨@I,rfl⟩:=a;exact IF e
 |w,P,VD,h,.str b,u,D,_,_,a,e=>by
  let⟨@I,rfl⟩:=a;exact D0 e
 |w+1,P,VD,h,.tup B,u,D,q,t,a,e=>by
  let⟨g,m,V9,@H,rfl,n,p,hd,VF⟩:=a;have i:h.TypeIs (.ref g) "tuple" := ⟨m,n,p⟩;unfold pyHash;first|unfold pyHashByItsType|skip
  first|refine ax (wpAny_cRoomFor_or (.inr ⋯) ?_)|skip
  refine ax (yb i vP.lookup ?_);show wpAny _ _ (if (Z (af.builtin "tuple.__hash__")==Z af.none)=V then _ else _) D VD h;rw[aP (by rw[beq_builtin_none];exact eu)];refine ax (yb i vP.lookup ?_);show wpAny _ _ (callSpecialIfBoundUnlessNone? (.ref g) "__hash__" _ >>= _) D VD h;refine ax (wpAny_callSpecialIfBoundUnlessNone?_slot i vP<|iW vP i F.entry_tuple_hash ?_<|F.args_tuple_hash_1 _);show wpAny _ _ (bx.Tuple.tupleItemsOf (.ref g) >>= _) _ _ h;refine ax (wpAny_tupleItemsOf n hd ?_);refine ax ?_;rw[<-Ie];refine te _
   (λdq (d:Array Int) VE=>∃done left,B=done++left/\eb h.heap left dq/\d.toList=i5 y done/\VE={h with toks:=h.toks+kJ done})
   _ ?_ ?_ _ _ ⟨[],B,rfl,VF,rfl,rfl⟩
  ·rintro f dq d VE ⟨done,left,rfl,j,k,rfl⟩;cases left with
   |nil=>cases (show f::dq=[] from j)
   |cons s left=>
    let⟨u,@r,c,A,o⟩:=j;cases c;have Wd:=Bo (g:=done) (show ab.keys w (done++s::left)=V from q);rw[ab.keys,cV]at Wd;refine ax (CW w Wd.1 (by show P.units+1+w<b9;lia) A ?_);first
     | exact ba ⟨done++[s],left,by simp,o,by simp[k,yJ,i5],by simp[As,kJ,oL]⟩
     | exact ax (ba (ba ⟨done++[s],left,by simp,o,by simp[k,yJ,i5],by simp[As,kJ,oL]⟩))
  ·rintro d VE ⟨done,left,rfl,j,k,rfl⟩;cases left with
   |cons s left=>let⟨W,@W,c,W⟩:=j;cases c
   |nil=>
   rw[cj]at e;show wpAny _ _ (retInt<|bx.Tuple.tupleHashOf d.toList) _ _ _;rw[k];refine Ir ?_;show wpAny _ _ (if (decide (-(2:Int)^63<=bx.Tuple.tupleHashOf (i5 y done))&&decide (bx.Tuple.tupleHashOf (i5 y done)<2^63))=V then _ else _) D VD _;rw[m2,tX]at e;unfold reduceHash at e;by_cases l:(decide (-(2:Int)^63<=bx.Tuple.tupleHashOf (i5 y done))&&decide (bx.Tuple.tupleHashOf (i5 y done)<2^63))=V
   ·rw[aJ l];rw[aJ l]at e;exact ba (by simpa [oL] using e)
   ·rw[aP l];rw[aP l]at e;exact ax (iu (ba (by simpa [oL] using e)))
 |_,_,_,_,.aS,_,_,q,_,_,_=>by cases ‹Nat›<;>cases q
 |_,_,_,_,.aF _,_,_,q,_,_,_=>by cases ‹Nat›<;>cases q
 |_,_,_,_,.fn _,_,_,q,_,_,_=>by cases ‹Nat›<;>cases q
 |_,_,_,_,.a3 _,_,_,q,_,_,_=>by cases ‹Nat›<;>cases q
 |_,_,_,_,.fd,_,_,q,_,_,_=>by cases ‹Nat›<;>cases q
 |0,_,_,_,.tup _,_,_,q,_,_,_=>by cases q
mutual
def cz:ab->ab->Bool
 |.aS,.aS=>V
 |.aF g,.aF d=>g==d
 |.aF g,.int v=>(if g then 1 else 0)==v
 |.int b,.aF d=>b==(if d then 1 else 0)
 |.int b,.int v=>b==v
 |.str f,.str t=>f==t
 |.tup g,.tup d=>fg g d
 |_,_=>aq
def fg:List ab->List ab->Bool
 |[],[]=>V
 |g::r,d::I=>cz g d&&fg r I
 |_,_=>aq
end
mutual
def ab.bA:Nat->ab->Bool
 |_,.aS=>V
 |_,.aF _=>V
 |_,.int _=>V
 |_,.str _=>V
 |w+1,.tup B=>ab.cO w B
 |_,_=>aq
def ab.cO:Nat->List ab->Bool
 |_,[]=>V
 |w,s::B=>ab.bA w s&&ab.cO w B
end
theorem kF{w:Nat}:∀{B:List ab}{v:Nat}{s:ab},ab.cO w B=V->B[v]?=Z s->ab.bA w s=V
 |[],v,s,_,e=>by simp at e
 |c::B,0,s,q,e=>by
  rw[ab.cO,cV]at q;simp at e;subst e;exact q.1
 |c::B,v+1,s,q,e=>by
  rw[ab.cO,cV]at q;exact kF q.2 ⇑e
theorem eb.get{e:aY}:∀{B:List ab}{T:List af}{v:Nat}{u:af},eb e B T->T[v]?=Z u->∃s,B[v]?=Z s/\dB e s u
 |[],T,v,u,g,c=>by rw[show T=[] from g]at c;simp at c
 |s::B,T,0,u,g,c=>by
  let⟨J,@r,rfl,a,b⟩:=g;simp at c;subst c;exact⟨s,rfl,a⟩
 |s::B,T,v+1,u,g,c=>by
  let⟨J,@r,rfl,a,b⟩:=g;let⟨@d,A,C⟩:=eb.get (v:=v) b ⇑c;exact⟨d,by simpa using A,C⟩
theorem DJ{e:aY}:∀(w:Nat) {f t:ab}{u:af},ab.bA w f=V->ab.bA w t=V->dB e f u->dB e t u->cz f t=V
 |w,.aS,t,u,_,bg,h,a=>by
  cases (show u=.none from h);cases t with
  |aS=>rfl
  |aF d=>cases a
  |int v=>let⟨@J,c⟩:=a;cases c
  |str i=>let⟨@J,c⟩:=a;cases c
  |tup B=>let⟨W,W,W,@W,c,W⟩:=a;cases c
  |fn g=>cases w<;>cases bg
  |a3 g=>cases w<;>cases bg
  |fd=>cases w<;>cases bg
 |w,.aF d,t,u,_,bg,h,a=>by
  cases (show u=.bool d from h);cases t with
  |aS=>cases a
  |aF n=>cases a;simp[cz]
  |int v=>let⟨@J,c⟩:=a;cases c
  |str i=>let⟨@J,c⟩:=a;cases c
  |tup B=>let⟨W,W,W,@W,c,W⟩:=a;cases c
  |fn g=>cases w<;>cases bg
  |a3 g=>cases w<;>cases bg
  |fd=>cases w<;>cases bg
 |w,.int b,t,u,_,bg,h,a=>by
  let⟨@I,rfl⟩:=h;cases t with
  |aS=>cases a
  |aF n=>cases a
  |int v=>let⟨@J,c⟩:=a;cases c;simp[cz]
  |str i=>let⟨@J,c⟩:=a;cases c
  |tup B=>let⟨W,W,W,@W,c,W⟩:=a;cases c
  |fn g=>cases w<;>cases bg
  |a3 g=>cases w<;>cases bg
  |fd=>cases w<;>cases bg
 |w,.str b,t,u,_,bg,h,a=>by
  let⟨@I,rfl⟩:=h;cases t with
  |aS=>cases a
  |aF n=>cases a
  |int v=>let⟨@J,c⟩:=a;cases c
  |str i=>let⟨@J,c⟩:=a;cases c;simp[cz]
  |tup B=>let⟨W,W,W,@W,c,W⟩:=a;cases c
  |fn g=>cases w<;>cases bg
  |a3 g=>cases w<;>cases bg
  |fd=>cases w<;>cases bg
 |w+1,.tup B,t,u,l,bg,h,a=>by
  let⟨g,m,V9,@H,rfl,A,C,o,x⟩:=h;cases t with
  |aS=>cases a
  |aF n=>cases a
  |int v=>let⟨@J,c⟩:=a;cases c
  |str i=>let⟨@J,c⟩:=a;cases c
  |fn g=>cases bg
  |a3 g=>cases bg
  |fd=>cases bg
  |tup U=>
   let⟨F,Wj,G,@L,c,k,M,j,y⟩:=a;cases c;rw[A]at k;cases k;rw[o]at j;injection j with j _;subst j;have all:∀(B U:List ab) (T:List af),ab.cO w B=V->ab.cO w U=V->eb e B T->eb e U T->fg B U=V:=by
    intro B;induction B with
    |nil=>
     intro U T W W g d;cases U with
     |nil=>rfl
     |cons c U=>let⟨W,@W,p,W⟩:=d;rw[show T=[] from g]at p;cases p
    |cons s B z=>
     intro U T V8 Wd g d;let⟨u,@r,rfl,D,E⟩:=g;cases U with
     |nil=>cases (show u::r=[] from d)
     |cons c U=>
      let⟨N,@Wz,p,aU,aV⟩:=d;cases p;rw[ab.cO,cV]at V8 Wd;rw[fg,DJ w V8.1 Wd.1 D aU,z U r V8.2 Wd.2 E aV];rfl
   rw[cz];exact all B U _ l bg x y
 |w,.fn _,_,_,q,_,_,_=>by cases w<;>cases q
 |w,.a3 _,_,_,q,_,_,_=>by cases w<;>cases q
 |w,.fd,_,_,q,_,_,_=>by cases w<;>cases q
 |0,.tup _,_,_,q,_,_,_=>by cases q
def sN{c:Nat->Bool}:∀{B U:List ab},(∀(v:Nat) (f t:ab),B[v]?=Z f->U[v]?=Z t->c v=cz f t)->((range<|min B.length U.length).all c&&B.length==U.length)=fg B U:=by
 have S:∀(B U:List ab) (N:Nat->Bool),(∀(v:Nat) (f t:ab),B[v]?=Z f->U[v]?=Z t->N v=cz f t)->((range<|min B.length U.length).all N&&B.length==U.length)=fg B U:=by
  intro B;induction B with
  |nil=>intro U N W;cases U<;>simp[fg]
  |cons s B a=>
   intro U N e;cases U with
   |nil=>simp[fg]
   |cons n U=>
    have:=a U (λv=>N<|v+1) λv f t g d=>e (v+1) f t ⇑g ⇑d;rw[fg,<-this,<-e 0 s n rfl rfl];rw[dV,dV,show min (B.length+1) (U.length+1)=min B.length U.length+1 by lia,uE,List.all_cons,yn,Bool.and_assoc];congr 2;rw[k8];simp
 exact λ{B U} e=>S B U c e
theorem iP{h:ao}:∀(w:Nat) {P:bE}{f t:ab}{J u:af},ab.bA w f=V->ab.bA w t=V->P.units+w+1<b9->dB h.heap f J->dB h.heap t u->SeqAt.EqAt P h J u (cz f t)
 |w,P,.aS,t,J,u,_,bg,l,j,a=>by
  cases (show J=.none from j);cases t with
  |aS=>cases (show u=.none from a);exact SeqAt.EqAt.same _
  |aF d=>cases (show u=.bool d from a);exact MS d
  |int v=>let⟨@I,rfl⟩:=a;exact Ul v I
  |str i=>let⟨@I,rfl⟩:=a;exact TY i I
  |tup B=>let⟨g,m,V9,@H,rfl,A,C,k,W⟩:=a;exact QI ⟨m,A,C,H,k⟩ ⋯
  |fn g=>cases w<;>cases bg
  |a3 g=>cases w<;>cases bg
  |fd=>cases w<;>cases bg
 |w,P,.aF d,t,J,u,_,bg,l,j,a=>by
  cases (show J=.bool d from j);cases t with
  |aS=>cases (show u=.none from a);exact Pm d
  |aF n=>cases (show u=.bool n from a);exact Ut d n
  |int v=>let⟨@I,rfl⟩:=a;exact PZ d v I
  |str i=>let⟨@I,rfl⟩:=a;exact L5 d i I
  |tup B=>let⟨g,m,V9,@H,rfl,A,C,k,W⟩:=a;exact QT d ⟨m,A,C,H,k⟩ ⋯
  |fn g=>cases w<;>cases bg
  |a3 g=>cases w<;>cases bg
  |fd=>cases w<;>cases bg
 |w,P,.int b,t,J,u,_,bg,l,j,a=>by
  let⟨@e,rfl⟩:=j;cases t with
  |aS=>cases (show u=.none from a);exact RI b e
  |aF n=>cases (show u=.bool n from a);exact PY b e n
  |int v=>let⟨@I,rfl⟩:=a;exact Ng b e v I
  |str i=>let⟨@I,rfl⟩:=a;exact Fh b e i I
  |tup B=>let⟨g,m,V9,@H,rfl,A,C,k,W⟩:=a;exact Ma b e ⟨m,A,C,H,k⟩ ⋯
  |fn g=>cases w<;>cases bg
  |a3 g=>cases w<;>cases bg
  |fd=>cases w<;>cases bg
 |w,P,.str b,t,J,u,_,bg,l,j,a=>by
  let⟨@e,rfl⟩:=j;cases t with
  |aS=>cases (show u=.none from a);exact R7 b e
  |aF n=>cases (show u=.bool n from a);exact M4 b e n
  |int v=>let⟨@I,rfl⟩:=a;exact D1 b e v I
  |str i=>let⟨@I,rfl⟩:=a;exact Pu b e i I
  |tup B=>let⟨g,m,V9,@H,rfl,A,C,k,W⟩:=a;exact Mg b e ⟨m,A,C,H,k⟩ ⋯
  |fn g=>cases w<;>cases bg
  |a3 g=>cases w<;>cases bg
  |fd=>cases w<;>cases bg
 |w+1,P,.tup B,t,J,u,r,bg,l,j,a=>by
  have F:=j;let⟨g,m,V9,@H,rfl,A,C,k,s⟩:=j;have Wu:h.heap.IsTuple g V9:=⟨m,A,C,H,k⟩;cases t with
  |aS=>cases (show u=.none from a);exact JJ Wu ⋯
  |aF n=>cases (show u=.bool n from a);exact Nf n Wu ⋯
  |int v=>let⟨@I,rfl⟩:=a;exact QH v I Wu ⋯
  |str i=>let⟨@I,rfl⟩:=a;exact TC i I Wu ⋯
  |fn g=>cases bg
  |a3 g=>cases bg
  |fd=>cases bg
  |tup U=>
   have G:=a;let⟨d,Wj,o,@L,rfl,M,N,O,x⟩:=a;by_cases c:g=d
   ·subst c;rw[DJ (w+1) r bg F G];exact SeqAt.EqAt.same _
   ·have a_:h.heap.IsTuple d o:=⟨Wj,M,N,L,O⟩;have y:=s.length;have z:=x.length;have Q:V9.toList.length=V9.size:=by simp
    have R:o.toList.length=o.size:=by simp
    rw[Q]at y;rw[R]at z;have p:=Qo (A:=P) c (Ga (e:=λv=>cz (B.getD v .aS)<|U.getD v .aS) Wu a_ ⋯ λv bK S=>by
     let⟨@Wb,D,T⟩:=s.get (v:=v) (u:=V9[v]) (by rw[hq];simp[bK]);let⟨@Wl,E,al⟩:=x.get (v:=v) (u:=o[v]) (by rw[hq];simp[S]);rw[cR,D,cR,E];exact iP w (kF r D) (kF bg E) (by show P.units+1+w+1<b9;lia) T al)
    rw[<-y,<-z,sN (B:=B) (U:=U) (λv f t g d=>by rw[cR,g,cR,d];rfl)]at p;rw[cz];exact p
 |w,P,.fn _,_,_,_,q,_,_,_,_=>by cases w<;>cases q
 |w,P,.a3 _,_,_,_,q,_,_,_,_=>by cases w<;>cases q
 |w,P,.fd,_,_,_,q,_,_,_,_=>by cases w<;>cases q
 |0,P,.tup _,_,_,_,q,_,_,_,_=>by cases q
mutual
theorem xf:∀{w:Nat}{s:ab},ab.key w s=V->ab.bA w s=V
 |w,.int _,_=>by cases w<;>rfl
 |w,.str _,_=>by cases w<;>rfl
 |w+1,.tup B,e=>by rw[ab.key]at e;rw[ab.bA];exact GV e
 |0,.tup _,e=>by cases e
 |w,.aS,e=>by cases w<;>cases e
 |w,.aF _,e=>by cases w<;>cases e
 |w,.fn _,e=>by cases w<;>cases e
 |w,.a3 _,e=>by cases w<;>cases e
 |w,.fd,e=>by cases w<;>cases e
theorem GV:∀{w:Nat}{B:List ab},ab.keys w B=V->ab.cO w B=V
 |w,[],_=>by rw[ab.cO]
 |w,s::B,e=>by rw[ab.keys,cV]at e;rw[ab.cO,xf e.1,GV e.2];rfl
end
mutual
theorem Fx:∀{w:Nat}{f t:ab},ab.key w f=V->ab.key w t=V->cz f t=decide (f=t)
 |w,.int b,t,_,a=>by
  cases t with
  |int v=>rw[cz];by_cases c:b=v<;>simp[c]
  |str i=>simp[cz]
  |tup i=>simp[cz]
  |_=>cases w<;>cases a
 |w,.str b,t,_,a=>by
  cases t with
  |int v=>simp[cz]
  |str i=>rw[cz];by_cases c:b=i<;>simp[c]
  |tup i=>simp[cz]
  |_=>cases w<;>cases a
 |w+1,.tup B,t,d,a=>by
  cases t with
  |int v=>simp[cz]
  |str i=>simp[cz]
  |tup U=>
   rw[ab.key]at d a;rw[cz,E0 d a];simp
  |_=>cases a
 |0,.tup _,_,e,_=>by cases e
 |w,.aS,_,e,_=>by cases w<;>cases e
 |w,.aF _,_,e,_=>by cases w<;>cases e
 |w,.fn _,_,e,_=>by cases w<;>cases e
 |w,.a3 _,_,e,_=>by cases w<;>cases e
 |w,.fd,_,e,_=>by cases w<;>cases e
theorem E0:∀{w:Nat}{f t:List ab},ab.keys w f=V->ab.keys w t=V->fg f t=decide (f=t)
 |w,[],t,_,_=>by cases t<;>simp[fg]
 |w,s::B,[],_,_=>by simp[fg]
 |w,s::B,c::U,a,b=>by
  rw[ab.keys,cV]at a b;rw[fg,Fx a.1 b.1,E0 a.2 b.2];by_cases A:s=c<;>by_cases C:B=U<;>simp[A,C]
end
theorem HF:∀(w:Nat) {P:bE}{VD:af->ao->Prop}{h:ao}{s:ab}{u:af}{D:Bool->ao->Prop},ab.key w s=V->dB h.heap s u->D V h->wpAny (aW VO y) P (eqIsQuiet w u) D VD h
 |w,P,VD,h,.int b,u,D,_,a,e=>by
  let⟨@I,rfl⟩:=a;rw[Jo w rfl];exact ba e
 |w,P,VD,h,.str b,u,D,_,a,e=>by
  let⟨@I,rfl⟩:=a;rw[Jo w rfl];exact ba e
 |w+1,P,VD,h,.tup B,u,D,q,a,e=>by
  let⟨g,m,V9,@H,rfl,i,l,hd,VF⟩:=a;have j:h.TypeIs (.ref g) "tuple" := ⟨m,i,l⟩;unfold eqIsQuiet;refine ax (yb j F.slot_tuple_eq.lookup ?_);show wpAny _ _ (isInstance (.ref g) (.type "tuple") >>= _) _ _ h;refine ax (tV j isSubtype_tuple_tuple ?_);simp only[y0,gk,fy];refine ax (fX i hd ?_);refine ax ?_;show wpAny _ _ (forIn V9 _ _) _ _ h;rw[<-Ie];rw[ab.key]at q;refine te _ (λdq r VE=>r.1=Y/\VE=h/\∃left,ab.keys w left=V/\eb h.heap left dq) _ ?_ ?_ _ _ ⟨rfl,rfl,B,q,VF⟩
  ·rintro u dq r VE ⟨d,rfl,left,f,k⟩;cases left with
   |nil=>cases (show u::dq=[] from k)
   |cons s left=>
    let⟨o,@Wz,c,A,n⟩:=k;cases c;rw[ab.keys,cV]at f;refine ax (HF w f.1 A ?_);simp only[y0,gk,fy];exact ba ⟨rfl,rfl,left,f.2,n⟩
  ·rintro⟨p,t⟩ VE ⟨d,rfl,W⟩;simp only at d;subst d;exact ba e
 |_,_,_,_,.aS,_,_,q,_,_=>by cases ‹Nat›<;>cases q
 |_,_,_,_,.aF _,_,_,q,_,_=>by cases ‹Nat›<;>cases q
 |_,_,_,_,.fn _,_,_,q,_,_=>by cases ‹Nat›<;>cases q
 |_,_,_,_,.a3 _,_,_,q,_,_=>by cases ‹Nat›<;>cases q
 |_,_,_,_,.fd,_,_,q,_,_=>by cases ‹Nat›<;>cases q
 |0,_,_,_,.tup _,_,_,q,_,_=>by cases q
def hX(VO:bF)(y:bj):HeapKind VO y (List ab) where
 is:=λe B g=>ab.keys 7 B=V/\dB e (.tup B) (.ref g)
 hash:=λB=>m2 y (.tup B)
 draws:=λB=>tX (.tup B)
 room:=λP=>P.units+10<b9
 inj:=λa b=>by
  have:=CO 8 (f:=.tup _) (t:=.tup _) a.1 b.1 a.2 b.2;injection this
 keeps:=λ{e VB q g s m U WB} f l hd VN=>⟨f.1,f.2.keep λd J V9 w i o k=>by
  have n:d≠s:=by
   rintro rfl;rw[l]at i;cases i;rw[hd]at k;cases k
  exact (VN.2 d n).trans i⟩
 pyHash:=λj c e=>CW 8 (s:=.tup _) c.1 (show _<_ by have:_+10<b9:=j;lia) c.2 e
 eqBool:=λ{P VD h f t g d D} j a b e=>by
  have p:=iP (h:=h) 8 (P:=P) (f:=.tup f) (t:=.tup t) (xf (w:=8) (s:=.tup f) a.1) (xf (w:=8) (s:=.tup t) b.1) (show _<_ by have:P.units+10<b9:=j;lia) a.2 b.2;rw[Fx (w:=8) (f:=.tup f) (t:=.tup t) a.1 b.1]at p;exact p _ _ VD D ⇑e
 quiet:=λc e=>HF 8 (s:=.tup _) c.1 c.2 e
end
abbrev eR:=Sum Int aD
def qs:eR->af->Bool
 |.inl q,u=>af.isInt q u
 |.inr f,u=>af.isStrOf f u
def TQ(y:bj):eR->Int
 |.inl q=>hashInt q
 |.inr f=>hashStr y f
theorem mq:∀{q:eR}{u:af},qs q u=V->(∃b I,q=Sum.inl b/\u=af.int b I)\/(∃f I,q=Sum.inr f/\u=af.str f I)
 |.inl b,u,e=>by
  let⟨@I,c⟩:=af.isInt_shape (k:=b) (v:=u) e;exact .inl ⟨b,I,rfl,c⟩
 |.inr f,u,e=>by
  let⟨@I,c⟩:=af.isStrOf_shape (x:=f) (v:=u) e;exact .inr ⟨f,I,rfl,c⟩
def MQ(b:Int)(I:h_):qs (.inl b) (.int b I)=V:=by simp[qs,af.isInt]
def LU(f:aD)(I:h_):qs (.inr f) (.str f I)=V:=by simp[qs,af.isStrOf]
def T8(g d:Int):decide ((Sum.inl g:eR)=Sum.inl d)=(g==d):=by
 by_cases c:g=d
 ·subst c;simp
 ·have e:¬ (Sum.inl g:eR)=Sum.inl d:=λp=>c (Sum.inl.inj p);rw[eB e];exact (Ap.mpr c).symm
def MB(g d:aD):decide ((Sum.inr g:eR)=Sum.inr d)=decide (g=d):=by
 by_cases c:g=d
 ·subst c;simp
 ·have e:¬ (Sum.inr g:eR)=Sum.inr d:=λp=>c (Sum.inr.inj p);rw[eB e,eB c]
def PX(g:Int)(d:aD):decide ((Sum.inl g:eR)=Sum.inr d)=aq:=eB (λp=>nomatch p)
def RU(g:aD)(d:Int):decide ((Sum.inr g:eR)=Sum.inl d)=aq:=eB (λp=>nomatch p)
def nt(VO:bF)(y:bj):PySem.KeyKind VO y eR where
 is:=qs
 hash:=TQ y
 inj:=λu g d j i=>by
  rcases mq j with ⟨b,I,rfl,rfl⟩|⟨f,I,rfl,rfl⟩
  ·rcases mq i with ⟨v,J,rfl,c⟩|⟨t,J,rfl,c⟩
   ·injection c with a _;rw[a]
   ·exact nomatch c
  ·rcases mq i with ⟨v,J,rfl,c⟩|⟨t,J,rfl,c⟩
   ·exact nomatch c
   ·injection c with a _;rw[a]
 byValue:=λq u e=>by
  rcases mq e with ⟨b,I,rfl,rfl⟩|⟨f,I,rfl,rfl⟩<;>rfl
 pyHash:=λh e=>by
  rcases mq h with ⟨b,I,rfl,rfl⟩|⟨f,I,rfl,rfl⟩
  ·exact IF e
  ·exact D0 e
 eqBool:=λk h e=>by
  rcases mq k with ⟨b,I,rfl,rfl⟩|⟨f,I,rfl,rfl⟩
  ·rcases mq h with ⟨v,J,rfl,rfl⟩|⟨t,J,rfl,rfl⟩
   ·rw[T8]at e;exact wpAny_eqBool_int e
   ·rw[PX]at e;exact Fh b I t J _ _ _ _ e
  ·rcases mq h with ⟨v,J,rfl,rfl⟩|⟨t,J,rfl,rfl⟩
   ·rw[RU]at e;exact D1 f I v J _ _ _ _ e
   ·rw[MB]at e;exact wpAny_eqBool_str e
 «strs»:=λq f I u e=>by
  rcases mq e with ⟨b,J,rfl,c⟩|⟨t,J,rfl,c⟩
  ·exact nomatch c
  ·injection c with a _;subst a;cases u<;>rfl
def Te(VO:bF)(y:bj)(b:Int)(I:h_):(nt VO y).is (.inl b) (.int b I)=V:=MQ b I
def Mi(VO:bF)(y:bj)(f:aD)(I:h_):(nt VO y).is (.inr f) (.str f I)=V:=LU f I
inductive ar where
 | aS|aF (d:Bool)|int (b:Int)|str (f:aD)|rm (d:Array UInt8)|yD (d:UInt64)|ref (g:ae)|ty (w:String)
 deriving DecidableEq
variable{T z:List ar}{t u:ar}
def cq:ar->af->Prop
 |.aS,J=>J=af.none
 |.aF d,J=>J=af.bool d
 |.int b,J=>∃I,J=af.int b I
 |.str f,J=>∃I,J=af.str f I
 |.rm d,J=>∃I,J=af.bytes d I
 |.yD d,J=>∃I,J=af.float d I
 |.ref g,J=>J=af.ref g
 |.ty w,J=>J=af.type w
abbrev bY:List ar->List af->Prop:=eA cq
def bY.length(r:bY z VZ):z.length=VZ.length:=eA.length r
theorem bY.get:∀{z:List ar}{VZ:List af}{b:Nat}{f:ar},bY z VZ->z[b]?=Z f->∃J,VZ[b]?=Z J/\cq f J
 |_,_,_,_,.nil,c=>by simp at c
 |_,_,0,_,.cons r _,c=>by simp at c;subst c;exact⟨_,rfl,r⟩
 |_,_,b+1,f,.cons _ I,c=>by
  let⟨@J,A,C⟩:=bY.get (b:=b) (f:=f) I ⇑c;exact⟨J,by simpa using A,C⟩
theorem bY.set{f:ar}{J:af}(r:cq f J):∀{z:List ar}{VZ:List af} (b:Nat),bY z VZ->bY (z.set b f) (VZ.set b J)
 |_,_,_,.nil=>.nil
 |_,_,0,.cons _ I=>.cons r I
 |_,_,b+1,.cons p I=>.cons p (bY.set r b I)
theorem bY.append:∀{z VR:List ar}{VZ a:List af},bY z VZ->bY VR a->bY (z++VR) (VZ++a)
 |_,_,_,_,.nil,h=>h
 |_,_,_,_,.cons r I,h=>.cons r (bY.append I h)
theorem bY.take:∀{z:List ar}{VZ:List af} (w:Nat),bY z VZ->bY (z.take w) (VZ.take w)
 |_,_,0,_=>.nil
 |_,_,_+1,.nil=>.nil
 |_,_,w+1,.cons r I=>.cons r (bY.take w I)
theorem bY.drop:∀{z:List ar}{VZ:List af} (w:Nat),bY z VZ->bY (z.drop w) (VZ.drop w)
 |_,_,0,r=>r
 |_,_,_+1,.nil=>.nil
 |_,_,w+1,.cons _ I=>bY.drop w I
def k4:Option ar->Option af->Prop
 |some u,Z J=>cq u J
 |none,Y=>True
 |_,_=>False
def gb{V6:Type}:List (V6×ar)->List (V6×af)->Prop:=(eA λ(o:V6×ar) (p:V6×af)=>o.1=p.1/\cq o.2 p.2)
def cT:eR->ar
 |.inl b=>.int b
 |.inr f=>.str f
inductive gm where
 | lst (z:List ar)
 | tup (z:List ar)
 | dR (VS:List (eR×ar))|aR (VS:List (List ab×ar))
 | set (VU:Int->Bool) (w:Nat)
 | ins (aG k:ae) (aE:List (aD×ar))
 | own (f:ae)
 | vE (aE:List (aD×ar))
 | met (N f:ae)
 | lM (E VF:Int)
 | dw (m:bc) (J:gm)
 | nA (VQ:Array af)
 | ext (Vl:aY->Prop)
variable{m:gm}
abbrev aA:=ae->Option gm
variable{Q j:aA}
def upd(j:aA)(g:ae)(m:gm):aA:=(λd=>if d=g then Z m else j d)
def eW:upd j g m g=Z m:=by unfold upd;rw[aJ rfl]
def cZ(e:d≠g):upd j g m d=j d:=by unfold upd;rw[aP e]
def BQ{J:gm}(e:j g=Z m)(VB:j d=Z J)(s:m≠J):g≠d:=by
 intro c;subst c;rw[e]at VB;exact s (Option.some.inj VB)
def hT(e:j g=Z m)(VB:j d=Y):g≠d:=by
 intro c;subst c;rw[e]at VB;cases VB
mutual
def cM(j:aA):ab->ar->Prop
 |.aS,u=>u=.aS
 |.aF d,u=>u=.aF d
 |.int b,u=>u=.int b
 |.str f,u=>u=.str f
 |.fn g,u=>u=.ref g
 |.a3 B,u=>∃g z m,u=.ref g/\j g=Z (.dw m<|.lst z)/\bN j B z
 |.fd,u=>∃g m,u=.ref g/\j g=Z (.dw m<|.aR [])
 |.tup B,u=>∃g z,u=.ref g/\j g=Z (.tup z)/\bN j B z
def bN(j:aA):List ab->List ar->Prop
 |[],T=>T=[]
 |s::B,T=>∃u r,T=u::r/\cM j s u/\bN j B r
end
def rL(j Q:aA):Prop:=(∀g z,j g=Z (.tup z)->Q g=Z (.tup z))
structure p3(j Q:aA):Prop where
 t:rL j Q
 z:∀g m J,j g=Z (.dw m J)->Q g=Z (.dw m J)
noncomputable instance {j Q:aA}:CoeFun (p3 j Q) (λ_=>∀g z,j g=Z (.tup z)->Q g=Z (.tup z)):=⟨λI=>I.t⟩
mutual
theorem cM.mono{j Q:aA}(q:p3 j Q):∀{s:ab}{u:ar},cM j s u->cM Q s u
 |.aS,_,c=>c
 |.aF _,_,c=>c
 |.int _,_,c=>c
 |.str _,_,c=>c
 |.fn _,_,c=>c
 |.tup B,_,c=>by
  let⟨g,@z,rfl,A,C⟩:=c;exact⟨g,z,rfl,q.t g z A,bN.mono q C⟩
 |.a3 B,_,c=>by
  let⟨g,z,@m,rfl,A,C⟩:=c;exact⟨g,z,m,rfl,q.z g _ _ A,bN.mono q C⟩
 |.fd,_,c=>by
  let⟨g,@m,rfl,A⟩:=c;exact⟨g,m,rfl,q.z g _ _ A⟩
theorem bN.mono{j Q:aA}(q:p3 j Q):∀{B:List ab}{T:List ar},bN j B T->bN Q B T
 |[],_,c=>c
 |s::B,_,c=>by
  let⟨u,@r,rfl,A,C⟩:=c;exact⟨u,r,rfl,cM.mono q A,bN.mono q C⟩
end
def h2(j:aA)(q:List ab)(d:ae):Prop:=(ab.keys 7 q=V/\cM j (.tup q) (.ref d))
mutual
theorem cM.so{j Q:aA}(q:rL j Q):∀{s:ab}{w:Nat}{u:ar},ab.key w s=V->cM j s u->cM Q s u
 |.aS,_,_,_,c=>c
 |.aF _,_,_,_,c=>c
 |.int _,_,_,_,c=>c
 |.str _,_,_,_,c=>c
 |.fn _,_,_,_,c=>c
 |.tup B,w+1,_,p,c=>by
  let⟨g,@z,rfl,A,C⟩:=c;exact⟨g,z,rfl,q g z A,bN.so q p C⟩
 |.tup B,0,_,p,c=>nomatch p
 |.a3 B,0,_,p,c=>nomatch p
 |.a3 B,w+1,_,p,c=>nomatch p
 |.fd,0,_,p,c=>nomatch p
 |.fd,w+1,_,p,c=>nomatch p
theorem bN.so{j Q:aA}(q:rL j Q):∀{B:List ab}{w:Nat}{T:List ar},ab.keys w B=V->bN j B T->bN Q B T
 |[],_,_,_,c=>c
 |s::B,w,_,p,c=>by
  let⟨u,@r,rfl,A,C⟩:=c;rw[ab.keys,cV]at p;exact⟨u,r,rfl,cM.so q p.1 A,bN.so q p.2 C⟩
end
def h2.mono{q:List ab}(e:h2 j q d)(I:rL j Q):h2 Q q d:=by
 let@⟨WE,⟨g,@z,c,A,C⟩⟩:=e;exact⟨WE,g,z,c,I g z A,C.so I WE⟩
def n3(e:aY)(g:ae)(V9:Array af):Prop:=(∃m,e.get? g=Z m/\(m.cls,m.dict)=(.type "tuple",Y)/\∃w,m.data=.seq V9 w)
def n3.tup{V9:Array af}(f:n3 e g V9):o9 e g V9:=let ⟨m,c,n,r⟩:=f;⟨m,c,(Prod.mk.inj n).1,r⟩
def n3.new(e:aY)(V9:Array af):n3 (e.push {cls:=.type "tuple",data:=.seq V9}) e.objs.size V9:=⟨_,dr _ rfl,rfl,_,rfl⟩
section
variable(VJ:bF)(y:bj)
def fx(j:aA)(e:aY)(g:ae):gm->Prop
 |.lst z=>z.length<=sizeLine/\∃(VP:List af) (w:Nat),bY z VP/\e.get? g=Z {cls:=.type "list",data:=.seq VP.toArray w}
 |.tup z=>z.length<=sizeLine/\∃VP:List af,bY z VP/\n3 e g VP.toArray
 |.dR VS=>VS.length<=sizeLine/\(g==jf)=aq/\∃T,gb VS T/\e.DictOf (nt VJ y) g T
 |.aR VS=>VS.length<=sizeLine/\(g==jf)=aq/\∃z:List (List ab×ae×af),
   eA (λ(o:List ab×ar) (p:List ab×ae×af)=>o.1=p.1/\h2 j o.1 p.2.1/\cq o.2 p.2.2) VS z/\
   ∃m U WB,e.get? g=Z m/\m.ExactDict/\m.data=.dict U WB/\U.toList=z.map (entryOfKey<|hX VJ y)/\(z.map (·.1)).Nodup
 |.set VU w=>e.SetOf (intKind VJ y) g VU w
 |.ins aG k aE=>j k=Z (.own g)/\aE.length<=1000/\k≠g/\e.get? g=Z (PySem.W.instObj aG k)/\
   ∃l,e.Ns1 k l/\(∀N,k4 (aE.lookup N)<|l N)/\PySem.Within l (aE.map (·.1))
 |.own _=>∃m,e.get? g=Z m
 |.vE aE=>∃l,e.Ns1 g l/\∀N,k4 (aE.lookup N) (l N)
 |.lM E VF=>∃I J u,e.get? g=Z {cls:=.type "range",data:=.fields #[.int E I,.int VF J,.int 1 u]}
 |.dw m J=>e.get? g=Z m/\fx j e g J
 |.nA VQ=>e.get? g=Z {cls:=.none,data:=.fields VQ}
 |.met N f=>e.get? g=Z (Φb (.ref N)<|.ref f)
 |.ext a=>a e/\(∃m,e.get? g=Z m)/\∀A C:aY,a A->(∀m,A.get? g=Z m->C.get? g=Z m)->a C
def dG(j:aA)(e:aY):Prop:=(∀g m,j g=Z m->fx VJ y j e g m)
end
section
variable{VJ:bF}{y:bj}{j Q:aA}{e VB:aY}{g:ae}{m:gm}
def fx.lt(f:fx VJ y j e g m):g<e.objs.size:=by
 cases m with
 |lst z=>let@⟨_,⟨_,@_,_,c⟩⟩:=f;exact cg c
 |tup z=>let@⟨_,⟨@_,_,o⟩⟩:=f;exact o.tup.lt
 |dR VS=>let@⟨_,_,⟨@_,_,⟨m,_,@_,c,_⟩⟩⟩:=f;exact cg c
 |aR VS=>let@⟨_,_,⟨@_,_,⟨m,_,@_,c,_⟩⟩⟩:=f;exact cg c
 |set VU w=>let⟨m,W,W,@W,c,W⟩:=f;exact cg c
 |ins aG k aE=>let@⟨_,_,_,c,_⟩:=f;exact cg c
 |own t=>let⟨@W,c⟩:=f;exact cg c
 |vE aE=>let⟨@W,⟨W,W,@W,c,W⟩,W⟩:=f;exact cg c
 |lM E VF=>let⟨W,W,@W,c⟩:=f;exact cg c
 |dw WA J=>let@⟨c,_⟩:=f;exact cg c
 |nA VQ=>exact cg (show e.get? g=Z _ from f)
 |met N t=>exact cg (show e.get? g=Z _ from f)
 |ext a=>let@⟨_,⟨@_,c⟩,_⟩:=f;exact cg c
theorem eA.vc{V7 WL:Type}{O S:V7->WL->Prop}:∀{a:List V7}{b:List WL},eA O a b->(∀g d,O g d->S g d)->eA S a b
 |_,_,.nil,_=>.nil
 |_,_,.cons r I,N=>.cons (N _ _ r) (eA.vc I N)
def fx.fF(f:fx VJ y j e g m)(q:∀d J,(d=g\/j d=Z (.own g))->e.get? d=Z J->VB.get? d=Z J)(a:∀d,j d=Z (.own g)->Q d=Z (.own g))(b:∀d z,j d=Z (.tup z)->Q d=Z (.tup z)):fx VJ y Q VB g m:=by
 induction m with
 |lst z=>let@⟨i,⟨VP,@w,r,c⟩⟩:=f;exact⟨i,VP,w,r,q _ _ (.inl rfl) c⟩
 |tup z=>let@⟨i,⟨@VP,r,⟨@WA,c,n⟩⟩⟩:=f;exact⟨i,VP,r,WA,q _ _ (.inl rfl) c,n⟩
 |dR VS=>let@⟨i,t,⟨@T,r,⟨WA,U,@WB,c,n⟩⟩⟩:=f;exact⟨i,t,T,r,WA,U,WB,q _ _ (.inl rfl) c,n⟩
 |aR VS=>
  let@⟨i,t,⟨@z,r,⟨WA,U,@WB,c,n⟩⟩⟩:=f;exact⟨i,t,z,eA.vc r λo p i=>⟨i.1,i.2.1.mono b,i.2.2⟩,WA,U,WB,q _ _ (.inl rfl) c,n⟩
 |set VU w=>let⟨WA,U,WB,@I,c,n⟩:=f;exact⟨WA,U,WB,I,q _ _ (.inl rfl) c,n⟩
 |ins aG k aE=>
  let@⟨s,i,ne,c,⟨@l,⟨A,U,@WB,h,n⟩,r⟩⟩:=f;exact⟨a _ s,i,ne,q _ _ (.inl rfl) c,l,⟨A,U,WB,q _ _ (.inr s) h,n⟩,r⟩
 |own t=>let⟨@WA,c⟩:=f;exact⟨WA,q _ _ (.inl rfl) c⟩
 |vE aE=>let⟨@l,⟨A,U,@WB,c,n⟩,r⟩:=f;exact⟨l,⟨A,U,WB,q _ _ (.inl rfl) c,n⟩,r⟩
 |lM E VF=>let⟨I,J,@u,c⟩:=f;exact⟨I,J,u,q _ _ (.inl rfl) c⟩
 |dw WA J v=>let@⟨c,p⟩:=f;exact⟨q _ _ (.inl rfl) c,v p⟩
 |nA VQ=>
  have c:e.get? g=Z {cls:=.none,data:=.fields VQ}:=f;show VB.get? g=Z {cls:=.none,data:=.fields VQ};exact q g _ (.inl rfl) c
 |met N t=>
  have c:e.get? g=Z (Φb (.ref N)<|.ref t):=f;show VB.get? g=Z (Φb (.ref N)<|.ref t);exact q g _ (.inl rfl) c
 |ext x=>let@⟨o,⟨@m,c⟩,X⟩:=f;exact⟨X _ _ o λm p=>q _ _ (.inl rfl) p,⟨m,q _ _ (.inl rfl) c⟩,X⟩
theorem dG.lt(f:dG VJ y j e)(c:j g=Z m):g<e.objs.size:=(f g m c).lt
def dG.fresh(f:dG VJ y j e)(c:e.objs.size<=g):j g=Y:=by
 cases p:j g with
 |none=>rfl
 |some J=>exact absurd (fk (f.lt p) c) (iU _)
def dG.kept(f:dG VJ y j e)(q:∀d J,e.get? d=Z J->VB.get? d=Z J):dG VJ y j VB:=λg m c=>
 (f g m c).fF (λd J W p=>q d J p) (λ_ p=>p) λ_ W p=>p
def dG.laid(f:dG VJ y j e)(q:∀d J,e.get? d=Z J->VB.get? d=Z J)(h:e.objs.size<=g)(new:fx VJ y (upd j g m) VB g m):dG VJ y (upd j g m) VB:=λd J c=>by
 have a:=f.fresh h;by_cases b:d=g
 ·subst b;rw[eW]at c;cases c;exact new
 ·rw[cZ b]at c;exact (f d J c).fF (λn u W p=>q n u p) (λn p=>by rw[cZ (hT p a)];exact p) λn z p=>by rw[cZ (hT p a)];exact p
end
def lL(j:aA)(g:ae)(J:gm):Prop:=(j g=Z J\/∃m,j g=Z (.dw m J))
def lL.ok{J:gm}(r:lL j g J)(f:dG VJ y j e):fx VJ y j e g J:=by
 rcases r with r|⟨m,r⟩
 ·exact f g J r
 ·let@⟨_,p⟩:=f g _ r;exact p
def sC:Option gm->Prop
 |some (.lst _)=>True
 |some (.dR _)=>True
 |some (.aR _)=>True
 |some (.set _ _)=>True
 |some (.ins _ _ _)=>True
 |some (.ext _)=>True
 |_=>False
section
variable{VJ:bF}{y:bj}{j:aA}{e VB:aY}{f c:ae}{Wj:gm}
def dG.write(ok:dG VJ y j e)(a:sC (j f))(k:c=f\/j c=Z (.own f))(q:∀d J,d≠c->e.get? d=Z J->VB.get? d=Z J)(o:∃J,VB.get? c=Z J)(new:fx VJ y (upd j f Wj) VB f Wj):dG VJ y (upd j f Wj) VB:=λd J p=>by
 have l:∀n t,j n=Z (.own t)->n≠f:=λn t r i=>by subst i;rw[r]at a;exact a
 have s:∀n z,j n=Z (.tup z)->n≠f:=λn z r i=>by subst i;rw[r]at a;exact a
 by_cases b:d=f
 ·subst b;rw[eW]at p;cases p;exact new
 ·rw[cZ b]at p;by_cases g:d=c
  ·have m:j d=Z (.own f):=by
    rcases k with i|i
    ·exact absurd (g.trans i) b
    ·rw[g];exact i
   rw[p]at m;cases m;let⟨@u,v⟩:=o;exact⟨u,by rw[g];exact v⟩
  ·refine (ok d J p).fF (λn u h r=>q n u ?_ r) (λn r=>by rw[cZ (l n d r)];exact r) λn z r=>by rw[cZ (s n z r)];exact r
   rcases h with rfl|h
   ·exact g
   ·rintro rfl;rcases k with i|i
    ·exact l n d h i
    ·rw[h]at i;cases i;exact b rfl
end
structure dX(aE Ws:List ae)(j Q:aA)(e VB:aY):Prop where
 keep:∀d m,e.get? d=Z m->j d=Y->d∉aE->d∉Ws->VB.get? d=Z m
 slot:∀d m,e.get? d=Z m->j d=Y->d∈aE->d∉Ws->∃a6,VB.get? d=Z {m with slots:=a6}
 free:∀d m,e.get? d=Z m->j d=Y->d∉Ws->Q d=Y
 there:∀d m,e.get? d=Z m->d∉Ws->∃Wj,VB.get? d=Z Wj
 iN:∀d z,j d=Z (.tup z)->Q d=Z (.tup z)
 iA:∀d m J,j d=Z (.dw m J)->Q d=Z (.dw m J)
 jc:∀d VQ,j d=Z (.nA VQ)->∃more,Q d=Z (.nA<|VQ++more)
section
variable{aE l Ws a:List ae}{j VL V0:aA}{e A C VB:aY}{g f c:ae}{m:gm}
def dX.any(J:dX aE Ws j VL e A){d:ae}{WA:bc}(p:e.get? d=Z WA)(w:j d=Y)(a:d∉Ws):∃a6,A.get? d=Z {WA with slots:=a6}:=by
 by_cases b:d∈aE
 ·exact J.slot d WA p w b a
 ·exact⟨WA.slots,J.keep d WA p w b a⟩
def dX.kept(q:∀d J,e.get? d=Z J->VB.get? d=Z J):dX aE Ws j j e VB:=
 ⟨λd WA p W W W=>q d WA p,λd WA p W W W=>⟨WA.slots,q d WA p⟩,λ_ W W w W=>w,λd WA p W=>⟨WA,q d WA p⟩,λ_ W p=>p,λ_ W W p=>p,λ_ VQ p=>⟨#[],by rw[p];simp⟩⟩
def dX.refl:dX aE Ws j j e e:=dX.kept λ_ W p=>p
theorem dX.laid(q:∀d J,e.get? d=Z J->VB.get? d=Z J)(b:e.objs.size<=g)(a:j g=Y):dX aE Ws j (upd j g m) e VB where
 keep:=λd J p W W W=>q d J p
 slot:=λd J p W W W=>⟨J.slots,q d J p⟩
 free:=λd J p w W=>by rw[cZ (ef<|fk (cg p) b)];exact w
 there:=λd J p W=>⟨J,q d J p⟩
 iN:=λd z p=>by rw[cZ (hT p a)];exact p
 iA:=λd J z p=>by rw[cZ (hT p a)];exact p
 jc:=λd VQ p=>⟨#[],by rw[cZ (hT p a),p];simp⟩
def dX.write(a:sC (j f))(l:c=f\/j c=Z (.own f))(q:∀d J,d≠c->e.get? d=Z J->VB.get? d=Z J)(n:∃J,VB.get? c=Z J):dX aE Ws j (upd j f m) e VB:=by
 have g:∀d,j d=Y->d≠f:=λd w i=>by subst i;rw[w]at a;exact a
 have h:∀d,j d=Y->d≠c:=λd w i=>by
  subst i;rcases l with r|r
  ·exact g d w r
  ·rw[w]at r;cases r
 have b:∀d J,j d=Z J->¬ sC (Z J)->d≠f:=λd J p B i=>by subst i;rw[p]at a;exact B a
 refine⟨λd J p w W W=>q d J (h d w) p,λd J p w W W=>⟨J.slots,q d J (h d w) p⟩,λd J p w W=>by rw[cZ (g d w)];exact w,λd J p W=>?_,
  λd z p=>by rw[cZ (b d _ p λi=>i)];exact p,λd J z p=>by rw[cZ (b d _ p λi=>i)];exact p,λd VQ p=>⟨#[],by rw[cZ (b d _ p λi=>i),p];simp⟩⟩;by_cases k:d=c
 ·subst k;exact n
 ·exact⟨J,q d J k p⟩
def dX.mono(J:dX aE Ws j VL e A)(VN:∀d∈aE,d∈l)(c:∀d∈Ws,d∈a):dX l a j VL e A:=
 ⟨λd WA p w f b=>J.keep d WA p w (λi=>f<|VN d i) λi=>b<|c d i,λ_ W p w W b=>J.any p w λi=>b<|c _ i,λd WA p w b=>J.free d WA p w λi=>b<|c d i,λd WA p b=>J.there d WA p λi=>b<|c d i,J.iN,J.iA,J.jc⟩
end
def wV(e:aY)(j:aA):List ae:=((range e.objs.size).filter λg=>(j g).isSome)
def l1(e:aY)(j:aA):aY:=(Γ e (wV e j))
def Us(e:aY)(j:aA):(l1 e j).objs.size=e.objs.size:=PySem.W.hideAll_size _ _
def MV{m:bc}(c:e.get? d=Z m)(w:j d=Y):(l1 e j).get? d=Z m:=
 sL _ c λa=>by
  have p:(j d).isSome=V:=(zB.mp a).2;rw[w]at p;simp at p
def J0{m:bc}(c:(l1 e j).get? d=Z m):e.get? d=Z m/\j d=Y:=by
 have a:e.get? d=Z m:=vl (wV e j) c;refine⟨a,?_⟩;cases p:j d with
 |none=>rfl
 |some f=>
  have b:d∈wV e j:=zB.mpr ⟨i8.mpr<|cg a,by simp[p]⟩;have i:(l1 e j).get? d=Y:=qy (wV e j) b;rw[i]at c;cases c
def L8(L e:aY)(WI:ae):List (ae×bc):=((range e.objs.size).filterMap λg=>if g=WI\/(L.get? g).isSome=V then Y else (e.get? g).map λm=>(g,m))
def dq(L e:aY)(WI s:ae):List (ae×bc):=((L8 L e WI).filter λo=>decide (o.1≠s))
structure Mod(R:Φ)(aB:aD->Option af)(VM:aY):Prop where
 qE:R.In VM
 glob:VM.Ns d2 aB
 blt:∃CS,VM.Ns wY CS/\∀f:aD,f ≠ "__name__" -> CS f=fR f
 nolimit:VM.NoLimit
structure aK where
 prog:bF
 w:bj
 K:Φ
 aB:aD->Option af
 base:aY
 A:bE
 N:List aD
 eS:ao
 pY:aA
 env:eg
 outer:List eg
 stack:List eg
 ex:List ae
 fn:aD->Bool
 calm:Bool
 hk:List (ae×bc)
 cQ:af->ao->Prop
variable{a:aK}
def dT(M:List eg):List ae:=(M.filterMap (·.frame))
abbrev aK.aE(a:aK):List ae:=dT a.outer
def ve(l:hp)(f:aD):Prop:=(l.names.lookup f=Z .local\/l.names.lookup f=Z .cell\/l.names.lookup f=Z .free)
def i_(l:hp)(f:aD):Prop:=(l.names.lookup f=Z .local\/l.names.lookup f=Z .cell)
def Qk(VC:eg)(e:aY)(H:aD->Option af)(f:aD)(J:af):Prop:=(
 (VC.kindOf f=Z .local/\H f=Z J)\/((VC.kindOf f=Z .cell\/VC.kindOf f=Z .free)/\∃n,VC.cells.lookup f=Z n/\e.IsCell n (Z J)))
structure aK.Ok(a:aK):Prop where
 mod:Mod a.K a.aB a.base
 kind:a.env.scope.kind=.function
 glob:a.env.globals=d2
 blt:a.env.builtins=wY
 above:a.eS.heap.objs.size<=a.env.locals
 inj:∀f t n,a.env.cells.lookup f=Z n->a.env.cells.lookup t=Z n->f=t
 has:∀f,(a.env.kindOf f=Z .cell\/a.env.kindOf f=Z .free)->∃n,a.env.cells.lookup f=Z n
 kY:∀f n,a.fn f=V->a.env.cells.lookup f=Z n->a.eS.heap.objs.size<=n
 hd:a.calm=V->a.A.handled=Y
 frames:a.A.frames=Z a.stack
 mP:a.stack=a.outer\/(a.stack=a.env::a.outer/\a.env.frame=Z a.env.locals)
 pj:∀d∈a.ex,d≠a.env.locals/\∀f n,a.env.cells.lookup f=Z n->n≠d
 bs:∀d m,a.base.get? d=Z m->a.eS.heap.get? d=Z m/\a.pY d=Y
 jz:a.base.objs.size<=a.eS.heap.objs.size
 lU:∀d m,a.base.get? d=Z m->d∉a.ex
 lN:∀d∈a.ex,d∉a.aE
 gJ:a.eS.heap.FunFrames a.base a.outer
 kk:∀d∈a.aE,a.pY d=Y
structure aH(a:aK)(G:List (ae×bc))(x:List (Option ar))(j:aA)(h:ao):Prop where
 ok:a.Ok
 os:h.os=a.eS.os
 bare:ll h.gens
 base:dX a.aE a.ex a.pY j a.eS.heap h.heap
 loc:∃H,h.heap.Ns a.env.locals H/\∀(b:Nat) (f:aD) (u:ar),a.N[b]?=Z f->x[b]?=Z (Z u)->ve a.env.scope f->∃J,cq u J/\Qk a.env h.heap H f J
 cell:∀f n,a.env.cells.lookup f=Z n->∃u,h.heap.IsCell n u
 free:j a.env.locals=Y
 gW:∀f n,a.env.cells.lookup f=Z n->j n=Y
 pin:∀o∈a.hk++G,h.heap.get? o.1=Z o.2/\j o.1=Y/\o.1≠a.env.locals/\o.1∉a.aE/\∀u,o.2.data≠.cell u
 aX:dG a.prog a.w j h.heap
 len:x.length=a.N.length
section
variable{a:aK}{G:List (ae×bc)}{x:List (Option ar)}{j Q:aA}{h:ao}{VB:aY}
def aK.Ok.Kd(ok:a.Ok){d:ae}{m:bc}(c:a.base.get? d=Z m):d∉a.aE:=λb=>by
 have:=(ok.gJ.mem b).1;rw[c]at this;cases this
def aH.bs(l:aH a G x j h):∀d m,a.base.get? d=Z m->h.heap.get? d=Z m/\j d=Y:=λd m c=>
 ⟨l.base.keep d m (l.ok.bs d m c).1 (l.ok.bs d m c).2 (l.ok.Kd c) (l.ok.lU d m c),l.base.free d m (l.ok.bs d m c).1 (l.ok.bs d m c).2 (l.ok.lU d m c)⟩
def aH.dO(l:aH a G x j h):∀d m,a.base.get? d=Z m->h.heap.get? d=Z m:=λd m c=>(l.bs d m c).1
def aH.mod(l:aH a G x j h):Mod a.K a.aB a.base:=l.ok.mod
def aH.kp(l:aH a G x j h):a.K.In h.heap:=l.ok.mod.qE.keeps l.dO
def aH.lt(l:aH a G x j h):a.env.locals<h.heap.objs.size:=let ⟨_,b,_⟩:=l.loc;b.lt
def aH.je(l:aH a G x j h):a.eS.heap.objs.size<=h.heap.objs.size:=fv l.ok.above (tE l.lt)
def aH.Uh(l:aH a G x j h){g:ae}(e:h.heap.objs.size<=g):g∉a.aE:=λb=>by
 let@⟨_,⟨@m,c,_⟩⟩:=l.ok.gJ.mem b;exact absurd (fk (cg c)<|fv l.je e) (iU _)
def aH.oY(l:aH a G x j h):∀f n,a.env.cells.lookup f=Z n->n≠a.env.locals:=λf n c i=>by
 let⟨u,@m,b,hd⟩:=l.cell f n c;let⟨@H,⟨Wj,U,@WB,d,e,W⟩,W⟩:=l.loc;rw[i,d]at b;cases b;rw[e]at hd;cases hd
def aH.gJ(l:aH a G x j h):h.heap.FunFrames a.base a.outer:=by
 have all:∀(M:List eg),(∀d∈dT M,d∈a.aE)->a.eS.heap.FunFrames a.base M->h.heap.FunFrames a.base M:=by
  intro M;induction M with
  |nil=>intro W W;trivial
  |cons VC r g=>
   intro VN k;let@⟨n,⟨WI,@m,b,o,p,hd⟩,q⟩:=k;have e:WI∈a.aE:=VN WI (by unfold dT;rw[rX,b];exact nD);let⟨@a6,c⟩:=l.base.slot WI m p (l.ok.kk WI e) e λi=>l.ok.lN WI i e;exact⟨n,⟨WI,_,b,o,c,hd⟩,g (λd f=>VN d (by unfold dT;rw[rX,b];exact l5 _ f)) q⟩
 exact all a.outer (λ_ f=>f) l.ok.gJ
def aH.stack(l:aH a G x j h):h.heap.FunFrames a.base a.stack:=by
 rcases l.ok.mP with c|⟨c,b⟩
 ·rw[c];exact l.gJ
 ·rw[c];let⟨@H,d,W⟩:=l.loc;refine .cons (by rw[l.ok.kind];decide) b d ?_ l.gJ;exact xh (fv l.ok.jz l.ok.above)
def aH.xZ(l:aH a G x j h):∀d∈dT a.stack,d∈a.env.locals::a.aE:=λd b=>by
 rcases l.ok.mP with c|⟨c,e⟩
 ·rw[c]at b;exact l5 _ b
 ·rw[c]at b;unfold dT at b;rw[rX,e]at b;exact b
def aH.rR(l:aH a G x j h):∀d∈dT a.stack,j d=Y:=λd b=>by
 rcases bO.mp (l.xZ d b) with c|b
 ·rw[c];exact l.free
 ·let@⟨_,⟨@m,e,_⟩⟩:=l.ok.gJ.mem b;exact l.base.free d m e (l.ok.kk d b) λi=>l.ok.lN d i b
def aH.step{E:Array y5}{We:Nat}{R:Drawn}{WM:List ae}(l:aH a G x j h)(v:∀d∈WM,(d∈a.ex\/a.eS.heap.objs.size<=d)/\d≠a.env.locals/\(∀f n,a.env.cells.lookup f=Z n->n≠d)/\∀o∈a.hk++G,o.1≠d)(keep:∀d m,d≠a.env.locals->d∉a.aE->d∉WM->h.heap.get? d=Z m->j d=Y->VB.get? d=Z m)(F:∀d m,d≠a.env.locals->d∈a.aE->d∉WM->h.heap.get? d=Z m->j d=Y->∃a6,VB.get? d=Z {m with slots:=a6})(C:∀d m,d∉WM->h.heap.get? d=Z m->j d=Y->Q d=Y)(S:∀d m,d∉WM->h.heap.get? d=Z m->∃Wj,VB.get? d=Z Wj)(iN:∀d z,j d=Z (.tup z)->Q d=Z (.tup z))(iA:∀d m J,j d=Z (.dw m J)->Q d=Z (.dw m J))(jc:∀d VQ,j d=Z (.nA VQ)->∃T,Q d=Z (.nA<|VQ++T))(V2:∀H,h.heap.Ns a.env.locals H->VB.Ns a.env.locals H)(aX:dG a.prog a.w Q VB)(U:ll E):
  aH a G x Q {h with heap:=VB,gens:=E,drawn:=R,toks:=We}:=by
 have I:∀d m,a.eS.heap.get? d=Z m->d≠a.env.locals:=λd m c=>ef (fk (cg c) l.ok.above);have D:∀d m,a.eS.heap.get? d=Z m->d∉a.ex->d∉WM:=λd m c e k=>by
  rcases (v d k).1 with i|i
  ·exact e i
  ·exact absurd (fk (cg c) i) (iU _)
 have L:∀f n,a.env.cells.lookup f=Z n->∀u,h.heap.IsCell n u->VB.IsCell n u:=λf n c u ⟨m,t,hd⟩=>by
  have A:n∉WM:=λi=>(v n i).2.2.1 f n c rfl;by_cases N:n∈a.aE
  ·let⟨@a6,p⟩:=F n m (l.oY f n c) N A t (l.gW f n c);exact⟨_,p,hd⟩
  ·exact⟨m,keep n m (l.oY f n c) N A t<|l.gW f n c,hd⟩
 refine⟨l.ok,l.os,U,⟨λd m c w k e=>?_,λd m c w k e=>?_,λd m c w e=>?_,λd m c e=>?_,λd z c=>iN d z<|l.base.iN d z c,λd m z c=>iA d m z<|l.base.iA d m z c,λd VQ c=>?_⟩,?_,λf n c=>?_,?_,λf n c=>?_,λo O=>?_,aX,l.len⟩
 ·exact keep d m (I d m c) k (D d m c e) (l.base.keep d m c w k e) (l.base.free d m c w e)
 ·let⟨@a6,g⟩:=l.base.slot d m c w k e;let⟨@al,B⟩:=F d _ (I d m c) k (D d m c e) g (l.base.free d m c w e);exact⟨al,B⟩
 ·let⟨@Wj,g⟩:=l.base.there d m c e;exact C d Wj (D d m c e) g (l.base.free d m c w e)
 ·let⟨@Wj,g⟩:=l.base.there d m c e;exact S d Wj (D d m c e) g
 ·let⟨@am,g⟩:=l.base.jc d VQ c;let⟨@an,B⟩:=jc d _ g;exact⟨am++an,by rw[B,H5]⟩
 ·let⟨@H,ap,as⟩:=l.loc;refine⟨H,V2 H ap,λb f u g B a1=>?_⟩;let⟨@J,r,M⟩:=as b f u g B a1;refine⟨J,r,?_⟩;rcases M with M|⟨q,n,c,i⟩
  ·exact .inl M
  ·exact .inr ⟨q,n,c,L f n c _ i⟩
 ·let⟨@u,i⟩:=l.cell f n c;exact⟨u,L f n c u i⟩
 ·let⟨@H,⟨m,W,@W,t,W⟩,W⟩:=l.loc;exact C _ m (λi=>(v _ i).2.1 rfl) t l.free
 ·let⟨u,@m,t,hd⟩:=l.cell f n c;exact C n m (λi=>(v n i).2.2.1 f n c rfl) t (l.gW f n c)
 ·let@⟨c,w,ne,P,s⟩:=l.pin o O;have A:o.1∉WM:=λi=>(v o.1 i).2.2.2 o O rfl;exact⟨keep o.1 o.2 ne P A c w,C o.1 o.2 A c w,ne,P,s⟩
def aH.un(l:aH a G x j h)(J:dX a.aE [] j Q h.heap VB)(aX:dG a.prog a.w Q VB):aH a G x Q {h with heap:=VB,toks:=We}:=by
 let⟨@H,⟨m,U,@WB,e,r⟩,W⟩:=id l.loc;let⟨@a6,g⟩:=J.any e l.free ↥0;exact l.step (E:=h.gens) (R:=h.drawn) (WM:=[]) (λ_ i=>nomatch i) (λd m W b W c w=>J.keep d m c w b ↥0) (λd m W b W c w=>J.slot d m c w b ↥0) (λd m W c w=>J.free d m c w ↥0) (λd m W c=>J.there d m c ↥0) J.iN J.iA J.jc (λs k=>by
  let⟨Wj,n,@o,f,Wz⟩:=k;rw[e]at f;cases f;exact⟨_,n,o,g,Wz⟩) aX l.bare
def aH.call{g:Array y5}{s:Drawn}(l:aH a G x j h)(J:dX (dT a.stack) WM j Q h.heap VB)(aX:dG a.prog a.w Q VB)(t:ll g)(k:∀d∈WM,(d∈a.ex\/a.eS.heap.objs.size<=d)/\d≠a.env.locals/\(∀f n,a.env.cells.lookup f=Z n->n≠d)/\∀o∈a.hk++G,o.1≠d):
  aH a G x Q {h with heap:=VB,gens:=g,drawn:=s,toks:=We}:=by
 let⟨@H,⟨m,U,@WB,p,r⟩,W⟩:=id l.loc;let⟨@a6,e⟩:=J.any p l.free λi=>(k _ i).2.1 rfl;exact l.step (WM:=WM) k (λd m e u b c w=>J.keep d m c w (λi=>(bO.mp<|l.xZ d i).elim e u) b) (λd m W W b c w=>J.any c w b) (λd m b c w=>J.free d m c w b) (λd m b c=>J.there d m c b) J.iN J.iA J.jc (λB v=>by
  let⟨Wj,z,@A,q,Wz⟩:=v;rw[p]at q;cases q;exact⟨_,z,A,e,Wz⟩) aX t
def aH.turned(l:aH a G x j h)(q:∀d m,d≠VH->h.heap.get? d=Z m->VB.get? d=Z m)(k:j VH=Y)(e:VH≠a.env.locals)(A:VH∈a.ex\/a.eS.heap.objs.size<=VH)(C:∀f n,a.env.cells.lookup f=Z n->n≠VH)(s:∀o∈a.hk++G,o.1≠VH):aH a G x j {h with heap:=VB,toks:=We}:=by
 have g:∀d J,j d=Z J->d≠VH:=λd J c i=>by rw[i,k]at c;cases c
 refine l.step (E:=h.gens) (R:=h.drawn) (WM:=[VH]) (λd t=>?_) (λd m W W b c W=>q d m (λi=>b (by simp[i])) c) (λd m W W b c W=>⟨m.slots,q d m (λi=>b (by simp[i])) c⟩) (λ_ W W W w=>w)
  (λd m b c=>⟨m,q d m (λi=>b (by simp[i])) c⟩) (λ_ W c=>c) (λ_ W W c=>c) (λd VQ c=>⟨#[],by rw[c];simp⟩) (λH v=>?_) (λd J c=>?_) l.bare
 ·have c:d=VH:=by simpa using t
  subst c;exact⟨A,e,C,s⟩
 ·let⟨m,U,@WB,y,r⟩:=v;exact⟨m,U,WB,q _ m (fI e) y,r⟩
 ·refine (l.aX d J c).fF (λn u b p=>q n u ?_ p) (λ_ p=>p) λ_ W p=>p;rcases b with i|i
  ·rw[i];exact g d J c
  ·exact g n _ i
def aH.tok(l:aH a G x j h)(I:Nat):aH a G x j {h with toks:=I}:=l.un (VB:=h.heap) (We:=I) dX.refl l.aX
def aH.kept(l:aH a G x j h)(q:∀d J,h.heap.get? d=Z J->VB.get? d=Z J):aH a G x j {h with heap:=VB,toks:=We}:=l.un (dX.kept q) (l.aX.kept q)
def aH.laid(l:aH a G x j h)(q:∀d J,h.heap.get? d=Z J->VB.get? d=Z J)(b:h.heap.objs.size<=g)(new:fx a.prog a.w (upd j g m) VB g m):
  aH a G x (upd j g m) {h with heap:=VB,toks:=We}:=l.un (dX.laid q b<|l.aX.fresh b) (l.aX.laid q b new)
def aH.write{f c:ae}(l:aH a G x j h)(b:sC (j f))(e:c=f\/j c=Z (.own f))(q:∀d J,d≠c->h.heap.get? d=Z J->VB.get? d=Z J)(g:∃J,VB.get? c=Z J)(new:fx a.prog a.w (upd j f m) VB f m):aH a G x (upd j f m) {h with heap:=VB,toks:=We}:=l.un (dX.write b e q g) (l.aX.write b e q g new)
def aH.weak{c:List (Option ar)}(l:aH a G x j h)(d:c.length=x.length)(y:∀(b:Nat) u,c[b]?=Z (Z u)->x[b]?=Z (Z u)):aH a G c j h:=
 ⟨l.ok,l.os,l.bare,l.base,let ⟨H,e,g⟩:=l.loc;⟨H,e,λb f u i k m=>g b f u i (y b u k) m⟩,l.cell,l.free,l.gW,l.pin,l.aX,d.trans l.len⟩
def aH.qj{b:List (ae×bc)}(l:aH a G x j h)(e:∀o∈b,h.heap.get? o.1=Z o.2/\j o.1=Y/\o.1≠a.env.locals/\o.1∉a.aE/\∀u,o.2.data≠.cell u):aH a b x j h:=
 ⟨l.ok,l.os,l.bare,l.base,l.loc,l.cell,l.free,l.gW,λo c=>(dy.mp c).elim (λi=>l.pin o<|eL _ i)<|e o,l.aX,l.len⟩
def H6(a:VX.Nodup){b v:Nat}{f:aD}(g:VX[b]?=Z f)(d:VX[v]?=Z f):b=v:=by
 let⟨@A,c⟩:=fY.mp g;let⟨@C,e⟩:=fY.mp d;exact (Gr a).mp (c.trans e.symm)
variable{D:Unit->ao->Prop}
def Gl{aC:gw}(l:aH a G x j h)(am:a.N.Nodup)(VF:a.N[b]?=Z f)(A:i_ a.env.scope f)(r:cq u J)(e:∀VE,aH a G (x.set b<|Z u) j VE->(∃g,aY.SameBut g h.heap VE.heap/\(g=a.env.locals\/a.env.cells.lookup f=Z g))->D () VE)(bi:a.fn f=V\/a.env.scope.names.lookup f=Z .local:=by first|exact .inl rfl|exact .inr rfl|assumption):wpAny aC P (storeName a.env f J) D VD h:=by
 let⟨@H,O,an⟩:=id l.loc;have bm:(a.env.scope.kind==.class || (a.env.scope.kind==.module&&a.env.locals != a.env.globals))=aq:=by rw[l.ok.kind];rfl
 have ap:b<x.length:=by rw[l.len];exact (fY.mp VF).1
 have oY:=l.oY;have as:∀{g:ae}{VB:aY},(∃m,h.heap.get? g=Z m/\j g=Y)->aY.SameBut g h.heap VB->dG a.prog a.w j VB:=λ{g VB} bn VN d WA c=>by
  let⟨@W,W,a1⟩:=bn;refine (l.aX d WA c).fF (λn L z p=>(VN.2 n ?_).trans p) (λ_ p=>p) λ_ W p=>p;rintro rfl;rcases z with rfl|z
  ·rw[a1]at c;cases c
  ·rw[a1]at z;cases z
 rcases A with E|E
 ·refine wpAny_storeName_local E O (λVB bs VN=>?_) bm;let⟨bv,W,@W,ca,W⟩:=id O;refine e _ ⟨l.ok,l.os,l.bare,⟨λd m c w F A=>?_,λd m c w F A=>?_,l.base.free,λd m c A=>?_,l.base.iN,l.base.iA,l.base.jc⟩,⟨_,bs,λv t Q k B R=>?_⟩,λt n c=>?_,l.free,l.gW,λo S=>?_,as ⟨bv,ca,l.free⟩ VN,by simpa using l.len⟩ ⟨_,VN,.inl rfl⟩
  ·exact (VN.2 d<|ef<|fk (cg c) l.ok.above).trans (l.base.keep d m c w F A)
  ·let⟨@a6,k⟩:=l.base.slot d m c w F A;exact⟨a6,(VN.2 d<|ef<|fk (cg c) l.ok.above).trans k⟩
  ·let⟨@Wj,k⟩:=l.base.there d m c A;exact⟨Wj,(VN.2 d<|ef<|fk (cg c) l.ok.above).trans k⟩
  ·by_cases I:v=b
   ·subst I;rw[VF]at k;cases k;rw[vO ap]at B;cases B;exact⟨J,r,.inl ⟨E,by simp⟩⟩
   ·rw[oR (fI I)]at B;let⟨@T,Wz,p⟩:=an v t Q k B R;refine⟨T,Wz,?_⟩;rcases p with ⟨q,c⟩|⟨q,n,c,i⟩
    ·refine .inl ⟨q,?_⟩;have:t≠f:=λc=>I (H6 am k<|c ▸ VF);simp[this,c]
    ·exact .inr ⟨q,n,c,i.sameBut VN<|oY t n c⟩
  ·let⟨@L,i⟩:=l.cell t n c;exact⟨L,i.sameBut VN<|oY t n c⟩
  ·let@⟨c,w,ne,U,s⟩:=l.pin o S;exact⟨(VN.2 o.1 ne).trans c,w,ne,U,s⟩
 ·have al:a.fn f=V:=by
   rcases bi with i|i
   ·exact i
   ·rw[i]at E;cases E
  let⟨@n,z⟩:=l.ok.has f (.inl E);let⟨@L,i⟩:=l.cell f n z;refine wpAny_storeName_cell l.ok.kind E z i (λVB a2 VN=>?_);let⟨@C,bd,cd⟩:=id i;refine e {h with heap:=VB} ⟨l.ok,l.os,l.bare,⟨λd m c w F A=>?_,λd m c w F A=>?_,l.base.free,λd m c A=>?_,l.base.iN,l.base.iA,l.base.jc⟩,⟨H,O.sameBut VN<|fI<|oY f n z,λv t Q k B R=>?_⟩,λt M c=>?_,l.free,l.gW,λo S=>?_,as ⟨C,bd,l.gW f n z⟩ VN,by simpa using l.len⟩ ⟨n,VN,.inr z⟩
  ·exact (VN.2 d<|ef<|fk (cg c)<|l.ok.kY f n al z).trans (l.base.keep d m c w F A)
  ·let⟨@a6,k⟩:=l.base.slot d m c w F A;exact⟨a6,(VN.2 d<|ef<|fk (cg c)<|l.ok.kY f n al z).trans k⟩
  ·let⟨@Wj,k⟩:=l.base.there d m c A;exact⟨Wj,(VN.2 d<|ef<|fk (cg c)<|l.ok.kY f n al z).trans k⟩
  ·by_cases I:v=b
   ·subst I;rw[VF]at k;cases k;rw[vO ap]at B;cases B;exact⟨J,r,.inr ⟨.inl E,n,z,a2⟩⟩
   ·rw[oR (fI I)]at B;let⟨@T,Wz,p⟩:=an v t Q k B R;refine⟨T,Wz,?_⟩;rcases p with p|⟨q,M,c,ce⟩
    ·exact .inl p
    ·refine .inr ⟨q,M,c,ce.sameBut VN ?_⟩;rintro rfl;exact I (H6 am k<|l.ok.inj _ _ _ c z ▸ VF)
  ·by_cases be:M=n
   ·subst be;exact⟨_,a2⟩
   ·let⟨@du,ch⟩:=l.cell t M c;exact⟨du,ch.sameBut VN be⟩
  ·let@⟨c,w,ne,U,s⟩:=l.pin o S;refine⟨(VN.2 o.1 ?_).trans c,w,ne,U,s⟩;intro p;rw[p,bd]at c;have ci:C=o.2:=Option.some.inj c;exact s L (by rw[<-ci];exact cd)
def v_{aC:gw}(l:aH a G x j h)(c:a.N.Nodup)(VF:a.N[b]?=Z f)(d:i_ a.env.scope f)(r:cq u J)(e:∀VE,aH a G (x.set b<|Z u) j VE->D () VE)(g:a.fn f=V\/a.env.scope.names.lookup f=Z .local:=by first|exact .inl rfl|exact .inr rfl|assumption):wpAny aC P (storeName a.env f J) D VD h:=
 Gl l c VF d r (λVE i W=>e VE i) g
def aH.Cj(l:aH a G x j h)(g:VE.os=h.os)(J:dX (dT a.stack) WM j Q h.heap VE.heap)(aX:dG a.prog a.w Q VE.heap)(i:ll VE.gens)(k:∀d∈WM,(d∈a.ex\/a.eS.heap.objs.size<=d)/\d≠a.env.locals/\(∀f n,a.env.cells.lookup f=Z n->n≠d)/\∀o∈a.hk++G,o.1≠d):aH a G x Q VE:=by
 let⟨VB,b,e,We,Wj⟩:=VE;have c:Wj=h.os:=g;subst c;exact l.call (g:=b) (We:=We) (s:=e) J aX i k
end
abbrev fV:=af->Option ae->aA->Prop
abbrev a8:=List (Option ar)
variable{x:a8}
abbrev cN:=ar->aA->Prop
abbrev cf:=a8->aA->cN->Prop
abbrev eE:=a8->aA->(Bool->aA->Prop)->Prop
abbrev fp:=a8->aA->(List ar->aA->Prop)->Prop
variable{Wu:fp}
structure kM where
 aI:a8->aA->Prop
 cB:cN
 dO:a8->aA->Prop:=λ_ _=>False
 cI:a8->aA->Prop:=λ_ _=>False
abbrev eQ:=kM->a8->aA->Prop
def eP(a:aK)(G:List (ae×bc))(x:a8)(D:cN)(J:af)(VE:ao):Prop:=(∃u Q,aH a G x Q VE/\cq u J/\D u Q)
def wM(a:aK)(G:List (ae×bc))(x:a8)(D:Bool->aA->Prop)(d:Bool)(VE:ao):Prop:=(∃Q,aH a G x Q VE/\D d Q)
def KN(a:aK)(G:List (ae×bc))(x:a8)(D:List ar->aA->Prop)(VZ:List af)(VE:ao):Prop:=(∃T Q,aH a G x Q VE/\bY T VZ/\D T Q)
def jN(a:aK)(G:List (ae×bc))(k:kM)(N:Flow)(VE:ao):Prop:=(
 match N with
 |.next=>∃b Q,aH a G b Q VE/\k.aI b Q
 |.brk=>∃b Q,aH a G b Q VE/\k.dO b Q
 |.cont=>∃b Q,aH a G b Q VE/\k.cI b Q
 |.ret J=>∃u b Q,aH a G b Q VE/\cq u J/\k.cB u Q)
def yC(a:aK)(c:bt)(I:cf)(G:List (ae×bc)):Prop:=(
 ∀(h:ao) (x:a8) (j:aA) (D:cN),aH a G x j h->I x j D->wpAny (aW a.prog a.w) a.A (b_ c a.env) (eP a G x D) a.cQ h)
def bW(a:aK)(c:bt)(I:cf):Prop:=(∀G,yC a c I G)
def Dw(a:aK)(c:bt)(I:eE)(G:List (ae×bc)):Prop:=(
 ∀(h:ao) (x:a8) (j:aA) (D:Bool->aA->Prop),aH a G x j h->I x j D->wpAny (aW a.prog a.w) a.A (qf c a.env<|b_ c a.env) (wM a G x D) a.cQ h)
def hO(a:aK)(c:bt)(I:eE):Prop:=(∀G,Dw a c I G)
def DB(a:aK)(c:bt)(I:eE)(b:eo af):Prop:=(
 ∀(G:List (ae×bc)) (h:ao) (x:a8) (j:aA) (D:Bool->aA->Prop),aH a G x j h->I x j D->wpAny (aW a.prog a.w) a.A (qf c a.env b) (wM a G x D) a.cQ h)
def ke(a:aK)(c:bt)(I:eE):Prop:=(∀b,DB a c I b)
def ke.pt{a:aK}{c:bt}{I:eE}(e:ke a c I):hO a c I:=e _
def IY(a:aK)(U:List bt)(I:fp)(VT:Pos):Prop:=(
 ∀(G:List (ae×bc)) (h:ao) (x:a8) (j:aA) (D:List ar->aA->Prop),aH a G x j h->I x j D->wpAny (aW a.prog a.w) a.A (spliced<|fE VT<|bP U a.env) (KN a G x D) a.cQ h)
def hA(a:aK)(U:List bt)(I:fp):Prop:=(∀VT,IY a U I VT)
def Iv(a:aK)(X:bC)(I:eQ)(G:List (ae×bc)):Prop:=(
 ∀(h:ao) (x:a8) (j:aA) (k:kM),aH a G x j h->I k x j->wpAny (aW a.prog a.w) a.A (exec X a.env) (jN a G k) a.cQ h)
def ht(a:aK)(X:bC)(I:eQ):Prop:=(∀G,Iv a X I G)
def FT(a:aK)(X:List bC)(I:eQ)(G:List (ae×bc)):Prop:=(
 ∀(h:ao) (x:a8) (j:aA) (k:kM),aH a G x j h->I k x j->wpAny (aW a.prog a.w) a.A (execs X a.env) (jN a G k) a.cQ h)
def gD(a:aK)(X:List bC)(I:eQ):Prop:=(∀G,FT a X I G)
def b0{V7:Type}{I:eo V7}{D a:V7->ao->Prop}{aC:gw}(e:wpAny aC P I D VD h)(b:∀g h,D g h->a g h):wpAny aC P I a VD h:=gT e b λ_ W f=>f
section
variable{a:aK}
def mI(b:Nat):cf:=(λx j D=>∃u,x[b]?=Z (Z u)/\D u j)
def n6(u:ar):cf:=(λ_ j D=>D u j)
def D8(k:a.N[b]?=Z f)(m:ve a.env.scope f)(hd:(f==("__debug__" : aD))=aq:=by decide)(o:(f==("__classdict__" : aD))=aq:=by decide):bW a (.Name f VT) (mI b):=by
 intro G h x j D l e;let⟨@u,c,e⟩:=e;let⟨@H,p,q⟩:=l.loc;let⟨@J,r,M⟩:=q b f u k c m;have fin:eP a G x D J h:=⟨u,j,l,r,e⟩;rcases M with ⟨d,s⟩|⟨d,n,g,i⟩
 ·exact yI (wpAny_loadName_local l.ok.kind d p s fin) hd
 ·rcases d with d|d
  ·exact yI (wpAny_loadName_cell l.ok.kind d g i fin) hd
  ·exact yI (wpAny_loadName_free l.ok.kind d g i fin o) hd
def U8{b v VT}:bW a (.Constant (.int b) v VT) (n6<|.int b):=λ_ W W j W l e=>wpAny_Constant_int ⟨.int b,j,l.tok _,⟨_,rfl⟩,e⟩
def Mj{d v VT}:bW a (.Constant (.bool d) v VT) (n6<|.aF d):=λ_ W W j W l e=>Constant_bool ⟨.aF d,j,l,rfl,e⟩
def Ss{f v VT}:bW a (.Constant (.str f) v VT) (n6<|.str f):=λ_ W W j W l e=>Calls.Constant_str ⟨.str f,j,l.tok _,⟨_,rfl⟩,e⟩
def eG(a:aK)(f:aD):Prop:=(a.env.kindOf f=Z .globalImplicit)
def wI(l:aH a G x j h)(b:eG a f)(c:a.aB f=Z J)(e:D J h)(hd:(f==("__debug__" : aD))=aq:=by decide):wpAny (aW a.prog a.w) a.A (b_ (.Name f VT) a.env) D VD h:=
 H9 l.ok.kind b (Calls.loadGlobal_global (by rw[l.ok.glob];exact l.mod.glob.keeps l.dO) c e) hd
def ra(l:aH a G x j h)(b:eG a f)(c:a.aB f=Y)(d:fR f=Z J)(e:D J h)(g:f ≠ "__name__" := by decide)(hd:(f==("__debug__" : aD))=aq:=by decide):wpAny (aW a.prog a.w) a.A (b_ (.Name f VT) a.env) D VD h:=by
 let⟨@i,A,C⟩:=l.mod.blt;exact H9 l.ok.kind b (Calls.loadGlobal_builtin (by rw[l.ok.glob];exact l.mod.glob.keeps l.dO) c (by rw[l.ok.blt];exact A.keeps l.dO) ((C f g).trans d) e) hd
def zy(b:eG a f)(c:a.aB f=Z J)(r:cq u J)(hd:(f==("__debug__" : aD))=aq:=by decide):bW a (.Name f VT) (n6 u):=
 λ_ W W j W l e=>wI l b c ⟨u,j,l,r,e⟩ hd
def Mq(b:eG a f)(c:a.aB f=Y)(d:fR f=Z J)(r:cq u J)(g:f ≠ "__name__" := by decide)(hd:(f==("__debug__" : aD))=aq:=by decide):bW a (.Name f VT) (n6 u):=
 λ_ W W j W l e=>ra l b c d ⟨u,j,l,r,e⟩ g hd
variable{g d:bt}{Wu a_:cf}{VT:Pos}
variable{hx i:eE}{dq:List bt}
def Hd(I J:eE):eE:=(λx j D=>I x j λn VL=>if n=V then J x VL D else D aq VL)
def GG(I J:eE):eE:=(λx j D=>I x j λn VL=>if n=V then D V VL else J x VL D)
def PE(I:eE):eE:=(λx j D=>I x j λn VL=>D (!n) VL)
def UW(b:hO a g hx):ke a (.BoolOp .And [g] VT) hx:=by
 intro d G h x j D l e;refine isTrue_and (b0 (b G h x j D l e) λn f c=>?_);cases n with
 |true=>exact isTrue_and_nil c
 |false=>exact c
def Sz(b:hO a g hx):ke a (.BoolOp .Or [g] VT) hx:=by
 intro d G h x j D l e;refine isTrue_or (b0 (b G h x j D l e) λn f c=>?_);cases n with
 |false=>exact isTrue_or_nil c
 |true=>exact c
def SD(f:hO a g hx)(k:ke a (.BoolOp .And (d::dq) VT) i):ke a (.BoolOp .And (g::d::dq) VT) (Hd hx i):=by
 intro m G h x j D l e;refine isTrue_and (b0 (f G h x j _ l e) λn o p=>?_);let⟨@VL,b,c⟩:=p;cases n with
 |true=>exact k m G o x VL D b c
 |false=>exact⟨VL,b,c⟩
def KG(f:hO a g hx)(k:ke a (.BoolOp .Or (d::dq) VT) i):ke a (.BoolOp .Or (g::d::dq) VT) (GG hx i):=by
 intro m G h x j D l e;refine isTrue_or (b0 (f G h x j _ l e) λn o p=>?_);let⟨@VL,b,c⟩:=p;cases n with
 |true=>exact⟨VL,b,c⟩
 |false=>exact k m G o x VL D b c
def Pa(b:hO a g hx):hO a (.UnaryOp .Not g VT) (PE hx):=by
 intro G h x j D l e;exact isTrue_not (b G h x j (λn VL=>D (!n) VL) l e)
def M5(Wu a_:cf):cf:=(λx j D=>Wu x j λf VL=>∃n,f=.aF n/\if n=V then a_ x VL D else D (.aF aq) VL)
def J2(Wu:cf):cf:=(λx j D=>Wu x j λf VL=>∃n,f=.aF n/\D (.aF<|!n) VL)
def TR{Wr}{I:cf}(e:bW a g I):bW a (.BoolOp Wr [g] VT) I:=λG h x j D l b=>BoolOp_one (e G h x j D l b)
def O3(i:bW a g Wu)(k:bW a (.BoolOp .And (d::dq) VT) a_):bW a (.BoolOp .And (g::d::dq) VT) (M5 Wu a_):=by
 intro G h x j D l e;refine BoolOp_and (b0 (i G h x j _ l e) λu m o=>?_);let⟨f,@VL,c,p,b⟩:=o;let⟨@n,rfl,b⟩:=b;cases p;refine kP ?_;cases n with
 |true=>exact k G m x VL D c b
 |false=>exact⟨.aF aq,VL,c,rfl,b⟩
def PI(c:bW a g Wu):bW a (.UnaryOp .Not g VT) (J2 Wu):=by
 intro G h x j D l e;refine UnaryOp_ (b0 (c G h x j _ l e) λu m d=>?_);let⟨f,@VL,i,k,b⟩:=d;let⟨@n,rfl,b⟩:=b;cases k;exact not_of (kP ⟨.aF<|!n,VL,i,rfl,b⟩)
def Uc(I:eE)(Wu a_:cf):cf:=(λx j D=>I x j λn VL=>if n=V then Wu x VL D else a_ x VL D)
def SU(i:hO a n hx)(k:bW a g Wu)(m:bW a d a_):bW a (.IfExp n g d VT) (Uc hx Wu a_):=by
 intro G h x j D l e;refine wpAny_IfExp (b0 (i G h x j _ l e) λs b o=>?_);let⟨@VL,c,f⟩:=o;cases s with
 |true=>exact k G b x VL D c f
 |false=>exact m G b x VL D c f
end
def dv(R:Φ)(j:aA)(g:ae)(z:List ar):Prop:=(
 lL j g (.lst z)\/
  ∃(m:bc) (VP:Array af) (w:Nat),R.lookup g=Z m/\m.cls=.type "list" /\ m.dict=Y/\m.data=.seq VP w/\VP.size<=sizeLine/\bY z VP.toList)
def cu(R:Φ)(j:aA)(g:ae)(z:List ar):Prop:=(
 lL j g (.tup z)\/
  ∃(m:bc) (VP:Array af) (w:Nat),R.lookup g=Z m/\m.cls=.type "tuple" /\ m.data=.seq VP w/\VP.size<=sizeLine/\bY z VP.toList)
def Sx:af->Option ar
 |.none=>Z .aS
 |.bool d=>Z (.aF d)
 |.int b _=>Z (.int b)
 |.str f _=>Z (.str f)
 |.bytes d _=>Z (.rm d)
 |.float d _=>Z (.yD d)
 |.ref g=>Z (.ref g)
 |.type w=>Z (.ty w)
 |_=>Y
def cq.abs{f:ar}(r:cq f J):Sx J=Z f:=by
 cases f with
 |aS=>cases r;rfl
 |aF _=>cases r;rfl
 |int _=>let⟨@I,rfl⟩:=r;rfl
 |str _=>let⟨@I,rfl⟩:=r;rfl
 |rm _=>let⟨@I,rfl⟩:=r;rfl
 |yD _=>let⟨@I,rfl⟩:=r;rfl
 |ref _=>cases r;rfl
 |ty _=>cases r;rfl
def cq.inj{f:ar}(r:cq f J)(p:cq t J):f=t:=Option.some.inj (r.abs.symm.trans p.abs)
theorem bY.inj:∀{z VR:List ar}{VZ:List af},bY z VZ->bY VR VZ->z=VR
 |_,_,_,.nil,.nil=>rfl
 |_,_,_,.cons r I,.cons Wz We=>by rw[r.inj Wz,bY.inj I We]
section
variable{a:aK}{G:List (ae×bc)}{x:a8}{j:aA}{h:ao}{g:ae}{z VR:List ar}
def dv.of(e:j g=Z (.lst z)):dv R j g z:=.inl (.inl e)
def cu.of(e:j g=Z (.tup z)):cu R j g z:=.inl (.inl e)
def aH.list(l:aH a G x j h)(e:dv a.K j g z):∃VP:List af,bY z VP/\PlainL h.heap g VP.toArray/\z.length<=sizeLine:=by
 rcases e with e|⟨m,VP,w,b,d,hd,VN,f,r⟩
 ·let@⟨i,⟨VP,@w,r,c⟩⟩:=e.ok l.aX;exact⟨VP,r,⟨_,w,c,rfl,rfl,rfl⟩,i⟩
 ·refine⟨VP.toList,r,⟨m,w,l.kp g m b,d,hd,by simpa using VN⟩,?_⟩;have c:=r.length;simp only[f6]at c;lia
def aH.tuple(l:aH a G x j h)(e:cu a.K j g z):∃VP:List af,bY z VP/\o9 h.heap g VP.toArray/\z.length<=sizeLine:=by
 rcases e with e|⟨m,VP,w,b,d,VN,f,r⟩
 ·let@⟨i,⟨@VP,r,o⟩⟩:=e.ok l.aX;exact⟨VP,r,o.tup,i⟩
 ·refine⟨VP.toList,r,⟨m,l.kp g m b,d,w,by simpa using VN⟩,?_⟩;have c:=r.length;simp only[f6]at c;lia
def aH.GH(l:aH a G x j h)(e:dv a.K j g z)(VB:dv a.K j g VR):z=VR:=by
 let⟨@VP,r,⟨m,@w,c,W,W,s⟩,W⟩:=l.list e;let⟨@S,Wz,⟨Wj,@f,b,W,W,d⟩,W⟩:=l.list VB;rw[c]at b;cases b;rw[s]at d;injection d with Wb _;have:VP=S:=by simpa using congrArg Array.toList Wb
 subst this;exact r.inj Wz
def aH.tS(l:aH a G x j h)(e:cu a.K j g z)(VB:cu a.K j g VR):z=VR:=by
 let⟨@VP,r,⟨@m,c,W,⟨@w,s⟩⟩,W⟩:=l.tuple e;let⟨@S,Wz,⟨@Wj,b,W,⟨@f,d⟩⟩,W⟩:=l.tuple VB;rw[c]at b;cases b;rw[s]at d;injection d with Wb _;have:VP=S:=by simpa using congrArg Array.toList Wb
 subst this;exact r.inj Wz
end
abbrev aK.kO(a:aK)(VD:af->ao->Prop):aK:={a with cQ:=VD}
abbrev aK.oS(a:aK):aK:=a.kO λ_ _=>False
def aK.Ok.kO(ok:a.Ok)(VD:af->ao->Prop):(a.kO VD).Ok:=
 ⟨ok.mod,ok.kind,ok.glob,ok.blt,ok.above,ok.inj,ok.has,ok.kY,ok.hd,ok.frames,ok.mP,ok.pj,ok.bs,ok.jz,ok.lU,ok.lN,ok.gJ,ok.kk⟩
def aK.Ok.mZ(ok:(a.kO VD).Ok):a.Ok:=
 ⟨ok.mod,ok.kind,ok.glob,ok.blt,ok.above,ok.inj,ok.has,ok.kY,ok.hd,ok.frames,ok.mP,ok.pj,ok.bs,ok.jz,ok.lU,ok.lN,ok.gJ,ok.kk⟩
section
variable{a:aK}{G:List (ae×bc)}{x:a8}{j:aA}{h:ao}{VD:af->ao->Prop}
def aH.kO(l:aH a G x j h)(VD:af->ao->Prop):aH (a.kO VD) G x j h:=⟨l.ok.kO VD,l.os,l.bare,l.base,l.loc,l.cell,l.free,l.gW,l.pin,l.aX,l.len⟩
def aH.mZ(l:aH (a.kO VD) G x j h):aH a G x j h:=⟨l.ok.mZ,l.os,l.bare,l.base,l.loc,l.cell,l.free,l.gW,l.pin,l.aX,l.len⟩
def jN.mZ{k:kM}{N:Flow}(e:jN (a.kO VD) G k N VE):jN a G k N VE:=by
 cases N with
 |next=>let⟨b,@Q,l,p⟩:=e;exact⟨b,Q,l.mZ,p⟩
 |brk=>let⟨b,@Q,l,p⟩:=e;exact⟨b,Q,l.mZ,p⟩
 |cont=>let⟨b,@Q,l,p⟩:=e;exact⟨b,Q,l.mZ,p⟩
 |ret J=>let⟨u,b,@Q,l,r,p⟩:=e;exact⟨u,b,Q,l.mZ,r,p⟩
def gD.oS{X:List bC}{I:eQ}(e:gD a.oS X I):gD a X I:=λG h x j k l b=>
 gT (e G h x j k (l.kO _) b) (λ_ W p=>p.mZ) λ_ W i=>False.elim i
end
section
variable{a:aK}{X:bC}{dq:List bC}{I J:eQ}{c:bt}{ck:cf}{VT:Pos}
def Py:eQ:=(λk x j=>k.aI x j)
def Bb(I J:eQ):eQ:=(λk x j=>I {k with aI:=J k} x j)
def OD:gD a [] Py:=λ_ W x j W l e=>q6 ⟨x,j,l,e⟩
def td(A:ht a X I)(C:gD a dq J):gD a (X::dq) (Bb I J):=by
 intro G h x j k l e;refine BZ (b0 (A G h x j {k with aI:=J k} l e) λN b p=>?_);cases N with
 |next=>
  let⟨c,@Q,d,p⟩:=p;exact C G b c Q k d p
 |ret u=>exact p
 |brk=>exact p
 |cont=>exact p
def S8(A:ht a X I):gD a [X] I:=by
 intro G h x j k l e;refine BZ (b0 (A G h x j k l e) λN b p=>?_);cases N with
 |next=>exact q6 p
 |ret u=>exact p
 |brk=>exact p
 |cont=>exact p
def aH.quiet(l:aH a G x j h):interactive a.env=aq:=by simp[interactive,l.ok.kind]
def NU(ck:cf):eQ:=(λk x j=>ck x j λ_ VL=>k.aI x VL)
def T4(b:bW a c ck)(VN:mz c Y VT.line a.env=pure aq:=by rfl):ht a (.Expr c VT) (NU ck):=by
 intro G h x j k l e;exact wpAny_Expr_any (b0 (b G h x j _ l e) λu i ⟨f,VL,d,m,g⟩=>⟨x,VL,d,g⟩) l.quiet VN
def Ka(ck:cf):eQ:=(λk x j=>ck x j k.cB)
def LZ(b:bW a c ck):ht a (.Return (Z c) VT) (Ka ck):=by
 intro G h x j k l e;exact wpAny_Return_some (b0 (b G h x j _ l e) λu m ⟨f,VL,d,g,i⟩=>⟨f,x,VL,d,g,i⟩)
def OF(n:eE)(I J:eQ):eQ:=(λk x j=>n x j λd VL=>if d=V then I k x VL else J k x VL)
def Eg{g d:List bC}{df:eE}(i:hO a n df)(m:gD a g I)(o:gD a d J):ht a (.If n g d VT) (OF df I J):=by
 intro G h x j k l e;refine wpAny_If (b0 (i G h x j _ l e) λs b p=>?_);let⟨@VL,c,f⟩:=p;cases s with
 |true=>exact m G b x VL k c f
 |false=>exact o G b x VL k c f
def Qm:eQ:=(λ_ W W=>False)
def OH:ht a X Qm:=λ_ W W W W W e=>e.elim
end
abbrev g6:=ar->a8->aA->(a8->aA->Prop)->Prop
abbrev k1:=List ar->a8->aA->(a8->aA->Prop)->Prop
def Gx(a:aK)(c:bt)(I:g6)(G:List (ae×bc)):Prop:=(
 ∀(h:ao) (x:a8) (j:aA) (u:ar) (J:af) (D:a8->aA->Prop),aH a G x j h->cq u J->I u x j D->
  wpAny (aW a.prog a.w) a.A (jd c a.env J) (λ_ VE=>∃b Q,aH a G b Q VE/\D b Q) a.cQ h)
def ks(a:aK)(b:bt)(I:g6):Prop:=(∀G,Gx a b I G)
def HG(a:aK)(aM:List bt)(I:k1)(G:List (ae×bc)):Prop:=(
 ∀(h:ao) (x:a8) (j:aA) (T:List ar) (VZ:List af) (D:a8->aA->Prop),aH a G x j h->bY T VZ->I T x j D->
  wpAny (aW a.prog a.w) a.A (zt ((hr aM a.env).map (·.2)) VZ) (λ_ VE=>∃b Q,aH a G b Q VE/\D b Q) a.cQ h)
def p5(a:aK)(aM:List bt)(I:k1):Prop:=(∀G,HG a aM I G)
abbrev zV:=ar->ar->ar->aA->(aA->Prop)->Prop
def xO(a:aK)(I:zV):Prop:=(
 ∀(G:List (ae×bc)) (h:ao) (x:a8) (j:aA) (m b u:ar) (c d J:af) (D:aA->Prop),aH a G x j h->cq m c->cq b d->cq u J->I m b u j D->
  wpAny (aW a.prog a.w) a.A (wj c d J) (λ_ VE=>∃Q,aH a G x Q VE/\D Q) a.cQ h)
section
variable{a:aK}{VT:Pos}
def z6(b:Nat):g6:=(λu x j D=>D (x.set b<|Z u) j)
def Km(c:a.N.Nodup)(VF:a.N[b]?=Z f)(d:i_ a.env.scope f)(g:a.fn f=V\/a.env.scope.names.lookup f=Z .local:=by first|exact .inl rfl|exact .inr rfl|assumption):ks a (.Name f VT) (z6 b):=by
 intro G h x j u J D l r e;exact Em (v_ l c VF d r (λVE i=>⟨_,j,i,e⟩) g)
def Oo:k1:=(λT x j D=>T=[]/\D x j)
def Sb(I:g6)(J:k1):k1:=(λT x j D=>∃u r,T=u::r/\I u x j λa Q=>J r a Q D)
def LM:p5 a [] Oo:=by
 intro G h x j T VZ D l r e;let@⟨c,e⟩:=e;subst c;cases r;exact EH ⟨x,j,l,e⟩
def Uy{I:g6}{J:k1}(A:ks a c I)(C:p5 a U J)(VN:(hr (c::U) a.env).map (·.2)=jd c a.env::(hr U a.env).map (·.2):=by rfl):p5 a (c::U) (Sb I J):=by
 intro G h x j T VZ D l r e;let⟨u,@m,b,e⟩:=e;subst b;cases r with
 |cons r d=>
  rw[VN];refine xt (b0 (A G h x j _ _ _ l r e) λ_ f g=>?_);let⟨W4,@VL,i,k⟩:=g;exact C G f W4 VL _ _ D i d k
def J4(R:Φ)(w:Nat)(I:k1):g6:=(λu x j D=>∃g z,u=.ref g/\cu R j g z/\z.length=w/\I z x j D)
def Ud{I:k1}(i:a.calm=V)(e:p5 a U I)(k:(hr U a.env).length=w:=by rfl)(n:(hr U a.env).findIdx? (·.1)=Y:=by rfl):ks a (.Tuple U q VT) (J4 a.K w I):=by
 intro G h x j u J D l r b;let⟨g,@z,o,p,s,b⟩:=b;subst o;cases r;let⟨@VP,f,t,A⟩:=l.tuple p;refine assign_Tuple_tuple (l.ok.hd i) t (by simp[k,<-s,f.length]) n λVB v=>?_;have y:aH a G x j {h with heap:=VB}:=l.kept (We:=h.toks) λd m c=>v d m (ef<|cg c) c;exact e G _ x j z _ D y ⇑f b
def UQ(i a:cf)(I:zV):g6:=(λu x j D=>i x j λm VL=>a x VL λb V0=>I m b u V0 λc=>D x c)
def Rd{m b:bt}{i k:cf}{I:zV}(n:bW a m i)(VF:bW a b k)(VN:xO a I)(o:∀u,jd (.Subscript m b VT) a.env u=(do
   let c <-holding [u] (b_ m a.env)
   let d <-holding [u,c] (b_ b a.env)
   standAt VT
   holding [u,c,d] (wj c d u)
   release [u,c,d] []):=by intro W;rfl):ks a (.Subscript m b VT) (UQ i k I):=by
 intro G h x j u J D l r e;rw[o];refine ax (h1<|b0 (n G h x j _ l e) λc p g=>?_);let⟨f,@VL,q,s,v⟩:=g;refine ax (h1<|b0 (VF G p x VL _ q v) λd w g=>?_);let⟨t,@V0,y,z,A⟩:=g;refine ax (w7<|ax<|h1<|b0 (VN G w x V0 f t u c d J _ y s z r A) λ_ F g=>?_);let⟨@B,C,E⟩:=g;exact wpAny_release ⟨x,B,C,E⟩
def yu(ck:cf)(L:g6):eQ:=(λk x j=>ck x j λf VL=>L f x VL k.aI)
def JP{ck:cf}{L:g6}(b:bW a c ck)(d:ks a Wh L)(VN:uH [Wh] c VT.line a.env=pure aq:=by rfl)(g:vu [Wh] c a.env=pure Y:=by rfl)(A:(hr [Wh] a.env).map (·.2)=[jd Wh a.env]:=by rfl):ht a (.Assign [Wh] c VT) (yu ck L):=by
 intro G h x j k l e;refine wpAny_Assign_stores (b0 (b G h x j _ l e) λu i ⟨f,VL,m,n,o⟩=>?_) VN g;rw[A];exact b0 (d G i x VL f u _ m n o) λ_ q p=>p
def FF{ck:cf}{WW:Pos}(d:a.N.Nodup)(VF:a.N[b]?=Z f)(g:i_ a.env.scope f)(i:bW a c ck)(VN:mz c (Z<|.Name f WW) VT.line a.env=pure aq:=by rfl)(m:a.fn f=V\/a.env.scope.names.lookup f=Z .local:=by first|exact .inl rfl|exact .inr rfl|assumption):
  ht a (.Assign [.Name f WW] c VT) (yu ck<|z6 b):=by
 intro G h x j k l e;refine wpAny_Assign_Name (b0 (i G h x j _ l e) λu r ⟨t,VL,n,o,p⟩=>?_) VN;exact v_ n d VF g o (λs q=>⟨_,VL,q,p⟩) m
def SF(b v:Nat)(Wu:fp):eQ:=(λk x j=>Wu x j λT VL=>∃u y,T=[u,y]/\k.aI ((x.set b<|Z u).set v<|Z y) VL)
def LD{t:aD}{g d:bt}{jH r pt:Pos}{Wy Wd s}(F:a.calm=V)(B:a.N.Nodup)(VF:a.N[b]?=Z f)(H:a.N[v]?=Z t)(I:b≠v)(C:a.env.scope.names.lookup f=Z .local)(D:a.env.scope.names.lookup t=Z .local)(J:hA a [g,d] Wu)(L:vu [.Tuple [.Name f jH,.Name t r] Wy pt] (.Tuple [g,d] Wd s) a.env=pure (Z [f,t]))(VN:uH [.Tuple [.Name f jH,.Name t r] Wy pt] (.Tuple [g,d] Wd s) VT.line a.env=pure aq:=by rfl):
  ht a (.Assign [.Tuple [.Name f jH,.Name t r] Wy pt] (.Tuple [g,d] Wd s) VT) (SF b v Wu):=by
 intro G h x j k l e;rw[exec_Assign_arm];refine ax (w7 ?_);rw[VN];refine ax (ba ?_);rw[aP ∅];refine ax (Tuple_<|b0 (J _ G h x j _ l e) λVZ i M=>?_);let⟨T,@VL,O,Q,z⟩:=M;let⟨u,@y,R,z⟩:=z;subst R;obtain⟨n,q,rfl,S,U⟩:∃n q,VZ=[n,q]/\cq u n/\cq y q:=by
  cases Q with
  |cons o p=>
   cases p with
   |cons al am=>
    cases am;exact⟨_,_,rfl,o,al⟩
 refine i0 ?_ (by show 2<=sizeLine;decide);have an:aH a G x VL {i with heap:=i.heap.push {cls:=.type "tuple",data:=.seq [n,q].toArray} }:=O.kept (We:=i.toks) λd m c=>b4 _ c;rw[L];refine ax (ba ?_);show wpAny (aW a.prog a.w) a.A (do rule "assign.swapped-stores";let V9 <-unpackItems (.ref i.heap.objs.size) 2 Y;zt [λu=>wD a.env t u,λu=>wD a.env f u] V9.reverse;pure Flow.next) _ _ _;refine ax (iu<|ax<|unpackItems_tuple (items:=#[n,q]) (l.ok.hd F) (o9.new i.heap _) λVB ap=>?_);have as:=an.kept (VB:=VB) (We:=i.toks) λd m c=>ap d m (ef<|cg c) c;show wpAny _ _ (zt [λu=>wD a.env t u,λu=>wD a.env f u] [q,n] >>= λ_=>pure Flow.next) _ _ _;refine ax (xt<|FV<|v_ as B H (.inl D) U (λa2 a1=>?_)<|.inr D);refine xt (FV<|v_ a1 B VF (.inl C) S (λbd E=>EH<|ba ?_)<|.inr C);rw[yE _ _ (fI I)]at E;exact⟨_,VL,E,z⟩
def Lc(n:eE)(a_:eQ):eQ:=(λk x j=>∃W:Nat->a8->aA->Prop,(∃H,W H x j)/\∀H x j,W H x j->
 n x j λd VL=>if d=V then ∃VX:a8->aA->Prop,(∀a Q,VX a Q->∃b,b<H/\W b a Q)/\a_ {k with aI:=VX,cI:=VX,dO:=k.aI} x VL else k.aI x VL)
def PB{df:eE}{a_:eQ}(q:pZ (aW a.prog a.w) a.A a.env a.cQ)(v:hO a n df)(z:gD a WU a_):ht a (.While n WU [] VT) (Lc df a_):=by
 intro G h x j k l e;let⟨@W,⟨@B,jW⟩,turn⟩:=e;refine wpAny_While (codeAny_whileLoop (λw VE=>∃r Q,aH a G r Q VE/\W w r Q) ?_ B ⟨x,j,l,jW⟩);rintro w C ⟨W4,VL,D,dD⟩;refine o1 q (b0 (v G C W4 VL _ D<|turn w W4 VL dD) λd E F=>?_);let⟨@V0,s,f⟩:=F;cases d with
 |true=>
  let⟨@VX,t,f⟩:=f;rw[aJ rfl];refine o1 q (b0 (z G E W4 V0 _ s f) λN H g=>?_);cases N with
  |next=>
   let⟨b,@c,i,m⟩:=g;let⟨@o,p,fA⟩:=t b c m;exact⟨o,p,b,c,i,fA⟩
  |cont=>
   let⟨b,@c,i,m⟩:=g;let⟨@o,p,fA⟩:=t b c m;exact⟨o,p,b,c,i,fA⟩
  |brk=>exact g
  |ret u=>exact g
 |false=>
  rw[aP eu];exact q6 ⟨W4,V0,s,f⟩
end
structure fq where
 go:Nat->aA->Prop
 pR:Nat->aA->ar->aA->Prop
 stop:Nat->aA->Prop
def ku(a:aK)(G:List (ae×bc))(j:aA)(d:ae):Prop:=(
 j d=Y/\d≠a.env.locals/\d∉a.aE/\(d∈a.ex\/a.eS.heap.objs.size<=d)/\(∀f n,a.env.cells.lookup f=Z n->n≠d)/\∀o∈a.hk++G,o.1≠d)
def aH.rV(l:aH a G x j h)(b:h.heap.objs.size<=d)(e:Q d=Y):ku a G Q d:=by
 refine⟨e,jR<|fk l.lt b,l.Uh b,.inr<|fv l.je b,λf n c i=>?_,λo g i=>?_⟩
 ·let⟨@u,p⟩:=l.cell f n c;exact absurd (fk p.lt (by rw[i];exact b)) (iU _)
 ·exact absurd (fk (cg (l.pin o g).1) (by rw[i];exact b)) (iU _)
structure pP(VJ:bF)(y:bj)(R:Φ)(Wh:bt)(Wk:fq)(cF:List ae)(VH:ae)(B:Nat->aY->Prop):Prop where
 mem:VH∈cF
 obj:∀b e,B b e->∀d∈cF,∃m,e.get? d=Z m/\∀u,m.data≠.cell u
 keep:∀b e VB,B b e->(∀d∈cF,∀m,e.get? d=Z m->VB.get? d=Z m)->B b VB
 item:∀(a:aK),a.prog=VJ->a.w=y->a.K=R->a.calm=V->∀(b:Nat) (G:List (ae×bc)) (h:ao) (x:a8) (j:aA) (VD:af->ao->Prop),aH a G x j h->(∀d∈cF,ku a G j d)->B b h.heap->Wk.go b j->
  wpAny (aW VJ y) a.A (gF<|.ref VH) (λr s1=>∃J,r=Z J/\
   wpAny (aW VJ y) a.A (qK Wh (.ref VH) J) (λ_ s2=>∃f Q,aH a G x Q s2/\cq f J/\Wk.pR b j f Q/\B (b+1) s2.heap/\∀d∈cF,Q d=Y) VD s1) VD h
 done:∀(a:aK),a.prog=VJ->a.w=y->a.K=R->a.calm=V->∀(b:Nat) (G:List (ae×bc)) (h:ao) (x:a8) (j:aA) (VD:af->ao->Prop),aH a G x j h->(∀d∈cF,ku a G j d)->B b h.heap->Wk.stop b j->
  wpAny (aW VJ y) a.A (gF<|.ref VH) (λr s1=>r=Y/\aH a G x j s1) VD h
 self:∀(P:bE) (b:Nat) (h:ao) (D:af->ao->Prop) (VD:af->ao->Prop),B b h.heap->D (.ref VH) h->wpAny (aW VJ y) P (vF<|.ref VH) D VD h
abbrev b2:=a8->aA->(fq->aA->Prop)->Prop
def C3(a:aK)(G:List (ae×bc))(x:a8)(Wh:bt)(VI:fq->aA->Prop)(c:af)(b:ao):Prop:=(
 ∃(VH:ae) (cF:List ae) (B:Nat->aY->Prop) (Wk:fq) (Q:aA),c=.ref VH/\aH a G x Q b/\pP a.prog a.w a.K Wh Wk cF VH B/\B 0 b.heap/\(∀d∈cF,ku a G Q d)/\VI Wk Q)
def Hb(a:aK)(Wh WG:bt)(W2:b2)(G:List (ae×bc)):Prop:=(
 ∀(h:ao) (x:a8) (j:aA) (VI:fq->aA->Prop),aH a G x j h->W2 x j VI->
  wpAny (aW a.prog a.w) a.A (b_ WG a.env) (λu b=>wpAny (aW a.prog a.w) a.A (vF u) (C3 a G x Wh VI) a.cQ b) a.cQ h)
def lq(a:aK)(Wh WG:bt)(W2:b2):Prop:=(∀G,Hb a Wh WG W2 G)
def zb{aC:gw}{VD:af -> ao -> Prop}{m:bc}{w:String}{T:Array af}{D:Unit -> ao -> Prop}(b:h.heap.get? VH=Z m)(c:m.cls=.type w)(hd:m.data=.fields T)(d:["enumerate", "zip", "dict_itemiterator", "dict_reverseitemiterator", "odict_iterator", "itertools.zip_longest", "itertools.pairwise"].contains w=aq)(a:D () h): wpAny aC P (qK Wh (.ref VH) J) D VD h:=by
  unfold qK;cases Wh <;> first
    | exact ba a
    | (cases J <;> first
        | exact ba a
        | (refine ax (wpAny_load b ?_)
           rw [c,hd];show wpAny aC P (if (["enumerate", "zip", "dict_itemiterator", "dict_reverseitemiterator", "odict_iterator", "itertools.zip_longest", "itertools.pairwise"].contains w&&T[0]? == Z (ja _))=V then _ else _) D VD h;rw [aP (by intro e; rw [d,Bool.false_and]at e; cases e)];exact ba a))
def r5(R:Φ)(g:ae):fq:=(
 ⟨λb j=>∃z f,dv R j g z/\z[b]?=Z f,λb j f Q=>Q=j/\∀z,dv R j g z->z[b]?=Z f,λb j=>∃z,dv R j g z/\z.length<=b⟩)
def t4(R:Φ)(g:ae):fq:=(
 ⟨λb j=>∃z f,cu R j g z/\z[b]?=Z f,λb j f Q=>Q=j/\∀z,cu R j g z->z[b]?=Z f,λb j=>∃z,cu R j g z/\z.length<=b⟩)
def uC(E:Int)(w:Nat):fq:=(⟨λb W=>b<w,λb j f Q=>Q=j/\f=.int (E+b),λb W=>w<=b⟩)
theorem TX(g VH:ae):pP VJ y R Wh (r5 R g) [VH] VH (λb e=>e.IsListIter VH g b) where
 mem:=by simp
 obj:=λb e X d k=>by
  have c:d=VH:=by simpa using k
  subst c;let⟨@m,c,n,s⟩:=X;exact⟨m,c,λu i=>by rw[s]at i;cases i⟩
 keep:=λb e VB X q=>X.at λm c=>q VH ↥0 m c
 item:=by
  intro a t v w L b G h x j VD l p X A;subst t v w;let⟨z,@f,r,B⟩:=A;let⟨@VP,C,o,N⟩:=l.list r;let⟨@J,O,P⟩:=C.get B;let@⟨D,E,Q,F,H,I⟩:=p VH ↥0;refine wpAny_pyNext_list_item X o.isList (x:=J) ⇑O λVB M cm=>?_;have S:aH a G x j {h with heap:=VB}:=l.turned (We:=h.toks) (λd m k c=>(cm.2 d k).trans c) D E F H I;let⟨@m,c,n,s⟩:=id M;exact⟨J,rfl,zb (h:={h with heap:=VB}) c n s ∅ ⟨f,j,S,P,⟨rfl,λVR T=>by rw[l.GH T r];exact B⟩,M,λd k=>(p d k).1⟩⟩
 done:=by
  intro a t v w L b G h x j VD l p X A;subst t v w;let⟨@z,r,B⟩:=A;let⟨@VP,C,o,N⟩:=l.list r;let@⟨D,E,Q,F,H,I⟩:=p VH ↥0;have al:=C.length;exact wpAny_pyNext_list_end (l.ok.hd L) X o.isList (by simp;lia) λVB U=>⟨rfl,l.turned (We:=h.toks) (λd m k c=>U d m k c) D E F H I⟩
 self:=λ_ W W W W X e=>wpAny_pyIter_listiter X e
theorem QE(g VH:ae):pP VJ y R Wh (t4 R g) [VH] VH (λb e=>e.IsTupleIter VH g b) where
 mem:=by simp
 obj:=λb e X d k=>by
  have c:d=VH:=by simpa using k
  subst c;let⟨@m,c,n,s⟩:=X;exact⟨m,c,λu i=>by rw[s]at i;cases i⟩
 keep:=λb e VB X q=>X.at λm c=>q VH ↥0 m c
 item:=by
  intro a t v w L b G h x j VD l p X A;subst t v w;let⟨z,@f,r,B⟩:=A;let⟨@VP,C,o,N⟩:=l.tuple r;let⟨@J,O,P⟩:=C.get B;let@⟨D,E,Q,F,H,I⟩:=p VH ↥0;refine wpAny_pyNext_tuple_item X (show h.heap.IsTuple g VP.toArray from o) (x:=J) ⇑O λVB M cm=>?_;have S:aH a G x j {h with heap:=VB}:=l.turned (We:=h.toks) (λd m k c=>(cm.2 d k).trans c) D E F H I;let⟨@m,c,n,s⟩:=id M;exact⟨J,rfl,zb (h:={h with heap:=VB}) c n s ∅ ⟨f,j,S,P,⟨rfl,λVR T=>by rw[l.tS T r];exact B⟩,M,λd k=>(p d k).1⟩⟩
 done:=by
  intro a t v w L b G h x j VD l p X A;subst t v w;let⟨@z,r,B⟩:=A;let⟨@VP,C,o,N⟩:=l.tuple r;let@⟨D,E,Q,F,H,I⟩:=p VH ↥0;have al:=C.length;exact wpAny_pyNext_tuple_end (l.ok.hd L) X (show h.heap.IsTuple g VP.toArray from o) (by simp;lia) λVB U=>⟨rfl,l.turned (We:=h.toks) (λd m k c=>U d m k c) D E F H I⟩
 self:=λ_ W W W W X e=>wpAny_pyIter_tupleiter X e
theorem LJ(VH:ae)(E:Int)(w:Nat):pP VJ y R Wh (uC E w) [VH] VH (λb e=>IsRangeIter e VH (E+(b:Nat)*1) ((w:Int)-(b:Nat)) 1) where
 mem:=by simp
 obj:=λb e X d f=>by
  have c:d=VH:=by simpa using f
  subst c;exact⟨_,X,λu i=>by
   have C:Data.fields _=Data.cell u:=i;cases C⟩
 keep:=λb e VB X q=>q VH ↥0 _ X
 item:=by
  intro a k n o p b G h x j VD l g X r;subst k n o;let@⟨s,t,D,v,z,A⟩:=g VH ↥0;have W:=lj.range (prog:=a.prog) (w:=a.w) (l.ok.hd p) VH E 1 w;refine W.item b h _ _ r X λu VB Wq F B fz=>?_;let⟨@I,rfl⟩:=F;have H:aH a G x j {h with heap:=VB,toks:=Wq}:=l.turned (λd m f c=>fz d m ⇑f c) s t v z A;refine⟨_,rfl,zb (h:={h with heap:=VB,toks:=Wq}) (w := "range_iterator") B rfl rfl ∅ ⟨.int<|E+b,j,H,⟨I,?_⟩,⟨rfl,rfl⟩,B,λd f=>(g d f).1⟩⟩;rw[IJ]
 done:=by
  intro a k n o p b G h x j VD l g X r;subst k n o;let@⟨s,t,D,v,z,A⟩:=g VH ↥0;exact wpAny_pyNext_range_end (l.ok.hd p) X (by have:w<=b:=r;lia) λVB J=>⟨rfl,l.turned (We:=h.toks) (λd m f c=>J d m f c) s t v z A⟩
 self:=λ_ U U U U X e=>wpAny_pyIter_rangeiter X e
section
variable{a:aK}{Wh:bt}
def JA{VI:fq->aA->Prop}{E VF:Int}{I J u:h_}{Wq:Nat}(l:aH a G x j h)(A : -(2^62)<=E)(C:E<2^62)(e : -(2^62)<=VF)(f:VF<2^62)(p:VI (uC E (VF-E).toNat) j):wpAny (aW a.prog a.w) a.A (vF<|.ref h.heap.objs.size) (C3 a G x Wh VI) VD {h with heap:=h.heap.push {cls:=.type "range",data:=.fields #[.int E I,.int VF J,.int 1 u]},toks:=Wq}:=by
 refine wpAny_pyIter_range (IsRange.new ..) (small_one A C e f) ?_;have b:aH a G x j {h with heap:=h.heap.push {cls:=.type "range",data:=.fields #[.int E I,.int VF J,.int 1 u]},toks:=Wq}:=l.kept λd m c=>b4 _ c;refine⟨(h.heap.push {cls:=.type "range",data:=.fields #[.int E I,.int VF J,.int 1 u]}).objs.size,[(h.heap.push {cls:=.type "range",data:=.fields #[.int E I,.int VF J,.int 1 u]}).objs.size],_,_,j,rfl,
  b.kept (We:=Wq) λd m c=>b4 _ c,LJ _ E (VF-E).toNat,?_,λd g=>?_,p⟩
 ·have i:E+((0:Nat):Int)*1=E:=by simp
  have k:(((VF-E).toNat:Nat):Int)-((0:Nat):Int)=bx.Range.rangeSize E VF 1:=by rw[rangeSize_one];split<;>lia
  show IsRangeIter _ _ (E+((0:Nat):Int)*1) ((((VF-E).toNat:Nat):Int)-((0:Nat):Int)) 1;rw[i,k];exact dr _ rfl
 ·have c:d=(h.heap.push {cls:=.type "range",data:=.fields #[.int E I,.int VF J,.int 1 u]}).objs.size:=by simpa using g
  subst c;exact b.rV (bT _) (b.aX.fresh<|bT _)
def UN(Wu:fp):b2:=(λx j VI=>Wu x j λT VL=>∃v:Int,T=[.int v] /\ -(2^62)<=v/\v<2^62/\VI (uC 0 v.toNat) VL)
def SM{g:bt}{o:Pos}(d:eG a "range")(f:a.aB "range" = Y)(i:hA a [g] Wu)(VN:bP [g] a.env=[(aq,b_ g a.env)]:=by rfl):lq a Wh (.Call (.Name "range" o) [g] [] VT) (UN Wu):=by
 intro G h x j VI l e;refine Call_ (ra l d f boot_range<|t8 (b0 (i VT G h x j _ l e) λVZ s ⟨T,VL,k,m,b⟩=>?_) VN rfl);let⟨@v,c,b,n,p⟩:=b;subst c;cases m with
 |cons r q=>
  cases q;let⟨@I,rfl⟩:=r;exact call_range_1 (JA k ⋯ ⋯ b n ⇑p)
def Jp(W2:b2)(L:g6)(a_:eQ):eQ:=(λk x j=>W2 x j λWk VL=>∃W:Nat->Nat->a8->aA->Prop,(∃H,W 0 H x VL)/\∀b H x j,W b H x j->
 (Wk.stop b j/\k.aI x j)\/(Wk.go b j/\∃VX:a8->aA->Prop,(∀a Q,VX a Q->∃c,c<H/\W (b+1) c a Q)/\∀f Q,Wk.pR b j f Q->L f x Q λd V0=>a_ {k with aI:=VX,cI:=VX,dO:=k.aI} d V0))
def n2(cF:List ae)(e:aY):List (ae×bc):=(cF.filterMap λd=>(e.get? d).map λm=>(d,m))
def tH{m:bc}(a:d∈cF)(c:e.get? d=Z m):(d,m)∈n2 cF e:=F2.mpr ⟨d,a,by rw[c];rfl⟩
def GU{o:ae×bc}(a:o∈n2 cF e):o.1∈cF/\e.get? o.1=Z o.2:=by
 let⟨@d,b,c⟩:=F2.mp a;cases p:e.get? d with
 |none=>rw[p]at c;cases c
 |some m=>
  rw[p]at c;have f:(d,m)=o:=Option.some.inj c;subst f;exact⟨b,p⟩
def aH.pinned(l:aH a G x j h)(f:∀d∈cF,ku a G j d)(g:∀d∈cF,∃m,h.heap.get? d=Z m/\∀u,m.data≠.cell u):aH a (G++n2 cF h.heap) x j h:=
 l.qj λo k=>(dy.mp k).elim (λi=>l.pin o<|ez _ i) λi=>by
  let@⟨b,c⟩:=GU i;let@⟨n,p,q,_⟩:=f o.1 b;let⟨@m,e,s⟩:=g o.1 b;rw[c]at e;cases e;exact⟨c,n,p,q,s⟩
def aH.yj{bA:List (ae×bc)}(l:aH a (G++bA) x j h):aH a G x j h:=l.qj λo b=>l.pin o (ez _<|eL _ b)
def BU{WG:bt}{W2:b2}{L:g6}{a_:eQ}(t:pZ (aW a.prog a.w) a.A a.env a.cQ)(S:a.calm=V)(VF:lq a Wh WG W2)(a1:ks a Wh L)(g:gD a WU a_)(VN:∀f,mQ WG a.env f=pure f:=by intro P;rfl):ht a (.For Wh WG WU [] VT) (Jp W2 L a_):=by
 intro G h x j k l e;refine wpAny_For (b0 (VF G h x j _ l e) λu fd A=>b0 A λfn fr C=>?_) VN;let⟨VH,cF,B,Wk,@V0,c,a2,F,bd,T,⟨@W,⟨@be,jW⟩,turn⟩⟩:=C;subst c;have I:∀{Q:aA},(∀d∈cF,Q d=Y)->∀d∈cF,ku a G Q d:=λbi d g=>⟨bi d g,(T d g).2⟩;refine codeAny_forLoop_any (λw VE=>∃b v Q,aH a G v Q VE/\B b VE.heap/\(∀d∈cF,Q d=Y)/\W b w v Q) ?_ be ⟨0,x,V0,a2,bd,λd g=>(T d g).1,jW⟩;rintro w U ⟨b,z,E,al,am,an,fA⟩;rcases turn b w z E fA with ⟨stop,bm⟩|⟨go,VX,bn,step⟩
 ·refine o1 t (b0 (F.done a rfl rfl rfl S b G U z E a.cQ al (I an) am stop) λr bs q=>?_);let@⟨M,bv⟩:=q;subst M;exact q6 ⟨z,E,bv,bm⟩
 ·refine o1 t (b0 (F.item a rfl rfl rfl S b G U z E a.cQ al (I an) am go) λr bs q=>?_);let⟨@J,M,ca⟩:=q;subst M;refine o1 t (b0 ca λ_ ap q=>?_);let⟨f,@as,cd,nB,ce,O,ch⟩:=q;have ci:=cd.pinned (I ch) (F.obj _ _ O);refine o1 t (b0 (a1 _ ap z as f J _ ci nB<|step f as ce) λ_ cl q=>?_);let⟨co,@cr,cs,db⟩:=q;refine o1 t (b0 (g _ cl co cr _ cs db) λN R p=>?_);have again:∀{i:a8}{n:aA},aH a (G++n2 cF ap.heap) i n R->VX i n->∃H,H<w/\∃b v Q,aH a G v Q R/\B b R.heap/\(∀d∈cF,Q d=Y)/\W b H v Q:=λ{i n} o D=>by
   let⟨@ds,dL,eq⟩:=bn i n D;refine⟨ds,dL,b+1,i,n,o.yj,F.keep _ _ _ O λd g m c=>(o.pin (d,m)<|ez _<|ez _<|tH g c).1,λd g=>?_,eq⟩;let⟨@m,c,s⟩:=F.obj _ _ O d g;exact (o.pin (d,m)<|ez _<|ez _<|tH g c).2.1
  cases N with
  |next=>let⟨i,@n,o,D⟩:=p;exact again o D
  |cont=>let⟨i,@n,o,D⟩:=p;exact again o D
  |brk=>let⟨i,@n,o,p⟩:=p;exact⟨i,n,o.yj,p⟩
  |ret u=>let⟨ev,i,@n,o,ex,p⟩:=p;exact⟨ev,i,n,o.yj,ex,p⟩
end
abbrev b3:=ar->ar->aA->cN->Prop
variable{Wz r:b3}
def d1(a:aK)(N:af->af->eo af)(r:b3):Prop:=(
 ∀(G:List (ae×bc)) (h:ao) (x:a8) (j:aA) (f t:ar) (u J:af) (D:cN),aH a G x j h->cq f u->cq t J->r f t j D->
  wpAny (aW a.prog a.w) a.A (N u J) (eP a G x D) a.cQ h)
def zS(a:aK)(N:af->eo af)(r:ar->aA->cN->Prop):Prop:=(
 ∀(G:List (ae×bc)) (h:ao) (x:a8) (j:aA) (f:ar) (u:af) (D:cN),aH a G x j h->cq f u->r f j D->
  wpAny (aW a.prog a.w) a.A (N u) (eP a G x D) a.cQ h)
def eY(a:aK)(N:af)(r:List ar->aA->cN->Prop):Prop:=(
 ∀(G:List (ae×bc)) (h:ao) (x:a8) (j:aA) (z:List ar) (VZ:List af) (D:cN),aH a G x j h->bY z VZ->r z j D->
  wpAny (aW a.prog a.w) a.A (call N VZ) (eP a G x D) a.cQ h)
def MN(a:aK)(r:ar->aA->(Bool->aA->Prop)->Prop):Prop:=(
 ∀(G:List (ae×bc)) (h:ao) (x:a8) (j:aA) (f:ar) (u:af) (D:Bool->aA->Prop),aH a G x j h->cq f u->r f j D->
  wpAny (aW a.prog a.w) a.A (truthy u) (wM a G x D) a.cQ h)
def v8(r:b3)(Wu a_:cf):cf:=(λx j D=>Wu x j λf VL=>a_ x VL λt V0=>r f t V0 D)
def L_(r:ar->aA->cN->Prop)(Wu:cf):cf:=(λx j D=>Wu x j λf VL=>r f VL D)
def ql(aG:Int->Int->Prop)(L:Int->Int->ar):b3:=(λf t j D=>∃b v,f=.int b/\t=.int v/\aG b v/\D (L b v) j)
def mL(L:Int->Int->ar):b3:=(λf t j D=>∃b v,f=.int b/\t=.int v/\D (L b v) j)
def IM(L:Int->ar):ar->aA->cN->Prop:=(λf j D=>∃b,f=.int b/\D (L b) j)
section
variable{a:aK}{g d n:bt}{Wu a_ df:cf}{VT:Pos}
def Ay(i:bW a g Wu)(k:bW a d a_){G:List (ae×bc)}{h:ao}{x:a8}{j:aA}{VI:ar->ar->aA->Prop}(l:aH a G x j h)(e:Wu x j λf VL=>a_ x VL λt V0=>VI f t V0){D:af->ao->Prop}{N:af->af->eo af}(m:∀u J b f t V0,aH a G x V0 b->cq f u->cq t J->VI f t V0->wpAny (aW a.prog a.w) a.A (N u J) D a.cQ b):
  wpAny (aW a.prog a.w) a.A (b_ g a.env) (λu n=>wpAny (aW a.prog a.w) a.A (b_ d a.env) (λJ o=>wpAny (aW a.prog a.w) a.A (N u J) D a.cQ o) a.cQ n) a.cQ h:=by
 refine b0 (i G h x j _ l e) λu p c=>?_;let⟨f,@VL,q,r,s⟩:=c;refine b0 (k G p x VL _ q s) λJ b c=>?_;let⟨t,@V0,v,z,B⟩:=c;exact m u J b f t V0 v r z B
def PU{Wr:y_}(b:d1 a (gn Wr) r)(c:bW a g Wu)(i:bW a d a_):bW a (.BinOp g Wr d VT) (v8 r Wu a_):=by
 intro G h x j D l e;exact wpAny_BinOp (Ay c i l e λu J k f t V0 m n o p=>b G k x V0 f t u J D m n o p)
def Le{Wr:UnaryOp}{r:ar->aA->cN->Prop}(b:zS a (unaryOp Wr) r)(c:bW a g Wu):bW a (.UnaryOp Wr g VT) (L_ r Wu):=by
 intro G h x j D l e;exact UnaryOp_ (b0 (c G h x j _ l e) λu d ⟨f,VL,i,k,m⟩=>b G d x VL f u D i k m)
def wQ{aG:Int->Int->Prop}(c:∀(b v:Int) (I J:h_) (h:ao) (D:af->ao->Prop) (VD:af->ao->Prop),aG b v->D (.int (L b v) h.toks) {h with toks:=h.toks+1}->wpAny (aW a.prog a.w) a.A (N (.int b I)<|.int v J) D VD h):
  d1 a N (ql aG λb v=>.int<|L b v):=by
 intro G h x j f t u J D l d g e;let⟨b,@v,rfl,rfl,i,p⟩:=e;let⟨@I,rfl⟩:=d;let⟨@We,rfl⟩:=g;exact c b v I We h _ _ i ⟨.int<|L b v,j,l.tok _,⟨_,rfl⟩,p⟩
def Ih(c:∀(b v:Int) (I J:h_) (h:ao) (D:af->ao->Prop) (VD:af->ao->Prop),D (.int (L b v) h.toks) {h with toks:=h.toks+1}->wpAny (aW a.prog a.w) a.A (N (.int b I)<|.int v J) D VD h):
  d1 a N (mL λb v=>.int<|L b v):=by
 intro G h x j f t u J D l d g e;let⟨b,@v,rfl,rfl,p⟩:=e;let⟨@I,rfl⟩:=d;let⟨@We,rfl⟩:=g;exact c b v I We h _ _ ⟨.int<|L b v,j,l.tok _,⟨_,rfl⟩,p⟩
def uf{L:Int->Int->Bool}(c:∀(b v:Int) (I J:h_) (h:ao) (D:af->ao->Prop) (VD:af->ao->Prop),D (.bool<|L b v) h->wpAny (aW a.prog a.w) a.A (N (.int b I)<|.int v J) D VD h):
  d1 a N (mL λb v=>.aF<|L b v):=by
 intro G h x j f t u J D l d g e;let⟨b,@v,rfl,rfl,p⟩:=e;let⟨@I,rfl⟩:=d;let⟨@We,rfl⟩:=g;exact c b v I We h _ _ ⟨.aF<|L b v,j,l,rfl,p⟩
def Kt(b v:Int):Prop:=(0<v/\v<1073741824)
def Rk(b v:Int):Prop:=(0<=v/\v<=1000000/\b.natAbs<2^64)
def NN:d1 a (gn .Add) (mL λb v=>.int<|b+v):=Ih λ_ W W W W W W p=>add_int p
def M7:d1 a (gn .Sub) (mL λb v=>.int<|b-v):=Ih λ_ W W W W W W p=>sub_int p
def Pc:d1 a (gn .FloorDiv) (ql Kt λb v=>.int<|b/v):=wQ λb v W W W W W c p=>by
 have A:(0:Int)<v:=c.1;have C:v<1073741824:=c.2;exact floordiv_int ⋯ (by rw[Int.fdiv_eq_ediv_of_nonneg b ⋯];exact p) (.inl (PyProof.noPylong_small ⋯))
def Tb:d1 a (gn .Mod) (ql (λ_ v=>0<v) λb v=>.int<|b%v):=wQ λb v W W W W W c p=>by
 have A:(0:Int)<v:=c;exact mod_int' ⋯ (by rw[Int.fmod_eq_emod_of_nonneg b ⋯];exact p)
def Ob:d1 a (gn .Pow) (ql Rk λb v=>.int<|b^v.toNat):=wQ λ_ W W W W W W c p=>pow_int_small c.1 c.2.1 c.2.2 p
def TH{N:af->eo af}{L:Int->Int}(c:∀(b:Int) (I:h_) (h:ao) (D:af->ao->Prop) (VD:af->ao->Prop),D (.int (L b) h.toks) {h with toks:=h.toks+1}->wpAny (aW a.prog a.w) a.A (N<|.int b I) D VD h):
  zS a N (IM λb=>.int<|L b):=by
 intro G h x j f u D l d e;let⟨@b,rfl,p⟩:=e;let⟨@I,rfl⟩:=d;exact c b I h _ _ ⟨.int<|L b,j,l.tok _,⟨_,rfl⟩,p⟩
def Uk:zS a (unaryOp .USub) (IM λb=>.int<|-b):=TH λ_ W W W W p=>neg_int p
def QF{D:cN}{q b:Bool}(l:aH a G x j h)(p:D (.aF q) j)(c:q=b):eP a G x D (.bool b) h:=by
 subst c;exact⟨.aF q,j,l,rfl,p⟩
def Q3:d1 a (ea .Lt) (mL λb v=>.aF<|decide (b<v)):=uf λ_ W W W W W W p=>lt_int p
def U6:d1 a (ea .LtE) (mL λb v=>.aF<|decide (b<=v)):=uf λ_ W W W W W W p=>le_int p
def MZ:d1 a (ea .Gt) (mL λb v=>.aF<|decide (v<b)):=uf λ_ W W W W W W p=>gt_int p
def M3:d1 a (ea .GtE) (mL λb v=>.aF<|decide (v<=b)):=uf λ_ W W W W W W p=>ge_int p
def UL:d1 a (ea .IsNot) (λf t j D=>t=.aS/\D (.aF<|!decide (f=.aS)) j):=by
 intro G h x j f t u J D l b c e;let@⟨rfl,p⟩:=e;cases c;refine isnot_none_gen (QF l p ?_);cases f<;>first
  | (cases b;rfl)
  | (let⟨@I,rfl⟩:=b;rfl)
def d1.or(e:d1 a N r)(VB:d1 a N Wz):d1 a N (λf t j D=>r f t j D\/Wz f t j D):=by
 intro G h x j f t u J D l b c p;rcases p with p|p
 ·exact e G h x j f t u J D l b c p
 ·exact VB G h x j f t u J D l b c p
def e7(d:bt){Wr:l9}(e:Wr≠.In:=by decide)(C:Wr≠.NotIn:=by decide):qc Wr d=aq:=by
 have a:(Wr==l9.In)=aq:=by cases Wr<;>first|rfl|exact absurd rfl e
 have b:(Wr==l9.NotIn)=aq:=by cases Wr<;>first|rfl|exact absurd rfl C
 cases d<;>simp[qc,a,b]
def Mw(b:d1 a (ea Wr) r)(c:bW a g Wu)(i:bW a d a_)(k:qc Wr d=aq):bW a (.Compare g [Wr] [d] VT) (v8 r Wu a_):=by
 intro G h x j D l e;exact wpAny_Compare1 (Ay c i l e λu J m f t V0 n o q p=>b G m x V0 f t u J D n o q p) k
def Cm(I:cf):eE:=(λx j D=>I x j λf Q=>∃q,f=.aF q/\D q Q)
def Sa(b:d1 a (ea Wr) r)(k:bW a g Wu)(m:bW a d a_)(o:qc Wr d=aq):hO a (.Compare g [Wr] [d] VT) (Cm<|v8 r Wu a_):=by
 intro G h x j D l e;refine wpAny_isTrue_Compare1 (b0 (k G h x j _ l e) λu p ⟨f,VL,s,v,w⟩=>b0 (m G p x VL _ s w) λJ y ⟨t,V0,z,A,B⟩=>
  b0 (b G y x V0 f t u J _ z v A B) λn I ⟨i,C,E,F,q,c,H⟩=>?_) o;subst c;cases F;exact kP ⟨C,E,H⟩
def Aw(r Wz:b3)(Wu a_ df:cf):cf:=(λx j D=>Wu x j λf VL=>a_ x VL λt V0=>r f t V0 λi a=>∃q,i=.aF q/\
 (if q=V then df x a λb c=>Wz t b c D else D (.aF aq) a))
def O5(p:d1 a (ea Wr) r)(v:d1 a (ea W6) Wz)(w:bW a g Wu)(y:bW a d a_)(z:bW a n df)(A:uO [Wr,W6] [d,n]=aq:=by with_unfolding_all rfl):bW a (.Compare g [Wr,W6] [d,n] VT) (Aw r Wz Wu a_ df):=by
 intro G h x j D l e;refine Compare_chain (b0 (w G h x j _ l e) λu B ⟨f,VL,C,E,F⟩=>chain_link (b0 (y G B x VL _ C F) λJ H ⟨t,V0,I,b,L⟩=>
  b0 (p G H x V0 f t u J _ I E b L) λs M ⟨i,k,m,N,q,c,o⟩=>?_)) A;subst c;cases N;refine kP ?_;cases q with
 |false=>exact ite_ff ⟨.aF aq,k,m,rfl,o⟩
 |true=>exact ite_tt (chain_last<|b0 (z G M x k _ m o) λO P ⟨Q,R,S,T,U⟩=>v G P x R t Q J O D S b T U)
def Qa(p:d1 a (ea Wr) r)(v:d1 a (ea W6) Wz)(w:bW a g Wu)(y:bW a d a_)(z:bW a n df)(A:uO [Wr,W6] [d,n]=aq:=by with_unfolding_all rfl):hO a (.Compare g [Wr,W6] [d,n] VT) (Cm<|Aw r Wz Wu a_ df):=by
 intro G h x j D l e;refine isTrue_chain (b0 (w G h x j _ l e) λu B ⟨f,VL,C,E,F⟩=>test_link (b0 (y G B x VL _ C F) λJ H ⟨t,V0,I,b,L⟩=>
  b0 (p G H x V0 f t u J _ I E b L) λs M ⟨i,k,m,N,q,c,o⟩=>?_)) A;subst c;cases N;refine kP ?_;cases q with
 |false=>
  let⟨@bd,O,P⟩:=o;cases O;exact ite_ff ⟨k,m,P⟩
 |true=>
  refine ite_tt (test_last<|b0 (z G M x k _ m o) λQ R ⟨S,T,U,al,am⟩=>b0 (v G R x T t S J Q _ U b al am) λbe bi an=>?_);let⟨bm,@ap,as,nB,⟨@Wd,a1,a2⟩⟩:=an;subst a1;cases nB;exact kP ⟨ap,as,a2⟩
def yz(R:Φ)(f:ar)(j:aA)(q:Bool):Prop:=(
 match f with
 |.aS=>q=aq
 |.aF d=>q=d
 |.int b=>q=(b != 0)
 |.str t=>t.length<=sizeLine/\q=((t.length:Int) != 0)
 |.rm t=>t.size<=sizeLine/\q=((t.size:Int) != 0)
 |.ref o=>(∃z,dv R j o z/\q=!z.isEmpty)\/(∃z,cu R j o z/\q=!z.isEmpty)\/∃VS,j o=Z (.dR VS)/\q=!VS.isEmpty
 |_=>False)
def QK{V6:Type}{VS:List (V6×ar)}{T:List (V6×af)}(r:gb VS T):(!T.isEmpty)=!VS.isEmpty:=by
 cases r<;>rfl
def FP{VP:List af}(r:bY z VP):(!VP.toArray.isEmpty)=!z.isEmpty:=by
 cases r<;>simp
def oU:(sizeLine:Nat)<2^63:=by rw[vi];decide
def Ug:MN a (λf j D=>∃q,yz a.K f j q/\D q j):=by
 intro G h x j f u D l i e;let⟨@q,c,p⟩:=e;have A:=oU;have VN:sizeLine=16777216:=vi;cases f with
 |aS=>
  cases i;have g:q=aq:=c;subst g;exact truthy_none ⟨j,l,p⟩
 |aF d=>
  cases i;have g:q=d:=c;subst g;exact kP ⟨j,l,p⟩
 |int b=>
  let⟨@I,rfl⟩:=i;have g:q=(b != 0):=c;subst g;exact PySem.P.truthy_int ⟨j,l,p⟩
 |str t=>
  let⟨@I,rfl⟩:=i;obtain⟨s,g⟩:t.length<=sizeLine/\q=((t.length:Int) != 0):=c;subst g;exact PySem.P.truthy_str ⋯ ⟨j,l.tok _,p⟩
 |rm t=>
  let⟨@I,rfl⟩:=i;obtain⟨s,g⟩:t.size<=sizeLine/\q=((t.size:Int) != 0):=c;subst g;exact PySem.W.truthy_bytes ⋯ ⟨j,l.tok _,p⟩
 |ref o=>
  cases i;have g:(∃z,dv a.K j o z/\q=!z.isEmpty)\/(∃z,cu a.K j o z/\q=!z.isEmpty)\/∃VS,j o=Z (.dR VS)/\q=!VS.isEmpty:=c;rcases g with ⟨z,k,g⟩|⟨z,k,g⟩|⟨VS,k,g⟩
  ·subst g;let⟨@VP,r,bA,m⟩:=l.list k;have n:=r.length;exact wpAny_truthy_list bA.isList (by simp only[cX];lia) ⟨j,l.tok _,by rw[FP r];exact p⟩
  ·subst g;let⟨@VP,r,bA,m⟩:=l.tuple k;have n:=r.length;exact truthy_tuple bA (by simp only[cX];lia) ⟨j,l.tok _,by rw[FP r];exact p⟩
  ·subst g;obtain⟨m,v,T,r,H⟩:VS.length<=sizeLine/\(o==jf)=aq/\∃T,gb VS T/\h.heap.DictOf (nt a.prog a.w) o T:=l.aX o _ k;have n:VS.length=T.length:=eA.length r;exact wpAny_truthy_dict v H ⋯ ⟨j,l.tok _,by rw[QK r];exact p⟩
 |_=>exact (show False from c).elim
def Rt(c:bW a g Wu)(d:∀b,qf g a.env b=(do let u <-b;standAt g.pos;holding [u] (truthy u))):
  hO a g (λx j D=>Wu x j λf Q=>∃q,yz a.K f Q q/\D q Q):=by
 intro G h x j D l e;exact isTrue_plain (b0 (c G h x j _ l e) λu i ⟨f,VL,k,m,n⟩=>Ug G i x VL f u D k m n) (d _)
def OG:d1 a (gn .Add) (λf t j D=>∃b v,f=.str b/\t=.str v/\b.length+v.length<=sizeLine/\D (.str<|b++v) j):=by
 intro G h x j f t u J D l c d e;let⟨b,@v,rfl,rfl,g,p⟩:=e;let⟨@I,rfl⟩:=c;let⟨@We,rfl⟩:=d;exact add_str (λWe Wq=>⟨.str<|b++v,j,l.tok _,⟨_,rfl⟩,p⟩) g
def ih{f:ar}(r:bY [f] VZ):∃J,VZ=[J]/\cq f J:=by
 cases r with
 |cons a b=>cases b;exact⟨_,rfl,a⟩
def tl{f:ar}(r:bY [f,t] VZ):∃J a,VZ=[J,a]/\cq f J/\cq t a:=by
 cases r with
 |cons b c=>
  cases c with
  |cons d e=>cases e;exact⟨_,_,rfl,b,d⟩
def Ml(d:a.calm=V):eY a (.builtin "max") (λz j D=>∃b v,z=[.int b,.int v]/\D (.int<|if v>b then v else b) j):=by
 intro G h x j z VZ D l r e;let⟨b,@v,rfl,p⟩:=e;let⟨J,@f,rfl,⟨@I,rfl⟩,⟨@We,rfl⟩⟩:=tl r;refine max_two_ints (l.ok.hd d) λVB Wq q=>⟨_,j,l.kept q,?_,p⟩;by_cases c:v>b
 ·rw[aJ c,aJ c];exact⟨_,rfl⟩
 ·rw[aP c,aP c];exact⟨_,rfl⟩
def O1(d:a.calm=V):eY a (.builtin "min") (λz j D=>∃b v,z=[.int b,.int v]/\D (.int<|if v<b then v else b) j):=by
 intro G h x j z VZ D l r e;let⟨b,@v,rfl,p⟩:=e;let⟨J,@f,rfl,⟨@I,rfl⟩,⟨@We,rfl⟩⟩:=tl r;refine min_two_ints (l.ok.hd d) λVB Wq q=>⟨_,j,l.kept q,?_,p⟩;by_cases c:v<b
 ·rw[aJ c,aJ c];exact⟨_,rfl⟩
 ·rw[aP c,aP c];exact⟨_,rfl⟩
def Pq:eY a (.type "int") (λz j D=>(∃b,z=[.int b]/\D (.int b) j)\/∃q,z=[.aF q]/\D (.int<|if q then 1 else 0) j):=by
 intro G h x j z VZ D l r e;rcases e with ⟨b,rfl,p⟩|⟨q,rfl,p⟩
 ·let⟨@J,rfl,⟨@I,rfl⟩⟩:=ih r;exact call_int_int ⟨.int b,j,l,⟨_,rfl⟩,p⟩
 ·let⟨@J,rfl,c⟩:=ih r;cases c;exact call_int_bool ⟨.int<|if q then 1 else 0,j,l.tok _,⟨_,rfl⟩,p⟩
end
def k4.some_of{m:Option af}(r:k4 (Z u) m):∃J,m=Z J/\cq u J:=by
 cases m with
 |none=>exact (show False from r).elim
 |some J=>exact⟨J,rfl,r⟩
structure ep(q:Nat)(P:bE):Prop where
 hd:P.handled=Y
 w8:P.depth+3*q+5<Ey
 un:P.units+16*q+200<b9
 Ht:P.guards=Z []
def ep.mono(r:ep q P)(e:v<=q):ep v P:=⟨r.hd,by have:=r.w8;lia,by have:=r.un;lia,r.Ht⟩
def ep.deeper(r:ep (q+1) P)(VC:eg):ep q (P.deeper VC):=
 ⟨r.hd,by have:=r.w8;show P.depth+1+3*q+5<_;lia,by have:=r.un;show P.units+3+16*q+200<_;lia,r.Ht⟩
def ep.depth(r:ep q P):P.depth<Ey:=by have:=r.w8;lia
def Rl:fp:=(λ_ j D=>D [] j)
def Lj(Wu:cf)(a:fp):fp:=(λx j D=>Wu x j λf VL=>a x VL λz V0=>D (f::z) V0)
section
variable{a:aK}{c:bt}{U:List bt}{ck:cf}{I:fp}{VT:Pos}
def zD:hA a [] Rl:=λ_ W W W j D l e=>Calls.spliced_nil ⟨[],j,l,.nil,e⟩
def w0(d:bW a c ck)(g:hA a U I)(VN:bP (c::U) a.env=(aq,b_ c a.env)::bP U a.env:=by rfl):hA a (c::U) (Lj ck I):=by
 intro VT G h x j D l e;rw[VN];show wpAny _ _ (spliced ((aq,b_ c a.env)::fE VT (bP U a.env))) _ _ h;refine Calls.spliced_cons (b0 (d G h x j _ l e) λJ i b=>?_);let⟨f,@VL,k,m,n⟩:=b;refine b0 (g VT G i x VL _ k n) λVZ r b=>?_;let⟨z,@V0,o,p,q⟩:=b;exact⟨f::z,V0,o,.cons m p,q⟩
def Pf(I:fp):cf:=(λx j D=>I x j λz VL=>z.length<=sizeLine/\∀o,VL o=Y->D (.ref o) (upd VL o<|.tup z))
def S9(I:fp):cf:=(λx j D=>I x j λz VL=>z.length<=sizeLine/\∀o,VL o=Y->D (.ref o) (upd VL o<|.lst z))
def Oj{g}(e:hA a U I):bW a (.Tuple U g VT) (Pf I):=by
 intro G h x j D l k;refine wpAny_Tuple_spliced (b0 (e VT G h x j _ l k) λVZ b ⟨z,VL,f,r,i,p⟩=>⟨by rw[<-r.length];exact i,?_⟩);have m:VL b.heap.objs.size=Y:=f.aX.fresh (bT _);refine⟨.ref b.heap.objs.size,upd VL b.heap.objs.size<|.tup z,f.laid (We:=b.toks) (λd J c=>b4 _ c) (bT _) ?_,rfl,p _ m⟩;exact⟨i,VZ,r,⟨_,dr _ rfl,rfl,_,rfl⟩⟩
def RJ(e:hA a U I):bW a (.List U VT) (S9 I):=by
 intro G h x j D l g;refine wpAny_List_spliced (b0 (e VT G h x j _ l g) λVZ b ⟨z,VL,f,r,i,p⟩=>⟨by rw[<-r.length];exact i,?_⟩);have k:VL b.heap.objs.size=Y:=f.aX.fresh (bT _);refine⟨.ref b.heap.objs.size,upd VL b.heap.objs.size<|.lst z,f.laid (We:=b.toks) (λd J c=>b4 _ c) (bT _) ?_,rfl,p _ k⟩;exact⟨i,VZ,0,r,dr _ rfl⟩
end
abbrev kf:=List ar->aA->cN->fV->Prop
abbrev jV:=List eg->aA->ao->fV->af->ao->Prop
variable{WS:jV}
structure w1(VJ:bF)(y:bj)(R:Φ)(aB:aD->Option af)(VM:aY)(P:bE)(Wg:List eg)(h:ao)(j:aA):Prop where
 frames:P.frames=Z Wg
 mod:Mod R aB VM
 bs:∀d m,VM.get? d=Z m->h.heap.get? d=Z m/\j d=Y
 jz:VM.objs.size<=h.heap.objs.size
 gJ:h.heap.FunFrames VM Wg
 kk:∀d∈dT Wg,j d=Y
 aX:dG VJ y j h.heap
 bare:ll h.gens
def yp(Wg:List eg)(VJ:bF)(y:bj)(j:aA)(h:ao)(D:cN)(J:af)(VE:ao):Prop:=(
 ∃u Q,VE.os=h.os/\ll VE.gens/\dX (dT Wg) [] j Q h.heap VE.heap/\dG VJ y Q VE.heap/\cq u J/\D u Q)
def UP(WS:jV)(Wg:List eg)(VJ:bF)(y:bj)(j:aA)(h:ao)(D:cN)(VD:fV)(r:u7)(VE:ao):Prop:=(
 match r with
 |.ok (.ret J)=>yp Wg VJ y j h D J VE
 |.ok _=>False
 |.error c=>WS Wg j h VD c VE)
structure hg(VJ:bF)(y:bj)(R:Φ)(aB:aD->Option af)(VM:aY)(WS:jV)(q:Nat)(N:ae)(fd:gR)(VQ:List aD)(sp:kf):Prop where
 len:∀T j D VD,sp T j D VD->T.length=VQ.length
 run:∀(P:bE) (Wg:List eg) (h:ao) (j:aA) (args:Args) (VZ:List af) (T:List ar) (D:cN) (VD:fV),ep q P->w1 VJ y R aB VM P Wg h j->nq h fd args (VQ.zip VZ)->bY T VZ->sp T j D VD->
  codeAny (aW VJ y) P (.call (.ref N) args) (UP WS Wg VJ y j h D VD) h
section
variable{a:aK}{G:List (ae×bc)}{x:a8}{j:aA}{h VE:ao}
def aH.Hc(l:aH a G x j h):w1 a.prog a.w a.K a.aB a.base a.A a.stack h j:=
 ⟨l.ok.frames,l.ok.mod,l.bs,fv l.ok.jz l.je,l.stack,l.rR,l.aX,l.bare⟩
def aH.after{D:cN}(l:aH a G x j h)(e:yp a.stack a.prog a.w j h D J VE):eP a G x D J VE:=by
 let⟨u,@Q,VV,b,un,aX,r,p⟩:=e;let⟨c,L,s,I,f⟩:=VE;obtain rfl:f=h.os:=VV;exact⟨u,Q,l.call (VB:=c) (g:=L) (s:=s) (We:=I) (WM:=[]) un aX b (λd i=>absurd i ↥0),r,p⟩
end
def zW(sp:kf)(i:List ar)(VD:fV)(I:fp):cf:=(λx j D=>I x j λT VL=>sp (T++i) VL D VD)
def iG(R:Φ)(fd:gR)(VQ:List aD)(B:List af):Prop:=(
 ∀(h:ao) (VZ:List af),R.In h.heap->(VZ++B).length=VQ.length->nq h fd ⟨VZ,[]⟩ (VQ.zip<|VZ++B))
def iG.all{fd:gR}(e:∀VZ:List af,VZ.length=VQ.length->nh fd ⟨VZ,[]⟩=pure (VQ.zip VZ)):iG R fd VQ []:=λh VZ W a=>by
 rw[cj]at a ⊢;exact .of_eq (e VZ a)
def w5(WS:jV)(a:aK)(VD:fV):Prop:=(∀(G:List (ae×bc)) (x:a8) (j:aA) (h:ao) (c:af) (VE:ao),aH a G x j h->WS a.stack j h VD c VE->a.cQ c VE)
section
variable{a:aK}{WS:jV}{q:Nat}{N aG:ae}{fd:gR}{VQ:List aD}{sp:kf}{i:List ar}{B:List af}{VD:fV}{f H:aD}{o VT E:Pos}{c m:bt}{U:List bt}{Wu:cf}{I:fp}
def FD{D:cN}(O:hg a.prog a.w a.K a.aB a.base WS q N fd VQ sp)(f:ep q a.A)(g:iG a.K fd VQ B)(hd:bY i B)(k:w5 WS a VD)(l:aH a G x j h)(r:bY T VZ)(e:sp (T++i) j D VD):wpAny (aW a.prog a.w) a.A (call (.ref N) VZ) (eP a G x D) a.cQ h:=by
 have d:bY (T++i) (VZ++B):=r.append hd;have m:(VZ++B).length=VQ.length:=by rw[<-d.length];exact O.len _ _ _ _ e
 refine wpAny_call (uq (O.run a.A a.stack h j ⟨VZ,[]⟩ (VZ++B) (T++i) D VD f l.Hc (g h VZ l.kp m) d e) λr VE b=>?_);cases r with
 |error c=>exact k G x j h c VE l b
 |ok a3=>
  cases a3 with
  |ret J=>exact l.after b
  |next=>exact False.elim b
  |brk=>exact False.elim b
  |cont=>exact False.elim b
def RD(O:hg a.prog a.w a.K a.aB a.base WS q N fd VQ sp)(d:ep q a.A)(g:eG a f)(k:a.aB f=Z (.ref N))(m:Θ a.K (.ref N)=V)(n:iG a.K fd VQ B)(hd:bY i B)(s:w5 WS a VD)(t:hA a (c::U) I)(u:(f==("__debug__" : aD))=aq:=by decide)(v:bP (c::U) a.env=(aq,b_ c a.env)::bP U a.env:=by rfl)(z:(fE VT<|bP U a.env).any (·.1)=aq:=by rfl):
  bW a (.Call (.Name f o) (c::U) [] VT) (zW sp i VD I):=by
 intro G h x j D l e;refine rd (wI l g k ?_ u);refine Ac (h₀:=a.base) l.ok.mod.qE m (b0 (t VT G h x j _ l e) λVZ E ⟨T,VL,b,r,p⟩=>⟨b.kp,?_⟩) v z;exact FD O d n hd s b r p
end
structure kU(VX VJ:List aD)(l:hp):Prop where
 kind:l.kind=.function
 co:l.isCoroutine=aq
 gen:l.isGenerator=aq
 ah:VX.Nodup
 pre:VX.take VJ.length=VJ
 par:∀f∈VJ,l.names.lookup f=Z .local\/l.names.lookup f=Z .cell
 Ql:∀t∈l.names,t.2≠.free
theorem Bc{a:aD->Option da}{f:aD}:∀{binds:List (aD×af)}{H:aD->Option af},(∀u,(f,u)∉binds)->bindL a binds H f=H f
 |[],_,_=>rfl
 | (w,u)::r,H,e=>by
  unfold bindL;rw[Bc λy b=>e y<|l5 _ b];split
  ·have:f≠w:=by rintro rfl;exact e u nD
   simp[this]
  ·rfl
theorem HV{a:aD->Option da}{f:aD}:∀{binds:List (aD×af)}{H:aD->Option af},(∀u,(f,u)∉binds)->bindC a binds H f=H f
 |[],_,_=>rfl
 | (w,u)::r,H,e=>by
  unfold bindC;rw[HV λy b=>e y<|l5 _ b];split
  ·rfl
  ·have:f≠w:=by rintro rfl;exact e u nD
   simp[this]
theorem D5{a:aD->Option da}{f:aD}{u:af}:∀{VJ:List aD}{T:List af}{b:Nat}{H:aD->Option af},VJ.Nodup->VJ[b]?=Z f->T[b]?=Z u->a f=Z .local->
  bindL a (VJ.zip T) H f=Z u
 |[],_,_,_,_,e,_,_=>by simp at e
 |_::_,[],_,_,_,_,e,_=>by simp at e
 |o::VJ,y::T,0,H,ah,A,C,c=>by
  simp at A C;subst A;subst C;show bindL a ((o,y)::VJ.zip T) H o=_;unfold bindL;rw[Bc λu d=>(hN.mp ah).1 (n5 d).1,aJ c];simp
 |o::VJ,y::T,b+1,H,ah,A,C,c=>by
  show bindL a ((o,y)::VJ.zip T) H f=_;unfold bindL;exact D5 (b:=b) (hN.mp ah).2 ⇑A ⇑C c
theorem Dd{a:aD->Option da}{f:aD}{u:af}:∀{VJ:List aD}{T:List af}{b:Nat}{H:aD->Option af},VJ.Nodup->VJ[b]?=Z f->T[b]?=Z u->a f≠Z .local->
  bindC a (VJ.zip T) H f=Z u
 |[],_,_,_,_,e,_,_=>by simp at e
 |_::_,[],_,_,_,_,e,_=>by simp at e
 |o::VJ,y::T,0,H,ah,A,C,c=>by
  simp at A C;subst A;subst C;show bindC a ((o,y)::VJ.zip T) H o=_;unfold bindC;rw[HV λu d=>(hN.mp ah).1 (n5 d).1,aP c];simp
 |o::VJ,y::T,b+1,H,ah,A,C,c=>by
  show bindC a ((o,y)::VJ.zip T) H f=_;unfold bindC;exact Dd (b:=b) (hN.mp ah).2 ⇑A ⇑C c
def start(VX:List aD)(T:List ar):a8:=(T.map Z++replicate (VX.length-T.length) Y)
def iS(WS:jV)(VJ:bF)(y:bj)(R:Φ)(aB:aD->Option af)(VM:aY)(VX:List aD)(WH:aD)(V1:hp)(N:ae)(WZ:af)(P:bE)(Wg:List eg)(h:ao)(j:aA)(VD:fV):aK where
 prog:=VJ
 w:=y
 K:=R
 aB:=aB
 base:=VM
 A:=P.deeper (iT WH V1 h.heap.objs.size N WZ)
 N:=VX
 eS:=h
 pY:=j
 env:=iT WH V1 h.heap.objs.size N WZ
 outer:=Wg
 stack:=iT WH V1 h.heap.objs.size N WZ::Wg
 ex:=[]
 calm:=V
 fn:=λ_=>V
 hk:=[]
 cQ:=λc VE=>wpAny (aW VJ y) (P.deeper<|iT WH V1 h.heap.objs.size N WZ) (leaving (iT WH V1 h.heap.objs.size N WZ) c) (λ_ a=>WS Wg j h VD c a) (λb a=>WS Wg j h VD b a) VE
def G1{l:hp}(e:l.names.lookup f=Z .cell):∃n,(yK w l.names []).lookup f=Z n:=by
 have p:=Hl l.names w [] (.inl e);exact DA.mp p
def Nc{N:ae}{WZ:af}{Wg:List eg}{s:ao}{VD:fV}(VU:kU VX VQ V1)(hd:P.handled=Y)(a:w1 VJ y R aB VM P Wg h j)(F:T.length=VQ.length)(r:bY T VZ)(f:InCallC h h.heap.objs.size (bindL (iT WH V1 h.heap.objs.size N WZ).kindOf (VQ.zip VZ) λ_=>Y) (yK (h.heap.objs.size+1) V1.names []) (bindC (iT WH V1 h.heap.objs.size N WZ).kindOf (VQ.zip VZ) λ_=>Y) s):
  aH (iS WS VJ y R aB VM VX WH V1 N WZ P Wg h j VD) [] (start VX T) j s:=by
 have G:VQ.length<=VX.length:=by have:=congrArg List.length VU.pre;rw[h5]at this;lia
 let⟨A,@Wq,rfl,v⟩:=f.done;have m:∀d:ae,d∉(iS WS VJ y R aB VM VX WH V1 N WZ P Wg h j VD).ex:=λd i=>absurd (show d∈([]:List ae) from i) ↥0;refine⟨⟨a.mod,VU.kind,rfl,rfl,bT _,λt i n A C=>?_,λt k=>?_,λt n W e=>?_,λ_=>hd,bE.frames_deeper a.frames,.inr ⟨rfl,rfl⟩,λd i=>absurd i<|m d,a.bs,a.jz,λd W W=>m d,λd i=>absurd i<|m d,a.gJ,a.kk⟩,
  rfl,a.bare,dX.kept v,⟨_,f.toInCall.ns,λb t u A C H=>?_⟩,λt n e=>⟨_,f.cell t n e⟩,a.aX.fresh<|bT _,λt n e=>?_,λo l=>absurd (show o∈([]:List (ae×bc)) from l) ↥0,a.aX.kept v,?_⟩
 ·exact name_of_addr f.apart (PySem.mem_of_lookup A) (PySem.mem_of_lookup C)
 ·have k:V1.names.lookup t=Z .cell\/V1.names.lookup t=Z .free:=k;rcases k with k|k
  ·exact G1 k
  ·exact absurd rfl (VU.Ql _<|PySem.mem_of_lookup k)
 ·exact tE (f.above t n<|PySem.mem_of_lookup e)
 ·have VF:b<T.length:=by
   unfold start at C;by_cases VF:b<T.length
   ·exact VF
   ·rw[q3 ⇑VF]at C;rw[List.getElem?_replicate]at C;split at C<;>cases C
  have B:T[b]?=Z u:=by
   unfold start at C;rw[pl ⇑VF,hb]at C;cases c:T[b]? with
   |none=>rw[c]at C;cases C
   |some g=>rw[c]at C;cases C;rfl
  let⟨@J,x,D⟩:=r.get B;have l:VQ[b]?=Z t:=by
   rw[<-VU.pre,List.getElem?_take_of_lt ⋯];exact A
  have z:VQ.Nodup:=by rw[<-VU.pre];exact VU.ah.sublist (wi _ _)
  refine⟨J,D,?_⟩;rcases VU.par t (jJ l) with q|q
  ·exact .inl ⟨q,D5 z l x q⟩
  ·let⟨@n,c⟩:=G1 (w:=h.heap.objs.size+1) q;refine .inr ⟨.inl q,n,c,?_⟩;have p:=f.cell t n c;rw[Dd z l x (by show V1.names.lookup t≠_;rw[q];decide)]at p;exact p
 ·exact a.aX.fresh (tE<|f.above t n<|PySem.mem_of_lookup e)
 ·unfold start;show _=VX.length;rw[d7,bB,List.length_replicate];lia
def HM{N:ae}{name:aD}{i:Arguments}{n cT k Wa Wm cI C:af}{F A:Option ae}{W7:Array (Option af)}{sp:kf}(lk:R.lookup N=Z ⟨C,A,.func<|Ξ name WH i WU V1 n cT k Wa F Wm cI,W7⟩)(x:Ω R Wm WH=V)(VU:kU VX VQ V1)(len:∀T j D VD,sp T j D VD->T.length=VQ.length)(z:∀(P:bE) (Wg:List eg) (h:ao) (j:aA) (T:List ar) (D:cN) (VD:fV),ep q (P.deeper<|iT WH V1 h.heap.objs.size N Wm)->sp T j D VD->
   ∃I,gD (iS WS VJ y R aB VM VX WH V1 N Wm P Wg h j VD) WU I/\I {aI:=λ_ Q=>D .aS Q,cB:=D} (start VX T) j):
  hg VJ y R aB VM WS (q+1) N (Ξ name WH i WU V1 n cT k Wa F Wm cI) VQ sp:=by
 refine⟨len,λP Wg h j args VZ T D VD e a B r o=>?_⟩;have G:=len _ _ _ _ o;have s:R.In h.heap:=a.mod.qE.keeps λd m c=>(a.bs d m c).1;have H:h.heap.NoLimit:=a.mod.nolimit.keeps λd m c=>(a.bs d m c).1;have L:∀t∈VQ.zip VZ,V1.names.lookup t.1=Z .local\/(V1.names.lookup t.1=Z .cell/\((yK (h.heap.objs.size+1) V1.names []).lookup t.1).isSome=V):=λ⟨w,u⟩ M=>by
  rcases VU.par w (n5 M).1 with p|p
  ·exact .inl p
  ·exact .inr ⟨p,Hl _ _ _<|.inl p⟩
 refine codeAny_call_function e.depth (s _ _ lk) rfl VU.co VU.gen rfl (PySem.W.codeRec_of s x) (B _ _ _ _ ?_);refine wpAny_newFunctionEnv_cells VU.kind L λVC O v f=>?_;subst O;refine⟨H.keeps f.toInCall.keep,codeAny_func ?_⟩;let⟨@I,S,U⟩:=z P Wg h j T D VD (e.deeper _) o;have l:aH (iS WS VJ y R aB VM VX WH V1 N Wm P Wg h j VD) [] (start VX T) j v:=Nc VU e.hd a G r f;refine gT (S [] v (start VX T) j _ l U) (λa3 VE VN=>?_) λc VE VN=>VN;have fin:∀{b:a8}{Q:aA}{u:ar}{J:af},aH (iS WS VJ y R aB VM VX WH V1 N Wm P Wg h j VD) [] b Q VE->cq u J->D u Q->yp Wg VJ y j h D J VE:=
  λ{b Q u J} Wk g p=>⟨u,Q,Wk.os,Wk.bare,Wk.base,Wk.aX,g,p⟩;cases a3 with
 |ret J=>
  let⟨u,b,@Q,Wk,g,p⟩:=VN;exact fin Wk g p
 |next=>
  let⟨b,@Q,Wk,p⟩:=VN;exact fin (u:=ar.aS) (J:=af.none) Wk rfl p
 |brk=>
  let⟨K,@K,K,p⟩:=VN;exact False.elim p
 |cont=>
  let⟨K,@K,K,p⟩:=VN;exact False.elim p
section
variable{a:aK}{f:aD}{o VT:Pos}{c:bt}{U:List bt}{I:fp}{id F:String}{r:List ar->aA->cN->Prop}
def Bd(r:List ar->aA->cN->Prop)(I:fp):cf:=(λx j D=>I x j λT VL=>r T VL D)
def Ca(b:eY a (.builtin id) r)(d:eG a f)(g:a.aB f=Y)(i:fR f=Z (.builtin id))(k:hA a (c::U) I)(m:f ≠ "__name__" := by decide)(n:(f==("__debug__" : aD))=aq:=by decide)(p:bP (c::U) a.env=(aq,b_ c a.env)::bP U a.env:=by rfl)(q:(fE VT<|bP U a.env).any (·.1)=aq:=by rfl):bW a (.Call (.Name f o) (c::U) [] VT) (Bd r I):=by
 intro G h x j D l e;refine rd (ra l d g i ?_ m n);exact Um (b0 (k VT G h x j _ l e) λVZ s ⟨T,VL,t,u,v⟩=>b G s x VL T VZ D t u v) p q
def KP(b:eY a (.type F) r)(d:eG a f)(g:a.aB f=Y)(i:fR f=Z (.type F))(k:hA a (c::U) I)(m:f ≠ "__name__" := by decide)(n:(f==("__debug__" : aD))=aq:=by decide)(p:bP (c::U) a.env=(aq,b_ c a.env)::bP U a.env:=by rfl)(q:(fE VT<|bP U a.env).any (·.1)=aq:=by rfl):bW a (.Call (.Name f o) (c::U) [] VT) (Bd r I):=by
 intro G h x j D l e;refine rd (ra l d g i ?_ m n);exact t8 (b0 (k VT G h x j _ l e) λVZ s ⟨T,VL,t,u,v⟩=>b G s x VL T VZ D t u v) p q
end
end L2
namespace dz
open PyProof.Rows
variable{VF E:Option Int}{i cA:af}{a6 I:ae}{D:af->ao->Prop}
theorem MR(P:bE)(h:ao)(g:Int)(I:h_)(n:Int)(J:h_)(VO:bF)(y:bj)(VD:af->ao->Prop)(D:af->ao->Prop)(e:D (.bool<|decide (g<n)) h):
  wpAny (aW VO y) P (kT .Lt (.int g I)<|.int n J) D VD h:=
 (QW e:wpAny (aW VO y) P (ea .Lt (.int g I)<|.int n J) D VD h)
section
open PySem.SeqAt
open PySem.AutoSeq1 (wpAny_loadPart')
open PySem.MeetsSeq PySem.MeetsSeq2 PySem.MeetsSeq3
end
section
variable{VO:bF}{y:bj}{P:bE}{VD:af->ao->Prop}{h:ao}
def Mo{d:ae}{T a:List af}(p:o9 h.heap I T.toArray)(q:o9 h.heap d a.toArray)(g:T≠[])(A:a=[]->D (.ref I) h)(C:a≠[]->D (.ref h.heap.objs.size) {h with heap:=h.heap.push {cls:=.type "tuple",data:=.seq (T++a).toArray} })(r:T.length+a.length<=sizeLine):wpAny (aW VO y) P (gn .Add (.ref I)<|.ref d) D VD h:=by
 let⟨@⟨cls,i,data,a6⟩,b,j,⟨@w,hd⟩⟩:=id p;let⟨@⟨s,k,data2,l⟩,e,m,⟨@n,o⟩⟩:=id q;simp only at j hd m o;subst j hd m o;have c:T.toArray++a.toArray=(T++a).toArray:=by simp
 by_cases f:a=[]
 ·exact yA ⟨_,b,rfl⟩ ⟨_,e,rfl⟩ zG Ag AV xn (Ae _ _)
   (tuple_addW1 I d T.toArray a.toArray w n i k a6 l ⇑g (by simp[f])) ⟨b,e,A f⟩
 ·refine yA ⟨_,b,rfl⟩ ⟨_,e,rfl⟩ zG Ag AV xn (Ae _ _)
   (tuple_addW2 I d T.toArray a.toArray w n i k a6 l ⇑g ⇑f (by rw[cX,cX];exact r)) ⟨b,e,?_⟩;rw[c];exact C f
def cy(w s:Nat):Option Int->Nat
 |none=>s
 |some u=>if u<0 then (u+(w:Int)).toNat else min u.toNat w
def Bj(w s:Nat):cy w s Y=s:=rfl
def Io(w s q:Nat):cy w s (Z (q:Int))=min q w:=by
 show (if (q:Int)<0 then ((q:Int)+(w:Int)).toNat else min (q:Int).toNat w)=min q w;rw[aP ⋯,rg]
def Qq(w s:Nat)(hd:s<=w)(m:Option Int):cy w s m<=w:=by
 cases m with
 |none=>exact hd
 |some u=>
  show (if u<0 then (u+(w:Int)).toNat else min u.toNat w)<=w;by_cases a:u<0
  ·rw[aJ a];lia
  ·rw[aP a];exact Nat.min_le_right _ _
def Ig(u:Int)(w s:Nat):(if u<0 then max (u+(w:Int)) 0 else min u (w:Int))=((cy w s (Z u):Nat):Int):=by
 show (if u<0 then max (u+(w:Int)) 0 else min u (w:Int))=(((if u<0 then (u+(w:Int)).toNat else min u.toNat w):Nat):Int);by_cases a:u<0
 ·simp only[aJ a];lia
 ·simp only[aP a];lia
def M9(E VF:Option Int)(w:Nat):bx.Slice.sliceAdjust E VF 1 (w:Int)=(((cy w 0 E:Nat):Int),((cy w w VF:Nat):Int)):=by
 have A:¬ ((1:Int)<0):=⋯
 unfold bx.Slice.sliceAdjust;simp only[A,fy];refine el ?_ ?_
 ·cases E with
  |none=>rfl
  |some u=>exact Ig u w 0
 ·cases VF with
  |none=>rfl
  |some u=>exact Ig u w w
def RT(b v:Nat):bx.Slice.slicePlaces (b:Int) (v:Int) 1=v-b:=by
 unfold bx.Slice.slicePlaces;have A:(1:Int)>0:=⋯
 simp only[A,fl,Int.ediv_one];split<;>lia
def FI{u:af}{m:Option Int}{D:Option Int->ao->Prop}(o:lD u m)(e:D m h):wpAny (aW VO y) P (bx.Slice.slicePartIndex u) D VD h:=by
 cases o with
 |none=>exact DQ e
 |int b I=>exact slicePart_int e
def Dl{w:Nat}{D:Int×Int×Nat->ao->Prop}(VN:h.heap.IsSliceOf a6 cA i .none)(bA:lD cA E)(c:lD i VF)(e:D (((cy w 0 E:Nat):Int),1,cy w w VF-cy w 0 E) h):wpAny (aW VO y) P (bx.Slice.sliceApplied (.ref a6)<|pure (w:Int)) D VD h:=by
 let⟨@VV,a,d,b⟩:=id VN;unfold bx.Slice.sliceApplied bx.Slice.sliceFields;refine ax (ax<|fU a b (x:=cA) rfl<|ax<|fU a b (x:=i) rfl<|ax<|fU a b (x:=.none) rfl<|ba ?_);refine ax (DQ ?_);show wpAny _ _ (if ((1:Int)==0)=V then _ else _) _ _ h;rw[aP ∅];refine ax (FI bA<|ax<|FI c<|ax<|ba ?_);show wpAny _ _ (match bx.Slice.sliceAdjust E VF 1 (w:Int) with|(E,VF)=>pure (E,(1:Int),bx.Slice.slicePlaces E VF 1)) _ _ h;rw[M9 E VF w];show wpAny _ _ (pure (((cy w 0 E:Nat):Int),(1:Int),bx.Slice.slicePlaces ((cy w 0 E:Nat):Int) ((cy w w VF:Nat):Int) 1)) _ _ h;rw[RT];exact ba e
def Q1(z:Array af)(b q:Nat):((range q).filterMap λ(H:Nat)=>z[((b:Int)+(H:Int)*1).toNat]?).toArray=((z.toList.drop b).take q).toArray:=by
 have c:(λ(H:Nat)=>z[((b:Int)+(H:Int)*1).toNat]?)=λH=>z[b+H]?:=by
  funext H;have:((b:Int)+(H:Int)*1).toNat=b+H:=⋯
  rw[this]
 rw[c];have:=pick_run z b q;rw[List.filterMap_map]at this;have a:((λf=>z[f]?) ∘ λf=>b+f)=λH=>z[b+H]?:=rfl;rw[a]at this;rw[this]
def LK{V9:Array af}(a:o9 h.heap I V9)(VN:h.heap.IsSliceOf a6 cA i .none)(bA:lD cA E)(c:lD i VF)(d:¬ (cy V9.size 0 E=0/\cy V9.size V9.size VF=V9.size))(e:D (.ref h.heap.objs.size) {h with heap:=h.heap.push {cls:=.type "tuple",data:=.seq ((V9.toList.drop<|cy V9.size 0 E).take<|cy V9.size V9.size VF-cy V9.size 0 E).toArray} })(l:V9.size<=sizeLine):wpAny (aW VO y) P (nT (.ref I)<|.ref a6) D VD h:=by
 have b:sizeOk (.seq ((V9.toList.drop<|cy V9.size 0 E).take<|cy V9.size V9.size VF-cy V9.size 0 E).toArray):=by
  show ((V9.toList.drop<|cy V9.size 0 E).take<|cy V9.size V9.size VF-cy V9.size 0 E).toArray.size<=sizeLine;rw[cX,h5,gQ,f6];lia
 have m:cy V9.size V9.size VF<=V9.size:=Qq _ _ (bT _) VF;let⟨@VV,f,g,n⟩:=id VN;have j:h.TypeIs (.ref a6) "slice" := ⟨VV,f,g⟩;unfold nT;try with_reducible refine h1 ?_
 first|refine ax (ba ?_)|skip
 refine ax (Bu a.typeIs ∅ ?_);refine ax (kz (name:=aD.ofString "__getitem__") a.typeIs qU
  (iW qU a.typeIs Jb ?_<|Cz _ _));show wpAny _ _ (bx.Tuple.tupleItemsOf (.ref I) >>= _) _ _ h;refine ax (Gz a ?_);refine ax (rN j ?_);rw[aJ ∅];refine ax (Dl VN bA c ?_);have k:¬ ((((cy V9.size 0 E:Nat):Int)==0&&(1:Int)==1&&(cy V9.size V9.size VF-cy V9.size 0 E)==V9.size)=V):=by
  intro p;rw[cV,cV]at p;have o:((cy V9.size 0 E:Nat):Int)=0:=eq_of_beq p.1.1;have q:cy V9.size V9.size VF-cy V9.size 0 E=V9.size:=eq_of_beq p.2;exact d ⟨⋯,⋯⟩
 show wpAny _ _ (if (((cy V9.size 0 E:Nat):Int)==0&&(1:Int)==1&&(cy V9.size V9.size VF-cy V9.size 0 E)==V9.size)=V then _ else _) _ _ h;rw[aP k,Q1];first
  | exact ax (m:=bx.Tuple.tupleExact _) (i0 (ba ⟨_,rfl,ba e⟩) b)
  | exact ax (m:=bx.Tuple.tupleExact _) (i0 (ax<|ba<|ba ⟨_,rfl,ba e⟩) b)
  | exact ax (ax (m:=bx.Tuple.tupleExact _)<|i0 (ba<|ba ⟨_,rfl,ba e⟩) b)
  | exact ax (ax (m:=bx.Tuple.tupleExact _)<|i0 (ba ⟨_,rfl,ba e⟩) b)
end
end dz
namespace L2
open Spec PyProof.Rows
variable{VB:aY}{D:af->ao->Prop}{Q j:aA}{VS:List (List ab×ar)}{y:bj}{VJ:bF}{m:Option ar}{We w:Nat}{S VP VZ:List af}{o:ae}{h:ao}{x:a8}{G:List (ae×bc)}{r:b3}{V7:Type}{b:Int}{z:List (List ab×ae×af)}
abbrev bQ:=a8->aA->(Option Int->aA->Prop)->Prop
def A9(a:aK)(c:Option bt)(I:bQ)(G:List (ae×bc)):Prop:=(
 ∀(h:ao) (x:a8) (j:aA) (D:Option Int->aA->Prop),aH a G x j h->I x j D->
  wpAny (aW a.prog a.w) a.A (evalPart c a.env) (λJ VE=>∃m Q,aH a G x Q VE/\lD J m/\D m Q) a.cQ h)
def qd(a:aK)(c:Option bt)(I:bQ):Prop:=(∀G,A9 a c I G)
def U2:bQ:=(λ_ j D=>D Y j)
def RW(I:cf):bQ:=(λx j D=>I x j λf VL=>∃b,f=.int b/\D (Z b) VL)
section
variable{a:aK}{c:bt}{ck:cf}{E VF:Option bt}{W5 qv:bQ}{VT Wo:Pos}
def K7:qd a Y U2:=by
 intro G h x j D l e;rw[FL];exact ba ⟨Y,j,l,.none,e⟩
def Mh(e:bW a c ck):qd a (Z c) (RW ck):=by
 intro G h x j D l d;rw[evalPart_some];refine b0 (e G h x j _ l d) λJ n g=>?_;let⟨f,@VL,i,k,m⟩:=g;let⟨@b,rfl,p⟩:=m;let⟨@I,rfl⟩:=k;exact⟨Z b,VL,i,.int b I,p⟩
def tm(a:aK)(r:ar->Option Int->Option Int->aA->cN->Prop):Prop:=(
 ∀(G:List (ae×bc)) (h:ao) (x:a8) (j:aA) (f:ar) (u cA i:af) (E VF:Option Int) (a6:ae) (D:cN),aH a G x j h->cq f u->h.heap.IsSliceOf a6 cA i .none->lD cA E->lD i VF->r f E VF j D->
  ∃F id,typeLookup (.type F) "__getitem__" = pure (Z<|.builtin id)/\h.TypeIs u F/\wpAny (aW a.prog a.w) a.A (nT u<|.ref a6) (eP a G x D) a.cQ h)
def Mx(r:ar->Option Int->Option Int->aA->cN->Prop)(ck:cf)(W5 qv:bQ):cf:=(λx j D=>ck x j λf VL=>W5 x VL λM V0=>qv x V0 λJ a=>r f M J a D)
def Md{r:ar->Option Int->Option Int->aA->cN->Prop}(m:tm a r)(n:bW a c ck)(o:qd a E W5)(q:qd a VF qv):bW a (.Subscript c (.Slice E VF Y Wo) VT) (Mx r ck W5 qv):=by
 intro G h x j D l e;refine Subscript_ (b0 (n G h x j _ l e) λu s g=>?_);let⟨f,@VL,t,v,z⟩:=g;refine wpAny_Slice (b0 (o G s x VL _ t z) λcA B ⟨M,V0,C,bA,H⟩=>b0 (q G B x V0 _ C H) λi b g=>?_);let⟨J,@k,I,L,N⟩:=g;rw[FL];refine ba ?_;have O:aH a G x k {b with heap:=b.heap.push {cls:=.type "slice",data:=.fields #[cA,i,.none]} }:=I.kept (We:=b.toks) λd WA p=>b4 _ p;let⟨F,@id,Q,R,S⟩:=m G {b with heap:=b.heap.push {cls:=.type "slice",data:=.fields #[cA,i,.none]} } x k f u cA i M J b.heap.objs.size D O v (aY.IsSliceOf.new ..) bA L N;show wpAny (aW a.prog a.w) a.A (EE c (.Slice E VF Y Wo) u<|.ref b.heap.objs.size) (eP a G x D) a.cQ {b with heap:=b.heap.push {cls:=.type "slice",data:=.fields #[cA,i,.none]} };exact yF (ops:=[.ref b.heap.objs.size,u]) R Q S (by with_unfolding_all rfl)
def nY(z:List ar)(E VF:Option Int):List ar:=((z.drop<|dz.cy z.length 0 E).take (dz.cy z.length z.length VF-dz.cy z.length 0 E))
def Co(z:List ar)(E VF:Option Int):(nY z E VF).length<=z.length:=by
 unfold nY;rw[h5,gQ];lia
def MW(R:Φ):ar->Option Int->Option Int->aA->cN->Prop:=(λf E VF j D=>∃g z,f=.ref g/\cu R j g z/\
 ¬ (dz.cy z.length 0 E=0/\dz.cy z.length z.length VF=z.length)/\∀o,j o=Y->D (.ref o) (upd j o<|.tup<|nY z E VF))
def Ta:tm a (MW a.K):=by
 intro G h x j f u cA i E VF a6 D l n VN bA o e;let⟨g,@z,rfl,q,s,p⟩:=e;cases n;let⟨@VP,r,c,k⟩:=l.tuple q;have b:VP.toArray.size=z.length:=by rw[cX];exact r.length.symm
 refine⟨"tuple",_,qU.lookup,c.typeIs,?_⟩;refine dz.LK c VN bA o (by rw[b];exact s) ?_ (by rw[b];exact k);rw[b];refine⟨.ref h.heap.objs.size,_,l.laid (We:=h.toks) (m:=.tup (nY z E VF)) (λd WA p=>b4 _ p) (bT _) ?_,rfl,p _<|l.aX.fresh<|bT _⟩;exact⟨fv (Co z E VF) k,_,(r.drop<|dz.cy z.length 0 E).take<|dz.cy z.length z.length VF-dz.cy z.length 0 E,n3.new _ _⟩
def P6(R:Φ):b3:=(λf t j D=>∃g d z VR,f=.ref g/\t=.ref d/\cu R j g z/\cu R j d VR/\z≠[]/\z.length+VR.length<=sizeLine/\
 (VR=[]->D (.ref g) j)/\(VR≠[]->∀o,j o=Y->D (.ref o) (upd j o<|.tup<|z++VR)))
def bY.wc{z:List ar}(r:bY z VZ):VZ=[]↔z=[]:=by
 cases r with
 |nil=>simp
 |cons _ _=>simp
def Uv:d1 a (gn .Add) (P6 a.K):=by
 intro G h x j f t u J D l n o e;let⟨g,d,z,@VR,rfl,rfl,q,r,s,k,v,w⟩:=e;cases n;cases o;let⟨@VP,c,A,W⟩:=l.tuple q;let⟨@B,b,Wo,W⟩:=l.tuple r;refine dz.Mo A Wo (λi=>s<|c.wc.mp i) (λi=>⟨.ref g,j,l,rfl,v<|b.wc.mp i⟩) (λi=>?_) (by rw[<-c.length,<-b.length];exact k);refine⟨.ref h.heap.objs.size,_,l.laid (We:=h.toks) (m:=.tup (z++VR)) (λd WA p=>b4 _ p) (bT _) ?_,rfl,w (λy=>i<|b.wc.mpr y) _<|l.aX.fresh<|bT _⟩;exact⟨by rw[d7];exact k,_,c.append b,n3.new _ _⟩
end
def mn(w:Nat)(b:Int):Option Nat:=(if 0<=b then (if b<w then Z b.toNat else Y) else if -(w:Int)<=b then Z (b+w).toNat else Y)
def e5{V7:Type}(z:List V7)(b:Int):Option V7:=((mn z.length b).bind λv=>z[v]?)
def EF{v:Nat}(e:mn w b=Z v):x6 b w=Z v/\v<w /\ -(w:Int)<=b/\b<w:=by
 unfold mn at e;by_cases WE:0<=b
 ·rw[aJ WE]at e;by_cases A:b<w
  ·rw[aJ A]at e;have c:b.toNat=v:=Option.some.inj e;exact⟨by rw[vh WE A,c],⋯,⋯,A⟩
  ·rw[aP A]at e;cases e
 ·rw[aP WE]at e;by_cases A : -(w:Int)<=b
  ·rw[aJ A]at e;have c:(b+w).toNat=v:=Option.some.inj e;exact⟨by rw[z0 ⋯ A,c],⋯,A,⋯⟩
  ·rw[aP A]at e;cases e
def Bm{z:List V7}{u:V7}(e:e5 z b=Z u):∃v,x6 b z.length=Z v/\z[v]?=Z u/\v<z.length /\ -(z.length:Int)<=b/\b<z.length:=by
 unfold e5 at e;cases c:mn z.length b with
 |none=>rw[c]at e;cases e
 |some v=>
  rw[c]at e;let@⟨A,C,a,d⟩:=EF c;exact⟨v,A,e,C,a,d⟩
def uh(d:bt):Prop:=(∀m b,subscripted d aq m b=operate [m,b] (nT m b))
def ij(a:aK)(r:b3):Prop:=(
 ∀(E b:bt) (G:List (ae×bc)) (h:ao) (x:a8) (j:aA) (f t:ar) (u J:af) (D:cN),aH a G x j h->cq f u->cq t J->r f t j D->
  subscripted b aq u J=operate [u,J] (nT u J)->wpAny (aW a.prog a.w) a.A (EE E b u J) (eP a G x D) a.cQ h)
def vL(a:aK)(id:String)(r:ar->List ar->aA->cN->Prop):Prop:=(
 ∀(G:List (ae×bc)) (h:ao) (x:a8) (j:aA) (f:ar) (z:List ar) (u:af) (VZ:List af) (D:cN),aH a G x j h->cq f u->bY z VZ->r f z j D->
  wpAny (aW a.prog a.w) a.A (call (.builtin id) (u::VZ)) (eP a G x D) a.cQ h)
section
variable{a:aK}{g d:bt}{Wu a_:cf}{VT:Pos}
def ij.or{Wz:b3}(e:ij a r)(VB:ij a Wz):ij a (λf t j D=>r f t j D\/Wz f t j D):=by
 intro E b G h x j f t u J D l c d p VN;rcases p with p|p
 ·exact e E b G h x j f t u J D l c d p VN
 ·exact VB E b G h x j f t u J D l c d p VN
def K6(b:ij a r)(c:bW a g Wu)(i:bW a d a_)(VN:uh d):bW a (.Subscript g d VT) (v8 r Wu a_):=by
 intro G h x j D l e;exact Subscript_ (Ay c i l e λu J k f t V0 m n o p=>b g d G k x V0 f t u J D m n o p<|VN _ _)
def JU(R:Φ):b3:=(λf t j D=>∃o z b u,f=.ref o/\t=.int b/\dv R j o z/\e5 z b=Z u/\D u j)
def S0(R:Φ):b3:=(λf t j D=>∃o z b u,f=.ref o/\t=.int b/\cu R j o z/\e5 z b=Z u/\D u j)
def Na:ij a (JU a.K):=by
 intro E F G h x j f t u J D l g k e VN;let⟨o,z,b,@i,rfl,rfl,m,n,p⟩:=e;cases g;let⟨@I,rfl⟩:=k;let⟨@VP,r,bA,H⟩:=l.list m;let⟨@v,A,C,L,q,s⟩:=Bm n;let⟨@y,d,w⟩:=r.get C;have B:=r.length;have M:=oU;have fin:eP a G x D y h:=⟨i,j,l,w,p⟩;by_cases WE:0<=b
 ·have c:b.toNat=v:=by
   rw[vh WE s]at A;exact Option.some.inj A
  exact item_listR bA.isList WE ⋯ (by rw[c];simpa using d) fin VN
 ·have c:(b+(VP.toArray.size:Int)).toNat=v:=by
   rw[z0 ⋯ q]at A;rw[cX,<-B];exact Option.some.inj A
  exact Jj (x:=y) bA.isList.typeIs Cx.lookup
   (wpAny_getItem_list_neg (Q:=λr VE=>r=y/\eP a G x D r VE) bA.isList ⋯ (by rw[cX]<;>lia) ⋯ (by rw[c];simpa using d) ⟨rfl,fin⟩) VN
def H_:ij a (S0 a.K):=by
 intro E s G h x j f t u J D l c d e VN;let⟨o,z,b,@i,rfl,rfl,g,k,p⟩:=e;cases c;let⟨@I,rfl⟩:=d;let⟨@VP,r,bA,w⟩:=l.tuple g;let⟨@v,A,C,B,F,H⟩:=Bm k;let⟨@y,m,n⟩:=r.get C;have q:=r.length;have L:=oU;have fin:eP a G x D y h:=⟨i,j,l,n,p⟩;exact Jj (x:=y) bA.typeIs slot_tuple_getitem.lookup
  (getItem_tuple (j:=v) (Q:=λr VE=>r=y/\eP a G x D r VE) bA ⋯ ⋯ (by rw[cX,<-q];exact A) ⇑m ⟨rfl,fin⟩) VN
def Qe(VP:List af)(w v:Nat)(J:af):bc.mapSeq (·.setIfInBounds v J) {cls:=.type "list",data:=.seq VP.toArray w}={cls:=.type "list",data:=.seq (VP.set v J).toArray w}:=by
 simp[bc.mapSeq]
variable{z:List ar}
def aH.lst(l:aH a G x j h)(e:j o=Z (.lst z)):
  ∃(VP:List af) (w:Nat),bY z VP/\h.heap.get? o=Z {cls:=.type "list",data:=.seq VP.toArray w}/\z.length<=sizeLine:=by
 let@⟨i,⟨VP,@w,r,c⟩⟩:=l.aX o _ e;exact⟨VP,w,r,c,i⟩
def aH.QN{VR:List ar}{b:Nat}{N:bc->bc}(l:aH a G x j h)(e:j o=Z (.lst z))(i:h.heap.get? o=Z {cls:=.type "list",data:=.seq VP.toArray w})(g:N {cls:=.type "list",data:=.seq VP.toArray w}={cls:=.type "list",data:=.seq S.toArray b})(r:bY VR S)(k:VR.length<=sizeLine)(I:Nat):
  aH a G x (upd j o<|.lst VR) {h with heap:=h.heap.update o N,toks:=I}:=by
 have c:(h.heap.update o N).get? o=Z {cls:=.type "list",data:=.seq S.toArray b}:=by
  rw[oI N i (by rw[g]<;>rfl),g]
 refine l.write (f:=o) (c:=o) (by rw[e];trivial) (.inl rfl) (λd J m p=>(iZ _ _<|fI m).trans p) ⟨_,c⟩ ?_;exact⟨k,S,b,r,c⟩
def TA:ar->ar->ar->aA->(aA->Prop)->Prop:=(λm b u j D=>∃o z q v,m=.ref o/\b=.int q/\j o=Z (.lst z)/\mn z.length q=Z v/\D (upd j o<|.lst<|z.set v u))
def Qw:xO a TA:=by
 intro G h x j m b u F H J D l k t y e;let⟨o,z,q,@v,rfl,rfl,g,B,p⟩:=e;cases k;let⟨@I,rfl⟩:=t;let⟨VP,@w,r,c,E⟩:=l.lst g;let@⟨A,C,i,n⟩:=EF B;have d:=r.length;have L:=oU;have s:aH a G x (upd j o<|.lst<|z.set v u) {h with heap:=h.heap.update o (bc.mapSeq (·.setIfInBounds v J))}:=
  l.QN g c (Qe VP w v J) (r.set y v) (by rw[w3];exact E) h.toks;by_cases WE:0<=q
 ·have f:q.toNat=v:=by
   rw[vh WE n]at A;exact Option.some.inj A
  exact PySem.W.ki_setAt c WE ⋯ (by rw[cX,<-d];exact n) (by rw[f];exact⟨_,s,p⟩)
 ·have f:(q+(VP.toArray.size:Int)).toNat=v:=by
   rw[z0 ⋯ i]at A;rw[cX,<-d];exact Option.some.inj A
  exact PySem.W.ki_setBack c ⋯ (by rw[cX,<-d];exact i) ⋯ (by rw[f];exact⟨_,s,p⟩)
def Nd(E VF:Option Int)(w:Nat):(o2 E VF Y w).1=((dz.cy w 0 E:Nat):Int)/\(o2 E VF Y w).2.1=((dz.cy w w VF:Nat):Int)/\(o2 E VF Y w).2.2=1:=by
 refine⟨?_,?_,rfl⟩
 ·cases E with
  |none=>simp[o2,dz.cy]
  |some b=>
   simp only[o2,dz.cy,Ex,show (1:Int)>0 by decide,fl];by_cases e:b<0
   ·simp only[e,fl]<;>lia
   ·simp only[e,fy]<;>lia
 ·cases VF with
  |none=>simp[o2,dz.cy]
  |some b=>
   simp only[o2,dz.cy,Ex,show (1:Int)>0 by decide,fl];by_cases e:b<0
   ·simp only[e,fl]<;>lia
   ·simp only[e,fy]<;>lia
def LG(VP:List af)(E VF:Option Int):slicePick VP.toArray E VF Y=((VP.drop<|dz.cy VP.length 0 E).take<|dz.cy VP.length VP.length VF-dz.cy VP.length 0 E).toArray:=by
 let@⟨A,C,a⟩:=Nd E VF VP.toArray.size;unfold slicePick;rw[A,C,a];simp only[sliceRange_one,pick_run,cX]<;>rfl
def Pn(R:Φ):ar->Option Int->Option Int->aA->cN->Prop:=(λf E VF j D=>∃g z,f=.ref g/\dv R j g z/\∀o,j o=Y->D (.ref o) (upd j o<|.lst<|nY z E VF))
def Gg:tm a (Pn a.K):=by
 intro G h x j f u cA i E VF a6 D l c VN bA k e;let⟨g,@z,rfl,n,p⟩:=e;cases c;let⟨@VP,r,b,o⟩:=l.list n;have q:=r.length;refine⟨"list",_,Cx.lookup,b.isList.typeIs,?_⟩;refine wpAny_getItem_list_slice b.isList VN bA k .none ↥0 ?_ (by rw[cX]<;>lia);rw[LG,<-q];refine⟨.ref h.heap.objs.size,_,l.laid (We:=h.toks) (m:=.lst (nY z E VF)) (λd WA p=>b4 _ p) (bT _) ?_,rfl,p _<|l.aX.fresh<|bT _⟩;exact⟨fv (Co z E VF) o,_,0,(r.drop<|dz.cy z.length 0 E).take<|dz.cy z.length z.length VF-dz.cy z.length 0 E,dr _ rfl⟩
def TM:eY a (.builtin "len") (λz j D=>∃o VR,z=[.ref o]/\(dv a.K j o VR\/cu a.K j o VR)/\D (.int VR.length) j):=by
 intro G h x j z VZ D l r e;let⟨o,@VR,rfl,b,p⟩:=e;let⟨@J,rfl,d⟩:=ih r;cases d;have g:=oU;rcases b with b|b
 ·let⟨@VP,Wz,bA,f⟩:=l.list b;have c:=Wz.length;exact Calls.call_len_list bA.isList (by simp only[cX]<;>lia) ⟨.int VR.length,j,l.tok _,⟨h.toks+1,by rw[cX,c]⟩,p⟩
 ·let⟨@VP,Wz,bA,f⟩:=l.tuple b;have c:=Wz.length;exact len_tuple bA (by simp only[cX]<;>lia) ⟨.int VR.length,j,l.tok _,⟨h.toks+1,by rw[cX,c]⟩,p⟩
def PA:eY a (.builtin "len") (λz j D=>∃i,z=[.str i]/\i.length<=sizeLine/\D (.int i.length) j):=by
 intro G h x j z VZ D l r e;let⟨@i,rfl,b,p⟩:=e;let⟨@J,rfl,⟨@I,rfl⟩⟩:=ih r;have c:=oU;exact len_str ⋯ ⟨.int i.length,j,l.tok _,⟨_,rfl⟩,p⟩
def eY.or{N:af}{r Wz:List ar->aA->cN->Prop}(e:eY a N r)(VB:eY a N Wz):eY a N (λz j D=>r z j D\/Wz z j D):=by
 intro G h x j z VZ D l t p;rcases p with p|p
 ·exact e G h x j z VZ D l t p
 ·exact VB G h x j z VZ D l t p
def LB:eY a (.type "list") (λz j D=>∃o VR,z=[.ref o]/\(dv a.K j o VR\/cu a.K j o VR)/\∀M,j M=Y->D (.ref M) (upd j M<|.lst VR)):=by
 intro G h x j z VZ D l r e;let⟨o,@VR,rfl,f,p⟩:=e;let⟨@J,rfl,n⟩:=ih r;cases n;have fin:∀(VP:List af),bY VR VP->VR.length<=sizeLine->∀(VB:aY) (b:Nat),(∀d Wj,h.heap.get? d=Z Wj->VB.get? d=Z Wj)->
   VB.get? h.heap.objs.size=Z {cls:=.type "list",dict:=Y,data:=.seq VP.toArray b,slots:=#[]}->eP a G x D (.ref h.heap.objs.size) {h with heap:=VB}:=λVP Wz g VB b cL c=>
  ⟨.ref h.heap.objs.size,_,l.laid (We:=h.toks) cL (bT _)<|show fx a.prog a.w _ VB _ (.lst VR) from ⟨g,VP,b,Wz,c⟩,rfl,p _<|l.aX.fresh<|bT _⟩;rcases f with f|f
 ·let⟨@VP,Wz,bA,g⟩:=l.list f;have q:=Wz.length;let⟨@m,i,k,⟨@w,hd⟩⟩:=bA.isList;exact Ek o (.inl rfl) i k hd (λVB b cL c=>fin VP Wz g VB b cL c) (by simp only[cX]<;>lia)
 ·let⟨@VP,Wz,bA,g⟩:=l.tuple f;have q:=Wz.length;let⟨@m,i,k,⟨@w,hd⟩⟩:=bA;exact Ek o (.inr rfl) i k hd (λVB b cL c=>fin VP Wz g VB b cL c) (by simp only[cX]<;>lia)
def Ti:eY a (.type "tuple") (λz j D=>∃o VR,z=[.ref o]/\((dv a.K j o VR/\∀M,j M=Y->D (.ref M) (upd j M<|.tup VR))\/(cu a.K j o VR/\D (.ref o) j))):=by
 intro G h x j z VZ D l r e;let⟨o,@VR,rfl,e⟩:=e;let⟨@J,rfl,i⟩:=ih r;cases i;rcases e with ⟨b,p⟩|⟨b,p⟩
 ·let⟨@VP,Wz,bA,f⟩:=l.list b;have n:=Wz.length;refine call_tuple_list bA.isList (λVB cL=>?_) (by simp only[cX]<;>lia);have g:aH a G x j {h with heap:=VB}:=l.kept (We:=h.toks) cL;have k:aH a G x (upd j VB.objs.size<|.tup VR) {h with heap:=VB.push {cls:=.type "tuple",data:=.seq VP.toArray} }:=
   g.laid (We:=h.toks) (λd m c=>b4 _ c) (bT _) (show fx a.prog a.w _ _ _ (.tup VR) from ⟨f,VP,Wz,n3.new _ _⟩);exact⟨.ref VB.objs.size,_,k,rfl,p _<|g.aX.fresh<|bT _⟩
 ·let⟨@VP,Wz,bA,f⟩:=l.tuple b;exact call_tuple_same bA ⟨.ref o,j,l,rfl,p⟩
def m1(R:Φ)(F:String)(f:ar)(j:aA):Prop:=(match f with
 |.str _=>F = "str"
 |.int _=>F = "int"
 |.ref o=>(F = "list" /\ ∃z,dv R j o z)\/(F = "tuple" /\ ∃m,R.lookup o=Z m/\m.cls=.type "tuple" /\ m.dict=Y)\/
   (F = "dict" /\ ((∃VS,j o=Z (.dR VS))\/∃VS,j o=Z (.aR VS)))\/(F = "set" /\ ∃VU w,j o=Z (.set VU w))
 |_=>False)
def FJ{F:String}{f:ar}{u:af}(l:aH a G x j h)(r:cq f u)(ty:m1 a.K F f j):
  h.TypeIs u F/\∀g,u=.ref g->∃WA,h.heap.get? g=Z WA/\WA.dict=Y:=by
 cases f with
 |str i=>
  let⟨@I,rfl⟩:=r;cases (show F = "str" from ty);exact⟨zO h i I,λ_ c=>nomatch c⟩
 |int b=>
  let⟨@I,rfl⟩:=r;cases (show F = "int" from ty);exact⟨typeIs_int h b I,λ_ c=>nomatch c⟩
 |ref o=>
  cases r;rcases ty with ⟨rfl,z,k⟩|⟨rfl,m,d,p,hd⟩|⟨rfl,d⟩|⟨rfl,VU,w,d⟩
  ·let⟨@VP,W,bA,W⟩:=l.list k;refine⟨bA.isList.typeIs,λg c=>?_⟩;cases c;let⟨m,@w,c,n,hd,W⟩:=bA;exact⟨m,c,hd⟩
  ·refine⟨⟨m,l.kp o m d,p⟩,λg c=>?_⟩;cases c;exact⟨m,l.kp _ m d,hd⟩
  ·have i:∃m,h.heap.get? o=Z m/\m.ExactDict:=by
    rcases d with ⟨VS,d⟩|⟨VS,d⟩
    ·let@⟨_,_,⟨@_,_,⟨m,_,@_,c,Ws,_⟩⟩⟩:=l.aX o _ d;exact⟨m,c,Ws⟩
    ·let@⟨_,_,⟨@_,_,⟨m,_,@_,c,Ws,_⟩⟩⟩:=l.aX o _ d;exact⟨m,c,Ws⟩
   let⟨@m,c,Ws⟩:=i;refine⟨⟨m,c,Ws.1⟩,λg e=>?_⟩;cases e;exact⟨m,c,Ws.2.1⟩
  ·let⟨m,W,W,@W,c,Ws,W⟩:=l.aX o _ d;refine⟨⟨m,c,Ws.1⟩,λg e=>?_⟩;cases e;exact⟨m,c,Ws.2.1⟩
 |_=>exact False.elim ty
def NL(R:Φ)(F:String)(r:ar->List ar->aA->cN->Prop)(i:cf):cf:=(λx j D=>i x j λf VL=>m1 R F f VL/\r f [] VL D)
def Sq(R:Φ)(F:String)(r:ar->List ar->aA->cN->Prop)(i:cf)(I:fp):cf:=(λx j D=>i x j λf VL=>m1 R F f VL/\I x VL λz V0=>r f z V0 D)
variable{m c:bt}{U:List bt}{i:cf}{I:fp}{name:aD}{E WT:Pos}{F id:String}{r:ar->List ar->aA->cN->Prop}
def OM(bU:t6 F)(d:Slot F name id)(g:qb (.builtin id)=pure (.type "method_descriptor"))(k:vL a id r)(n:bW a m i)(o:sk m name a.env (b_ m a.env)=b_ m a.env:=by rfl)(p:(E.endLine==WT.line)=V:=by rfl):bW a (.Call (.Attribute m name E) [] [] WT) (NL a.K F r i):=by
 intro G h x j D l e;refine wpAny_Call_method0_late o p (b0 (n G h x j _ l e) λu q s=>?_);let⟨f,@VL,b,c,ty,t⟩:=s;let@⟨A,C⟩:=FJ b c ty;exact⟨F,id,bU,d,g,A,C,DP rfl<|PySem.evalArgs_none<|k G q x VL f [] u [] D b c .nil t⟩
def G6(bU:t6 F)(n:Slot F name id)(o:qb (.builtin id)=pure (.type "method_descriptor"))(p:vL a id r)(q:bW a m i)(s:hA a (c::U) I)(t:sk m name a.env (b_ m a.env)=b_ m a.env:=by rfl)(v:((fE WT<|bP (c::U) a.env).all (λf=>!f.1)&&(AL WT<|AM [] a.env).all (λf=>f.1.isSome)
   && decide ((c::U).length+([]:List oz).length+(if ([]:List oz).isEmpty then 0 else 1)<30))=V:=by rfl)(w:(E.endLine==WT.line)=V:=by rfl)(VN:bP (c::U) a.env=(aq,b_ c a.env)::bP U a.env:=by rfl)(y:(fE WT<|bP U a.env).any (·.1)=aq:=by rfl):
  bW a (.Call (.Attribute m name E) (c::U) [] WT) (Sq a.K F r i I):=by
 intro G h x j D l e;refine wpAny_Call_method_late t v w rfl (b0 (q G h x j _ l e) λu z b=>?_);let⟨f,@VL,d,g,ty,B⟩:=b;let@⟨A,C⟩:=FJ d g ty;refine⟨F,id,bU,n,o,A,C,?_⟩;have k:=s WT G z x VL _ d B;rw[VN]at k ⊢;refine DP (by show (aq || (fE WT<|bP U a.env).any (·.1))=aq;rw[y]<;>rfl) (HL ?_);refine b0 k λVZ H b=>?_;let⟨T,@V0,J,L,M⟩:=b;exact p G H x V0 f T u VZ D J g L M
end
def vd(a:aK)(id:String)(r:ar->List ar->aA->cN->Prop):Prop:=(
 ∀(G:List (ae×bc)) (h:ao) (x:a8) (j:aA) (f:ar) (z:List ar) (u:af) (VZ:List af) (D:cN),aH a G x j h->cq f u->bY z VZ->r f z j D->
  wpAny (aW a.prog a.w) a.A (call (.builtin id) (u::VZ)) (eP a G x D) a.cQ h)
theorem bY.one:∀{f:ar}{VZ:List af},bY [f] VZ->∃J,VZ=[J]/\cq f J
 |_,_,.cons r .nil=>⟨_,rfl,r⟩
theorem bY.zero:∀{VZ:List af},bY [] VZ->VZ=[]
 |_,.nil=>rfl
def bY.dropLast{z:List ar}(e:bY z VZ):bY z.dropLast VZ.dropLast:=by
 induction e with
 |nil=>exact .nil
 |cons r I a=>
  cases I with
  |nil=>exact .nil
  |cons p We=>exact .cons r a
theorem bY.eraseIdx:∀{z:List ar}{VZ:List af} (b:Nat),bY z VZ->bY (z.eraseIdx b) (VZ.eraseIdx b)
 |_,_,_,.nil=>.nil
 |_,_,0,.cons _ I=>I
 |_,_,b+1,.cons r I=>.cons r (bY.eraseIdx b I)
def bY.reverse{z:List ar}(e:bY z VZ):bY z.reverse VZ.reverse:=by
 induction e with
 |nil=>exact .nil
 |cons r I a=>rw[rr,rr];exact bY.append a (.cons r .nil)
def Ua(M:List V7):M.eraseIdx (M.length-1)=M.dropLast:=by
 induction M with
 |nil=>rfl
 |cons g r a=>
  cases r with
  |nil=>rfl
  |cons d r=>
   have c:(g::d::r).length-1=((d::r).length-1)+1:=by
    have A:(g::d::r).length=r.length+2:=rfl;have C:(d::r).length=r.length+1:=rfl;lia
   rw[c,List.eraseIdx_cons_succ,a];all_goals rfl
theorem CG{V7:Type}:∀(M:List V7) (b:Nat),(M.eraseIdx b).length<=M.length
 |[],_=>bT _
 |_::_,0=>CK _
 |_::r,b+1=>B7 (CG r b)
section
variable{a:aK}{G:List (ae×bc)}{x:a8}{j:aA}{h:ao}{M d:ae}{z VR WO:List ar}
def aH.sq{N:Array af->Array af}(l:aH a G x j h)(b:j M=Z (.lst z))(c:h.heap.get? M=Z {cls:=.type "list",data:=.seq VP.toArray w})(d:N VP.toArray=S.toArray)(e:bY VR S)(g:VR.length<=sizeLine):
  aH a G x (upd j M<|.lst VR) {h with heap:=h.heap.update M (bc.mapSeq N),toks:=We}:=by
 have p:=ES c N;rw[d]at p;refine l.write (f:=M) (c:=M) (by rw[b];exact trivial) (.inl rfl) (λm J i k=>(iZ h.heap (bc.mapSeq N)<|fI i).trans k) ⟨_,p⟩ ?_;exact⟨g,S,_,e,p⟩
def aH.Pw(l:aH a G x j h)(b:bY VR VP)(c:VR.length<=sizeLine):
  aH a G x (upd j h.heap.objs.size<|.lst VR) {h with heap:=h.heap.push {cls:=.type "list",data:=.seq VP.toArray},toks:=We}:=
 l.laid (λ_ W p=>b4 _ p) (bT _) ⟨c,VP,0,b,dr _ rfl⟩
def aH.fresh(l:aH a G x j h):j h.heap.objs.size=Y:=l.aX.fresh (bT _)
def aH.hs(l:aH a G x j h)(b:j M=Z (.lst z)):z.length<=sizeLine/\∃(VP:List af) (w:Nat),bY z VP/\z.length=VP.length/\h.heap.get? M=Z {cls:=.type "list",data:=.seq VP.toArray w}:=by
 let@⟨i,⟨VP,@w,r,c⟩⟩:=l.aX M _ b;exact⟨i,VP,w,r,r.length,c⟩
def QG(e:w<=sizeLine):bx.List.listTooLong w=aq:=by
 unfold bx.List.listTooLong;exact eB ⋯
end
section
variable{a:aK}
def P_:ar->List ar->aA->cN->Prop:=(λf T j D=>∃M z t,f=.ref M/\T=[t]/\j M=Z (.lst z)/\z.length<sizeLine/\D .aS (upd j M<|.lst<|z++[t]))
def NQ:vd a "list.append" P_:=by
 intro G h x j f T u VZ D l d g e;let⟨M,z,@t,rfl,rfl,b,m,p⟩:=e;cases d;let⟨@J,rfl,k⟩:=g.one;let@⟨i,⟨VP,@w,r,n,c⟩⟩:=l.hs b;refine m6 E1 ⟨_,c,rfl⟩ Gs (El _ _) (Ft M VP.toArray w J (by rw[cX];lia)) ⟨c,?_⟩;refine⟨.aS,_,l.sq (S:=VP++[J]) b c ↥0 (r.append<|.cons k .nil) ?_,rfl,p⟩;rw[d7,ko];lia
def SR:ar->List ar->aA->cN->Prop:=(λf T j D=>∃M d z WO,f=.ref M/\T=[.ref d]/\j M=Z (.lst z)/\j d=Z (.lst WO)/\z.length+WO.length<=sizeLine/\D .aS (upd j M<|.lst<|z++WO))
def QR:vd a "list.extend" SR:=by
 intro G h x j f T u VZ D l k m e;let⟨M,d,z,@WO,rfl,rfl,g,n,A,p⟩:=e;cases k;let⟨@J,rfl,o⟩:=m.one;cases o;let@⟨i,⟨VP,@w,r,B,c⟩⟩:=l.hs g;let@⟨C,⟨b,@q,s,E,t⟩⟩:=l.hs n;have v:VP.toArray.size+b.toArray.size<=sizeLine:=by rw[cX,cX];lia
 have y:¬ (!VP.toArray.isEmpty&&bx.List.listTooLong (VP.toArray.size+b.toArray.size))=V:=by
  rw[QG v,F0];exact eu
 refine m6 F.slot_list_extend ⟨_,c,rfl⟩ F.entry_list_extend (F.args_list_extend_2 _ _)
  (AutoSeq1.list_extend_list_list_0 M VP.toArray w d b.toArray q y (by rw[cX];lia) ⋯) ⟨c,t,?_⟩;refine⟨.aS,_,l.sq (S:=VP++b) g c ↥0 (r.append s) ?_,rfl,p⟩;rw[d7];lia
def P8:ar->List ar->aA->cN->Prop:=(λf T j D=>∃M z t,f=.ref M/\T=[]/\j M=Z (.lst z)/\z[z.length-1]?=Z t/\D t (upd j M<|.lst z.dropLast))
def TS:vd a "list.pop" P8:=by
 intro G h x j f T u VZ D l d g e;let⟨M,z,@t,rfl,rfl,b,k,p⟩:=e;cases d;have m:=g.zero;subst m;let@⟨i,⟨VP,@w,r,n,c⟩⟩:=l.hs b;let⟨@J,o,q⟩:=r.get k;have s:VP.toArray[VP.toArray.size-1]?=Z J:=by
  show VP.toArray[VP.length-1]?=Z J;rw[<-hq,<-n];exact o
 refine m6 Hn ⟨_,c,rfl⟩ Il (F.args_list_pop_1 _) (MeetsSeq.list_pop_last M VP.toArray w J s (by rw[cX];lia)) ⟨c,?_⟩;refine⟨t,_,l.sq (S:=VP.dropLast) b c ?_ r.dropLast ?_,q,p⟩
 ·show VP.toArray.eraseIdxIfInBounds (VP.toArray.size-1)=VP.dropLast.toArray;rw[cX,yV,Ua]
 ·rw[List.length_dropLast];lia
def Qz:ar->List ar->aA->cN->Prop:=(λf T j D=>∃M z b q t,f=.ref M/\T=[.int b]/\j M=Z (.lst z) /\ -(2^63)<=b/\b<2^63/\x6 b z.length=Z q/\z[q]?=Z t/\D t (upd j M<|.lst<|z.eraseIdx q))
def T6:vd a "list.pop" Qz:=by
 intro G h x j f T u VZ D l g k e;let⟨M,z,b,q,@t,rfl,rfl,d,A,C,m,n,p⟩:=e;cases g;let⟨@J,rfl,o⟩:=k.one;let⟨@I,rfl⟩:=o;let@⟨i,⟨VP,@w,r,s,c⟩⟩:=l.hs d;let⟨@y,v,B⟩:=r.get n;refine m6 Hn ⟨_,c,rfl⟩ Il (F.args_list_pop_2 _ _)
  (MeetsSeq.list_pop_at M VP.toArray w b I q y (fitsIndex_both A C) (by rw[cX,<-s];exact m) (by rw[<-hq];exact v) (by rw[cX];lia)) ⟨c,?_⟩;refine⟨t,_,l.sq (S:=VP.eraseIdx q) d c ?_ (r.eraseIdx q) ?_,B,p⟩
 ·show VP.toArray.eraseIdxIfInBounds q=(VP.eraseIdx q).toArray;rw[yV]
 ·have:=CG z q;lia
def MK:b3:=(λf t j D=>∃M d z WO,f=.ref M/\t=.ref d/\j M=Z (.lst z)/\j d=Z (.lst WO)/\z.length+WO.length<=sizeLine/\∀o,j o=Y->D (.ref o) (upd j o<|.lst<|z++WO))
def NW:d1 a (gn .Add) MK:=by
 intro G h x j f t u J D l g k e;let⟨M,d,z,@WO,rfl,rfl,m,n,v,p⟩:=e;cases g;cases k;let@⟨i,⟨VP,@w,r,y,c⟩⟩:=l.hs m;let@⟨A,⟨b,@B,o,C,q⟩⟩:=l.hs n;refine PySem.P.add_list c q ?_ (by rw[cX,cX];lia);have s:VP.toArray++b.toArray=(VP++b).toArray:=by simp
 rw[s];exact⟨.ref _,_,l.Pw (We:=h.toks) (r.append o) (by rw[d7];lia),rfl,p _ l.fresh⟩
end
section
variable{V6:Type}[DecidableEq V6]
def iB(VS:List (V6×ar))(q:V6):Option ar:=((VS.find? λa=>decide (a.1=q)).map (·.2))
def hK(VS:List (V6×ar))(q:V6)(u:ar):List (V6×ar):=(
 if (VS.any λa=>decide (a.1=q))=V then VS.map (λa=>if a.1=q then (a.1,u) else a) else VS++[(q,u)])
def uJ{o:V6×ar}{r:List (V6×ar)}{q:V6}(c:o.1=q):iB (o::r) q=Z o.2:=by simp[iB,jb,c]
def ub{o:V6×ar}{r:List (V6×ar)}{q:V6}(c:¬ o.1=q):iB (o::r) q=iB r q:=by simp[iB,jb,c]
theorem FR(q:V6):∀VS:List (V6×ar),(VS.any λa=>decide (a.1=q))=(iB VS q).isSome
 |[]=>rfl
 |o::r=>by
  rw[o6];by_cases c:o.1=q
  ·simp only[uJ c,dJ c,Bool.true_or,Option.isSome_some]
  ·rw[ub c,eB c,Bool.false_or];exact FR q r
def I9(VS:List (V6×ar))(q:V6)(u:ar):(hK VS q u).length<=VS.length+1:=by
 unfold hK;split
 ·rw[bB];lia
 ·rw[d7,dV,tC];lia
def k4.ry{J:Option af}(r:k4 m J):m.isSome=J.isSome:=by
 cases m with
 |none=>cases J with
  |none=>rfl
  |some _=>exact (show False from r).elim
 |some _=>cases J with
  |none=>exact (show False from r).elim
  |some _=>rfl
def gb.val{VS:List (V6×ar)}{T:List (V6×af)}(r:gb VS T)(q:V6):k4 (iB VS q) (n9 T q):=by
 unfold gb at r;induction r with
 |nil=>exact True.intro
 |@cons o p VQ a e I f=>
  let@⟨A,C⟩:=e;by_cases c:o.1=q
  ·have b:p.1=q:=A.symm.trans c;have d:n9 (p::a) q=Z p.2:=by simp[n9,jb,b]
   rw[uJ c,d];exact C
  ·have b:¬ p.1=q:=λi=>c (A.trans i);have d:n9 (p::a) q=n9 a q:=by simp[n9,jb,b]
   rw[ub c,d];exact f
def gb.any{VS:List (V6×ar)}{T:List (V6×af)}(r:gb VS T)(q:V6):(VS.any λa=>decide (a.1=q))=T.any λa=>decide (a.1=q):=by
 unfold gb at r;induction r with
 |nil=>rfl
 |cons e I b=>rw[o6,o6,b,e.1]
def gb.zu{VS:List (V6×ar)}{T:List (V6×af)}(r:gb VS T)(q:V6){t:ar}{J:af}(b:cq t J):
  gb (VS.map λa=>if a.1=q then (a.1,t) else a) (T.map λa=>if a.1=q then (a.1,J) else a):=by
 unfold gb at r ⊢;induction r with
 |nil=>exact .nil
 |@cons o p VQ f e I d=>
  rw[cS,cS];refine .cons ?_ d;let@⟨A,C⟩:=e;by_cases c:o.1=q
  ·rw[aJ c,aJ<|A.symm.trans c];exact⟨A,b⟩
  ·rw[aP c,aP<|λi=>c<|A.trans i];exact⟨A,C⟩
def gb.put{VS:List (V6×ar)}{T:List (V6×af)}(r:gb VS T)(q:V6){t:ar}{J:af}(a:cq t J):gb (hK VS q t) (stored T q J):=by
 unfold hK stored;rw[r.any q];by_cases c:(T.any λb=>decide (b.1=q))=V
 ·rw[aJ c,aJ c];exact r.zu q a
 ·rw[aP c,aP c];exact eA.snoc r ⟨rfl,a⟩
def gb.length{VS:List (V6×ar)}{T:List (V6×af)}(r:gb VS T):VS.length=T.length:=eA.length r
end
def t2{q:eR}{J:af}(r:cq (cT q) J):(nt VJ y).is q J=V:=by
 cases q with
 |inl b=>let⟨@I,c⟩:=(show ∃I,J=af.int b I from r);subst c;exact Te VJ y b I
 |inr f=>let⟨@I,c⟩:=(show ∃I,J=af.str f I from r);subst c;exact Mi VJ y f I
abbrev de(j:aA):List (List ab×ar)->List (List ab×ae×af)->Prop:=eA λo p=>o.1=p.1/\h2 j o.1 p.2.1/\cq o.2 p.2.2
def de.val(r:de j VS z)(q:List ab):k4 (iB VS q) ((kA z q).map (·.2)):=by
 induction r with
 |nil=>exact True.intro
 |@cons o p VQ a e I f=>
  let@⟨A,_,C⟩:=e;by_cases c:o.1=q
  ·have b:p.1=q:=A.symm.trans c;have d:kA (p::a) q=Z p.2:=by simp[kA,jb,b]
   rw[uJ c,d];exact C
  ·have b:¬ p.1=q:=λi=>c (A.trans i);have d:kA (p::a) q=kA a q:=by simp[kA,jb,b]
   rw[ub c,d];exact f
def de.zu(r:de j VS z)(q:List ab){t:ar}{J:af}(b:cq t J):
  de j (VS.map λa=>if a.1=q then (a.1,t) else a) (z.map<|putAt q J):=by
 induction r with
 |nil=>exact .nil
 |@cons o p VQ g e I d=>
  rw[cS,cS];refine .cons ?_ d;let@⟨A,C,f⟩:=e;unfold putAt;by_cases c:o.1=q
  ·rw[aJ c,aJ<|A.symm.trans c];exact⟨A,C,b⟩
  ·rw[aP c,aP<|λi=>c<|A.trans i];exact⟨A,C,f⟩
def de.put(r:de j VS z)(q:List ab){d:ae}{t:ar}{J:af}(b:h2 j q d)(a:cq t J):
  de j (hK VS q t) (storedH z q d J):=by
 have c:(VS.any λe=>decide (e.1=q))=(kA z q).isSome:=by
  rw[FR,(r.val q).ry,vm]
 unfold hK storedH;rw[c];by_cases p:(kA z q).isSome=V
 ·rw[aJ p,aJ p];exact r.zu q a
 ·rw[aP p,aP p];exact eA.snoc r ⟨rfl,b,a⟩
def de.keeps(r:de j VS z)(a:∀d VR,j d=Z (.tup VR)->Q d=Z (.tup VR)):de Q VS z:=
 eA.vc r λ_ W i=>⟨i.1,i.2.1.mono a,i.2.2⟩
section
variable{VJ:bF}{y:bj}{j:aA}{e:aY}{g:ae}
def Bl{J:gm}(ok:dG VJ y j e)(c:lL j g J):fx VJ y j e g J:=c.ok ok
def qk{VS:List (eR×ar)}(ok:dG VJ y j e)(c:lL j g (.dR VS)):VS.length<=sizeLine/\(g==jf)=aq/\∃T,gb VS T/\e.DictOf (nt VJ y) g T:=
 show fx VJ y j e g (.dR VS) from Bl ok c
def Nb{VS:List (eR×ar)}(ok:dG VJ y j e)(c:j g=Z (.dR VS)):VS.length<=sizeLine/\(g==jf)=aq/\∃T,gb VS T/\e.DictOf (nt VJ y) g T:=qk ok (.inl c)
mutual
theorem cM.e8(ok:dG VJ y j e):∀{s:ab}{u:ar}{J:af},cM j s u->cq u J->dB e s J
 |.aS,_,_,c,r=>by cases (show _=ar.aS from c);exact r
 |.aF d,_,_,c,r=>by cases (show _=ar.aF d from c);exact r
 |.int b,_,_,c,r=>by cases (show _=ar.int b from c);exact r
 |.str f,_,_,c,r=>by cases (show _=ar.str f from c);exact r
 |.fn g,_,_,c,r=>by cases (show _=ar.ref g from c);exact r
 |.tup B,_,_,c,r=>by
  let⟨g,@z,rfl,A,C⟩:=c;cases r;let@⟨_,⟨@VP,a,⟨@m,h,i,⟨@w,k⟩⟩⟩⟩:=(show fx VJ y j e g (.tup z) from ok g _ A);exact⟨g,m,VP.toArray,w,rfl,h,(Prod.mk.inj i).1,k,by simpa using bN.e8 ok C a⟩
 |.a3 B,_,_,c,r=>by
  let⟨g,z,@m,rfl,A,C⟩:=c;cases r;exact⟨g,rfl⟩
 |.fd,_,_,c,r=>by
  let⟨g,@m,rfl,A⟩:=c;cases r;exact⟨g,rfl⟩
theorem bN.e8(ok:dG VJ y j e):∀{B:List ab}{T:List ar}{VZ:List af},bN j B T->bY T VZ->eb e B VZ
 |[],_,_,c,r=>by cases (show _=[] from c);cases r;rfl
 |s::B,_,_,c,r=>by
  let⟨u,@I,rfl,A,C⟩:=c;cases r with
  |cons a b=>exact⟨_,_,rfl,cM.e8 ok A a,bN.e8 ok C b⟩
end
def mE{VG:List ab}(ok:dG VJ y j e)(c:h2 j VG g):(hX VJ y).is e VG g:=⟨c.1,c.2.e8 ok rfl⟩
def pq{VJ:bF}{y:bj}{P:bE}(e:P.units+20<b9):(hX VJ y).room P.in1:=show P.units+1+10<b9 by lia
def tp(ok:dG VJ y j e)(c:lL j g (.aR VS)):VS.length<=sizeLine/\(g==jf)=aq/\
  ∃z,de j VS z/\e.DictOfH (hX VJ y) g z:=by
 let@⟨i,t,⟨@z,r,⟨m,U,@WB,A,C,d,h,k⟩⟩⟩:=(show fx VJ y j e g (.aR VS) from Bl ok c);refine⟨i,t,z,r,m,U,WB,A,C,d,h,λf a=>?_,k⟩;have all:∀{M:List (List ab×ar)}{H:List (List ab×ae×af)},de j M H->∀f∈H,(hX VJ y).is e f.1 f.2.1:=by
  intro M H p;induction p with
  |nil=>intro f a;exact nomatch a
  |@cons o p VQ n b I l=>
   intro f a;rcases bO.mp a with c|a
   ·subst c;exact mE ok (by rw[<-b.1];exact b.2.1)
   ·exact l f a
 exact all r f a
def xv(ok:dG VJ y j e)(c:j g=Z (.aR VS)):VS.length<=sizeLine/\(g==jf)=aq/\
  ∃z,de j VS z/\e.DictOfH (hX VJ y) g z:=tp ok (.inl c)
end
def g7(j:aA)(g:ae)(t:ar)(r:Option ar):Prop:=(
 (∃VS q,lL j g (.dR VS)/\t=cT q/\r=iB VS q)\/∃VS q d,lL j g (.aR VS)/\t=.ref d/\h2 j q d/\r=iB VS q)
def pb(j:aA)(g:ae)(t u:ar)(Q:aA):Prop:=(
 (∃VS q,j g=Z (.dR VS)/\t=cT q/\VS.length<sizeLine/\Q=upd j g (.dR<|hK VS q u))\/
 ∃VS q d,j g=Z (.aR VS)/\t=.ref d/\h2 j q d/\VS.length<sizeLine/\Q=upd j g (.aR<|hK VS q u))
def g7.k{j:aA}{g:ae}{VS:List (eR×ar)}{q:eR}(c:j g=Z (.dR VS)):g7 j g (cT q) (iB VS q):=.inl ⟨VS,q,.inl c,rfl,rfl⟩
def g7.t{j:aA}{g d:ae}{VS:List (List ab×ar)}{q:List ab}(c:j g=Z (.aR VS))(a:h2 j q d):g7 j g (.ref d) (iB VS q):=.inr ⟨VS,q,d,.inl c,rfl,a,rfl⟩
def pb.k{j:aA}{g:ae}{VS:List (eR×ar)}{q:eR}{u:ar}(c:j g=Z (.dR VS))(a:VS.length<sizeLine):pb j g (cT q) u (upd j g<|.dR<|hK VS q u):=.inl ⟨VS,q,c,rfl,a,rfl⟩
def pb.t{j:aA}{g d:ae}{VS:List (List ab×ar)}{q:List ab}{u:ar}(c:j g=Z (.aR VS))(a:h2 j q d)(b:VS.length<sizeLine):
  pb j g (.ref d) u (upd j g<|.aR<|hK VS q u):=.inr ⟨VS,q,d,c,rfl,a,b,rfl⟩
section
variable{a:aK}{G:List (ae×bc)}{x:a8}{j:aA}{h:ao}{g:ae}{t u:ar}{J r:af}{m:Option ar}{P:bE}{VD:af->ao->Prop}
def aH.big(l:aH a G x j h):jf<h.heap.objs.size:=by
 have e:d2<h.heap.objs.size:=(l.mod.glob.keeps l.dO).lt;exact BO ∅ e
def Rf(v:P.units+20<b9)(l:aH a G x j h)(L:g7 j g t (Z u))(s:cq t J)(e:∀b VE,aH a G x j VE->cq u b->D b VE):
  wpAny (aW a.prog a.w) P (nT (.ref g) J) D VD h:=by
 rcases L with ⟨VS,q,c,f,M⟩|⟨VS,q,d,c,f,A,M⟩
 ·subst f;let@⟨i,hd,⟨@T,k,n⟩⟩:=qk l.aX c;let⟨@b,p,r⟩:=k4.some_of (u:=u) (m:=n9 T q) (by rw[M];exact k.val q);exact wpAny_getItem_of (t2 s) n.mapOf p (e b _ (l.tok _) r)
 ·subst f;cases (show J=af.ref d from s);let@⟨i,hd,⟨@z,k,n⟩⟩:=tp l.aX c;let⟨@b,p,r⟩:=k4.some_of (u:=u) (m:=(kA z q).map (·.2)) (by rw[M];exact k.val q);let⟨@o,B,C⟩:=cv.mp p;refine F_ (pq v) (mE l.aX A) n B ?_;rw[C];exact e b _ (l.tok _) r
def xT(o:P.units+20<b9)(l:aH a G x j h)(L:g7 j g t m)(n:cq t J)(e:∀VE,aH a G x j VE->D (.bool m.isSome) VE):
  wpAny (aW a.prog a.w) P (ea .In J<|.ref g) D VD h:=by
 rcases L with ⟨VS,q,c,b,M⟩|⟨VS,q,d,c,b,r,M⟩
 ·subst b;let@⟨i,hd,⟨@T,f,k⟩⟩:=qk l.aX c;refine wpAny_in_of (t2 n) hd k.mapOf ?_;rw[<-(f.val q).ry,<-M];exact e _ (l.tok _)
 ·subst b;cases (show J=af.ref d from n);let@⟨i,hd,⟨@z,f,k⟩⟩:=tp l.aX c;refine wpAny_in_heap (pq o) (mE l.aX r) hd k ?_;have p:=(f.val q).ry;rw[vm]at p;rw[<-p,<-M];exact e _ (l.tok _)
def zx(o:P.units+20<b9)(l:aH a G x j h)(L:g7 j g t m)(n:cq t J)(e:∀VE,aH a G x j VE->D (.bool<|!m.isSome) VE):
  wpAny (aW a.prog a.w) P (ea .NotIn J<|.ref g) D VD h:=by
 rcases L with ⟨VS,q,c,b,M⟩|⟨VS,q,d,c,b,r,M⟩
 ·subst b;let@⟨i,hd,⟨@T,f,k⟩⟩:=qk l.aX c;refine wpAny_notIn_of (t2 n) hd k.mapOf ?_;rw[<-(f.val q).ry,<-M];exact e _ (l.tok _)
 ·subst b;cases (show J=af.ref d from n);let@⟨i,hd,⟨@z,f,k⟩⟩:=tp l.aX c;refine wpAny_notIn_heap (pq o) (mE l.aX r) hd k ?_;have p:=(f.val q).ry;rw[vm]at p;rw[<-p,<-M];exact e _ (l.tok _)
def zk{WA:gm}(l:aH a G x j h)(b:sC (j g))(VN:aY.SameBut g h.heap VB)(e:∃p,VB.get? g=Z p)(new:fx a.prog a.w (upd j g WA) VB g WA):
  aH a G x (upd j g WA) {h with heap:=VB,toks:=We}:=
 l.write (f:=g) (c:=g) b (.inl rfl) (λd p k i=>(VN.2 d k).trans i) e new
def Oe{VS:List (eR×ar)}{T:List (eR×af)}(i:VS.length<=sizeLine)(hd:(g==jf)=aq)(a:gb VS T)(b:VB.DictOf (nt VJ y) g T):
  fx VJ y Q VB g (.dR VS):=⟨i,hd,T,a,b⟩
def HA{D:Unit->ao->Prop}(I:P.units+20<b9)(l:aH a G x j h)(L:pb j g t u Q)(B:cq t J)(E:cq u r)(e:∀VE,aH a G x Q VE->D () VE):
  wpAny (aW a.prog a.w) P (wj (.ref g) J r) D VD h:=by
 rcases L with ⟨VS,q,c,m,M,o⟩|⟨VS,q,d,c,m,F,M,o⟩
 ·subst m o;let@⟨i,hd,⟨@T,b,s⟩⟩:=Nb l.aX c;have v:T.length<=sizeLine:=by rw[<-b.length];exact i
  have A:(hK VS q u).length<=sizeLine:=by have:=I9 VS q u;lia
  refine wpAny_setItem_pairs (hsz:=v) (t2 B) s λVB f VN=>e _ ?_;have O:∃p,VB.get? g=Z p:=let ⟨p,_,_,k,_⟩:=f;⟨p,k⟩
  exact zk l (by rw[c];exact True.intro) VN O (Oe A hd (b.put q E) f)
 ·subst m o;cases (show J=af.ref d from B);let@⟨i,hd,⟨@z,b,s⟩⟩:=xv l.aX c;have v:z.length<=sizeLine:=by rw[<-eA.length b];exact i
  have A:(hK VS q u).length<=sizeLine:=by have:=I9 VS q u;lia
  refine wpAny_setItem_heap (hsz:=v) (pq I) (mE l.aX F) s λVB f VN=>e _ ?_;let⟨p,U,@WB,k,C,R,S,W,al⟩:=f;refine zk l (by rw[c];exact True.intro) VN ⟨p,k⟩ ⟨A,hd,_,(b.put q F E).keeps λn VR H=>?_,p,U,WB,k,C,R,S,al⟩;rw[cZ (BQ H c<|λi=>nomatch i)];exact H
end
section
variable{a:aK}{G:List (ae×bc)}{x:a8}{j:aA}{h:ao}{g:ae}{VS:List (eR×ar)}{q:eR}{J:af}{P:bE}{VD:af->ao->Prop}
def Pt(l:aH a G x j h)(c:lL j g (.dR VS))(e:∀I VE,aH a G x j VE->D (.int VS.length I) VE):wpAny (aW a.prog a.w) P (call (.builtin "len") [.ref g]) D VD h:=by
 let@⟨i,hd,⟨@T,b,d⟩⟩:=qk l.aX c;refine call_len_dict hd d (by rw[<-b.length];rw[vi]at i;lia) ?_;rw[<-b.length];exact e _ _ (l.tok _)
end
def M0{a:aK}{g:ae}{t:ar}(l:aH a G x j h)(L:g7 j g t m):h.TypeIs (.ref g) "dict" := by
 rcases L with ⟨VS,q,c,_,_⟩|⟨VS,q,d,c,_,_,_⟩
 ·let@⟨_,_,⟨@T,_,b⟩⟩:=qk l.aX c;exact b.typeIs
 ·let@⟨_,_,⟨@z,_,b⟩⟩:=tp l.aX c;exact b.typeIs
def Bt(e:aY)(a:jf<e.objs.size):fx VJ y j (e.push {cls:=.type "dict",data:=.dict #[]}) e.objs.size (.aR []):=
 ⟨kZ _,Ap.mpr<|fI<|ef a,[],.nil,_,#[],0,dr _ rfl,⟨rfl,rfl,rfl⟩,rfl,rfl,mA⟩
def Ko:cf:=(λ_ j D=>∀o,j o=Y->D (.ref o) (upd j o<|.aR []))
section
variable{a:aK}{VT:Pos}
def R5:bW a (.Dict [] [] VT) Ko:=λG h x j D l e=>
 wpAny_Dict_empty ⟨.ref h.heap.objs.size,_,l.laid (g:=h.heap.objs.size) (m:=.aR []) (We:=h.toks) (λ_ W p=>b4 _ p) (bT _)<|Bt h.heap l.big,rfl,e _<|l.aX.fresh<|bT _⟩
end
end L2
namespace Fo
open PySem.W PySem.Calls PyProof.Rows
variable{w:Nat}{M:OpenLaw}
def US{VJ:vo}{e:aY}:∀(V2:List Int) (T:List af),WellAll VJ e T (V2.map si.int)->rK T V2:=by
 intro V2;induction V2 with
 |nil=>
  intro T y;rw[vz]at y;cases y;exact .nil
 |cons w V2 a=>
  intro T y;rw[cS]at y;cases y with
  |cons g d=>
   cases g;exact .cons _ _ (a _ d)
def R6(h:M.most=Z w){VJ:vo}{e:aY}{args:List si}{c:List af}(d:M.row.toRowW.claim.pre args=V)(i:WellAll VJ e c args):
  ∃g T V2,c=[af.ref g]/\args=[si.list (V2.map si.int)]/\e.get? g=Z {cls:=.type "list",data:=.seq T.toArray}/\rK T V2/\V2.length<=w:=by
 have j:sb.hasAll [] args [.list .int]=V:=(pre_splitW d).1;have f:M.pre.holds [] {args:=args}=V:=(pre_splitW d).2;let⟨s,@r,rfl,A,C⟩:=hasAllW_cons j;obtain rfl:=hasAllW_nil C;let⟨@z,rfl,k⟩:=hasW_list A;let⟨@V2,rfl⟩:=items_int k;have l:V2.length<=w:=by
  unfold OpenLaw.pre at f;have a:(WTm.not<|.lt (.lit<|.int (w:Int))<|.len<|.arg 0).holds [] {args:=[.list (V2.map .int)]}=V:=by
   have a:=(holds_andW f).1;rw[h]at a;exact a
  have b:=condW_of a (w_not<|w_lt w_lit<|w_len_list<|w_arg rfl);rw[bB]at b;refine Nat.le_of_not_lt λp=>?_;have m:(w:Int)<((V2.length:Nat):Int):=⋯
  first
   | (rw[dJ m]at b;exact absurd b ∅)
   | (simp at b;lia)
 cases i with
 |cons dD du=>
  cases du;cases dD with
  |list n o=>exact⟨_,_,V2,rfl,rfl,n,US V2 _ o,l⟩
def Rh(M:OpenLaw)(args:List si):M.row.toRowW.claim.post args (.bool V) args=V:=
 postW_of (r:=M.row.toRowW) (X:=(V==V))
  (show sb.has [] (.bool V) .bool=V by first|rfl|decide|simp[sb.has,sb.arms,sb.armsAll])
  (show (WTm.eq .res<|.lit<|.bool V).value [] {args:=args,res:=Z (.bool V),after:=args}=Z (.bool<|V==V) from w_eq_bool (w_res rfl) w_lit) rfl
def Kq{p:bF}{d:List aD}{e:(aD->Option af)->aY->Prop}{f:bj->aY->Prop}{s:DefRec}(i:M.most=Z w)(j:s.params.defaults=[])(call:∀(y:bj) (eS a:ao) (aB c:aD->Option af) (b:ae) (m:bc) (Wa WZ k:af) (g:ae) (T:List af) (V2:List Int),
   Ground p d [] e y eS aB c a.heap->f y a.heap->
   a.heap.get? b=Z m->m.data=.func (docDef s.name s.params s.body s.scope Wa WZ k)->a.heap.CodeRec WZ s.name->aB s.name=Z (.ref b)->
   a.heap.get? g=Z {cls:=.type "list",data:=.seq T.toArray}->rK T V2->V2.length<=w->a.gens=#[]->
   codeAny (aW M.prog y) oe (.call (.ref b) ⟨[.ref g],[]⟩) (λr VE=>r=.ok (.ret<|.bool V)/\OldK a.heap VE.heap/\VE.os=a.os/\ll VE.gens) a):
  WalkO p d e f M.row.toRowW s [] (λN T=>PySem.call N T):=by
 intro y eS a aB c S l b m Wa WZ k n cT o hd q h t u args H I v J L x O;obtain rfl:n=.none:=Dflts.none h j;obtain rfl:cT=.none:=Dflts.noKw h;let⟨g,T,@V2,rfl,rfl,z,A,B⟩:=R6 i v x;refine enter_call (uq (call y eS a aB c b m Wa WZ k g T V2 S l o (fd_plain hd) q t z A B u) λr VE D=>?_);let@⟨rfl,C,E,F⟩:=D;exact⟨.inl ⟨.bool V,.bool V,[],rfl,λ_=>rfl,.bool V,Rh M _,λ_=>⟨List.Pairwise.nil,λ_ G=>(nomatch G)⟩⟩,C,E,F⟩
end Fo
namespace L2
open Spec PyProof.Rows
variable{VQ:List aD}{N:ae}{WH f:aD}{fd:gR}{q:Nat}
theorem Gu:∀{T:List af}{V2:List Int},rK T V2->bY (V2.map ar.int) T
 |_,_,.nil=>.nil
 |_,_,.cons w I e=>.cons ⟨I,rfl⟩ (Gu e)
def vX(j:aA):Prop:=(∀d,j d=Y\/∃m z,j d=Z (.dw m<|.lst z))
def JH{VJ:bF}{y:bj}{R:Φ}{aB o:aD->Option af}{WS:jV}{t g:ae}{sp:kf}{a:ao}{T:List af}{V2:List Int}(B:R.In a.heap)(D:a.heap.Ns d2 aB)(b:a.heap.Ns wY o)(S:∀f:aD,f ≠ "__name__" -> o f=fR f)(al:a.heap.NoLimit)(am:a.gens=#[])(l:a.heap.get? g=Z {cls:=.type "list",data:=.seq T.toArray})(VF:rK T V2)(E:V2.length<=sizeLine)(an:ep q oe)(O:∀VM:aY,R.In VM->VM.Ns d2 aB->hg VJ y R aB VM WS q t fd [f] sp)(ap:∀(h:ao) (J:af),nq h fd ⟨[J],[]⟩ [(f,J)])(as:∀j:aA,vX j->dv R j g (V2.map ar.int)->sp [.ref g] j (λu K=>u=.aF V) λ_ K K=>False)(a1:∀j c VE,WS [] j a (λ_ K K=>False) c VE->False):
  codeAny (aW VJ y) oe (.call (.ref t) ⟨[.ref g],[]⟩) (λr VE=>r=.ok (.ret<|.bool V)/\OldK a.heap VE.heap/\VE.os=a.os/\ll VE.gens) a:=by
 have F:=Gu VF;have a2:=VF.length;have G:∀j:aA,vX j->dv R j g (V2.map ar.int)->dG VJ y j a.heap->(∀d,j d≠Y->d=g)->(j g≠Y->R.lookup g=Y)->
   codeAny (aW VJ y) oe (.call (.ref t) ⟨[.ref g],[]⟩) (λr VE=>r=.ok (.ret<|.bool V)/\OldK a.heap VE.heap/\VE.os=a.os/\ll VE.gens) a:=by
  intro j I bd aX L be;have M:∀{d:ae}{m:bc},a.heap.get? d=Z m->j d=Y->(l1 a.heap j).get? d=Z m:=λc w=>MV c w;have bi:∀{d:ae}{m:bc}{U:Array DictEntry}{WB:Nat},a.heap.get? d=Z m->m.data=.dict U WB->j d=Y:=λ{d m U WB} c s=>by
   cases p:j d with
   |none=>rfl
   |some J=>
    have v:d=g:=L d (by rw[p];simp);subst v;rw[l]at c;cases c;have bm:Data.seq T.toArray _=Data.dict U WB:=s;cases bm
  have n:∀{d:ae}{H:aD->Option af},a.heap.Ns d H->(l1 a.heap j).Ns d H:=λ{d H} ⟨m,U,WB,c,s,r⟩=>⟨m,U,WB,M c<|bi c s,s,r⟩;have N:R.In (l1 a.heap j):=λd m c=>M (B d m c) (by
   cases p:j d with
   |none=>rfl
   |some J=>
    have v:d=g:=L d (by rw[p];simp);subst v;rw[be (by rw[p];simp)]at c;cases c)
  have bn:Mod R aB (l1 a.heap j):=⟨N,n D,⟨o,n b,S⟩,let ⟨bs,A,C⟩:=al;⟨bs,n A,C⟩⟩;have bv:w1 VJ y R aB (l1 a.heap j) oe [] a j:=⟨rfl,bn,λd m c=>J0 c,Nat.le_of_eq<|Us _ _,trivial,λd b=>absurd (show d∈([]:List ae) from b) ↥0,aX,.of_eq am⟩;refine uq ((O _ N<|n D).run oe [] a j ⟨[.ref g],[]⟩ [.ref g] [.ref g] _ _ an bv (ap a<|.ref g) (.cons rfl .nil)<|as j I bd) λr VE e=>?_;cases r with
  |error c=>exact (a1 j c VE e).elim
  |ok a3=>
   cases a3 with
   |next=>exact False.elim e
   |brk=>exact False.elim e
   |cont=>exact False.elim e
   |ret J=>
    let⟨u,@Q,VV,ca,un,cd,Wz,p⟩:=e;have ce:u=.aF V:=p;subst ce;obtain rfl:J=af.bool V:=Wz;refine⟨rfl,OldK.of_keep λd m c=>?_,VV,ca⟩;cases p:j d with
    |none=>exact un.keep d m c p (by intro i;exact absurd (show d∈([]:List ae) from i) ↥0) ↥0
    |some J=>
     rcases I d with i|⟨WA,z,i⟩
     ·rw[p]at i;cases i
     ·have ch:=un.iA d WA _ i;let@⟨P,_⟩:=aX d _ i;let@⟨ci,_⟩:=cd d _ ch;rw[c]at P;cases P;exact ci
 cases x:R.lookup g with
 |some m=>
  have c:=B g m x;rw[l]at c;cases c;refine G (λ_=>Y) (λ_=>.inl rfl) (.inr ⟨_,T.toArray,_,x,rfl,rfl,rfl,by rw[cX,a2];exact E,by simpa using F⟩) (λd J i=>by have k:(Y:Option gm)=Z J:=i;cases k) (λd i=>absurd rfl i) λi=>absurd rfl i
 |none=>
  refine G (λd=>if d=g then Z (.dw {cls:=.type "list",data:=.seq T.toArray} (.lst<|V2.map ar.int)) else Y) (λd=>?_) (.inl<|.inr ⟨{cls:=.type "list",data:=.seq T.toArray},aJ rfl⟩) (λd J i=>?_) (λd i=>?_) λ_=>x
  ·by_cases b:d=g
   ·exact .inr ⟨_,_,aJ b⟩
   ·exact .inl (aP b)
  ·by_cases b:d=g
   ·have k:=(aJ b).symm.trans i;cases k;subst b;exact⟨l,by rw[bB];exact E,T,_,F,l⟩
   ·have k:=(aP b).symm.trans i;cases k
  ·by_cases b:d=g
   ·exact b
   ·exact absurd (aP b) i
def Uz{M:PySem.W.OpenLaw}{w:Nat}{p:bF}{o:List aD}{r:(aD->Option af)->aY->Prop}{i:bj->aY->Prop}{s:DefRec}{R:vo->Φ}{WS:bj->jV}{sp:bj->kf}(t:M.most=Z w)(v:w<=sizeLine)(x:s.params.defaults=[])(z:ep q oe)(A:∀(y:bj) (e:aY),i y e->(R y.params).In e)(O:∀(y:bj) (aB:aD->Option af) (a:ae) (e:aY),(R y.params).In e->e.Ns d2 aB->aB s.name=Z (.ref a)->
   ∃fd:gR,(∀(h:ao) (J:af),nq h fd ⟨[J],[]⟩ [(f,J)])/\
    ∀VM:aY,(R y.params).In VM->VM.Ns d2 aB->hg M.prog y (R y.params) aB VM (WS y) q a fd [f] (sp y))(B:∀(y:bj) (j:aA) (g:ae) (V2:List Int),V2.length<=w->vX j->dv (R y.params) j g (V2.map ar.int)->sp y [.ref g] j (λu L=>u=.aF V) λ_ L L=>False)(C:∀(y:bj) (j:aA) (h:ao) (c:af) (VE:ao),WS y [] j h (λ_ L L=>False) c VE->False):
  PySem.W.WalkO p o r i M.row.toRowW s [] (λN T=>PySem.call N T):=by
 refine Fo.Kq t x λy eS D aB an a m Wa WZ k g T V2 S E ap hd as G H I l P=>?_;have n:=A y _ E;let⟨@fd,Q,U⟩:=O y aB a _ n S.T.g G;exact JH n S.T.g S.T.b S.T.builtins S.T.nolimit P H I (fv l v) z U Q (λj al am=>B y j g V2 l al am) λj c VE=>C y j D c VE
def jG(h:bC):Arguments:=(match h with
 |.FunctionDef _ g _ _ _ _ _ _ _ _=>g
 |_=>{posonlyargs:=[],args:=[],vararg:=Y,kwonlyargs:=[],kw_defaults:=[],kwarg:=Y,defaults:=[]})
def gX(h:bC):List bC:=(match h with
 |.FunctionDef _ _ d _ _ _ _ _ _ _=>d
 |_=>[])
def dZ(h:bC):hp:=(match h with
 |.FunctionDef _ _ _ _ _ _ l _ _ _=>l
 |_=>{kind:=.function,names:=[],isGenerator:=aq,isCoroutine:=aq})
abbrev ik:jV:=λ_ _ _ _ _ _=>False
abbrev Sw:fV:=λ_ _ _=>False
def D2{a:aK}:w5 ik a Sw:=λ_ W W W W W W e=>e.elim
structure gS(R:Φ)(f WH:aD)(X:bC)(N:ae)(fd:gR):Prop where
 ex:∃(C:af) (A:Option ae) (cT k Wa:af) (F:Option ae) (Wm cI:af) (W7:Array (Option af)),
  fd=Ξ f WH (jG X) (gX X) (dZ X) .none cT k Wa F Wm cI/\R.lookup N=Z ⟨C,A,.func fd,W7⟩/\Ω R Wm WH=V
 cL:Θ R (.ref N)=V
section
variable{VJ:bF}{y:bj}{R:Φ}{aB:aD->Option af}{VM:aY}
def gS.ok{X:bC}{VX:List aD}{sp:kf}(O:gS R f WH X N fd)(VU:kU VX VQ (dZ X))(len:∀T j D VD,sp T j D VD->T.length=VQ.length)(a:∀(Wm:af) (P:bE) (Wg:List eg) (h:ao) (j:aA) (T:List ar) (D:cN) (VD:fV),ep q (P.deeper<|iT WH (dZ X) h.heap.objs.size N Wm)->sp T j D VD->
   ∃I,gD (iS ik VJ y R aB VM VX WH (dZ X) N Wm P Wg h j VD).oS (gX X) I/\I {aI:=λ_ Q=>D .aS Q,cB:=D} (start VX T) j):hg VJ y R aB VM ik (q+1) N fd VQ sp:=by
 let⟨C,A,cT,k,Wa,F,Wm,cI,@W7,rfl,lk,b⟩:=O.ex;refine HM lk b VU len λP Wg h j T D VD c d=>?_;let⟨@I,e,p⟩:=a Wm P Wg h j T D VD c d;exact⟨I,e.oS,p⟩
def gS.binds{X:bC}(O:gS R f WH X N fd)(e:∀(cT k Wa:af) (F:Option ae) (Wm cI:af) (VZ:List af),VZ.length=VQ.length->nh (Ξ f WH (jG X) (gX X) (dZ X) .none cT k Wa F Wm cI) ⟨VZ,[]⟩=pure (VQ.zip VZ)):iG R fd VQ []:=by
 let⟨C,A,cT,k,Wa,F,Wm,cI,@W7,rfl,lk,a⟩:=O.ex;exact .all (e cT k Wa F Wm cI)
def UH{X:bC}{C:af}{A F:Option ae}{W7:Array (Option af)}{cT k Wa Wm cI:af}(M:R.lookup N=Z ⟨C,A,.func<|Ξ f WH (jG X) (gX X) (dZ X) .none cT k Wa F Wm cI,W7⟩)(n:Ω R Wm WH=V)(q:Θ R (.ref N)=V):gS R f WH X N (Ξ f WH (jG X) (gX X) (dZ X) .none cT k Wa F Wm cI):=⟨⟨C,A,cT,k,Wa,F,Wm,cI,W7,rfl,M,n⟩,q⟩
end
section
variable{a:aK}
def ec(b:Nat){f:aD}{VT:Pos}(c:a.N[b]?=Z f:=by rfl)(d:ve a.env.scope f:=by first|exact Or.inl rfl|exact Or.inr (Or.inl rfl)|exact Or.inr (Or.inr rfl))(hd:(f==("__debug__" : aD))=aq:=by decide)(e:(f==("__classdict__" : aD))=aq:=by decide):bW a (.Name f VT) (mI b):=D8 c d hd e
end
def c8(j Q:aA):Prop:=(∀d m,j d=Z m->Q d=Z m)
def c8.refl(j:aA):c8 j j:=λ_ W e=>e
end L2
namespace L2
section
variable{a:aK}
def RZ:eY a (.builtin "len") (λz j D=>∃g VS,z=[ar.ref g]/\j g=Z (.dR VS)/\D (.int VS.length) j):=by
 intro G h x j z VZ D l r e;let⟨g,@VS,rfl,b,p⟩:=e;let⟨@J,rfl,c⟩:=ih r;cases c;exact Pt l (.inl b) λI VE d=>⟨.int VS.length,j,d,⟨I,rfl⟩,p⟩
end
end L2
namespace L2
open Spec PyProof.Rows
variable{D:Option af->ao->Prop}{b WB WY:Nat}{VH s aG:ae}{e A:aY}{VG:List af}{W2:b2}{Wh WG WX:bt}{cF:List ae}{j:aA}{x:a8}{G:List (ae×bc)}{Wi:List Nat}{own:List aD}{VC:eg}{VT:Pos}{V1:hp}{WV:List bt}{h:ao}{P:bE}
def Kf{VO:bF}{y:bj}{VI:u7->ao->Prop}{b:bt}{VH d:af}(l:Nat->ao->Prop)(turn:∀w h,l w h->wpAny (aW VO y) P (gF VH) (λr a=>match r with
   |none=>VI (.ok .next) a
   |some u=>wpAny (aW VO y) P (qK b VH u) (λ_ a=>wpAny (aW VO y) P (jd b VC u) (λ_ i=>
     wpAny (aW VO y) P (forIn WV V λn r=>if r=V then do let ok <-qf n VC (b_ n VC);pure (ForInStep.yield ok) else pure (ForInStep.yield r)) (λok g=>
      if ok=V then wpAny (aW VO y) P (b_ WX VC) (λf j=>
       wpAny (aW VO y) P (call (.builtin "list.append") [d,f]) (λ_ k=>∃H,H<w/\l H k) (λ_ W=>False) j) (λ_ W=>False) g
      else ∃H,H<w/\l H g) (λ_ W=>False) i) (λ_ W=>False) a) (λ_ W=>False) a) (λ_ W=>False) h)(w:Nat)(e:l w h):
  codeAny (aW VO y) P (.compLoop (.ListComp WX [⟨b,WG,WV,0⟩] V1 VT) 0 VH d VC) VI h:=by
 refine codeAny_loop rfl l (λw h o=>?_) w e;show wpAny _ P ((compTurn (.ListComp WX [⟨b,WG,WV,0⟩] V1 VT) 0 VH d VC).onRaise (λf=>do noteFrame f VC;theTreesLotGoes f)) _ _ h;refine wpAny_noted ?_;rw[compTurn_list];refine ax (w7<|ax<|gT (turn w h o) (λr a c=>?_) λ_ W VB=>VB.elim);cases r with
 |none=>exact ba c
 |some u=>
  refine ax (gT c (λ_ a c=>?_) λ_ W VB=>VB.elim);refine ax (gT c (λ_ i p=>ax<|gT p (λok g m=>?_) λ_ W VB=>VB.elim) λ_ W VB=>VB.elim);cases ok with
  |false=>exact ba ⟨rfl,m⟩
  |true=>
   exact ax (ax<|gT m (λf j q=>ax<|gT q (λ_ k s=>ba<|ba ⟨rfl,s⟩) λ_ W VB=>VB.elim) λ_ W VB=>VB.elim)
def k6(VC:eg)(Wn:List (aD×da)):List (aD×ae):=(Wn.foldl (λcs t=>if t.2==.free then (t.1,(VC.cells.lookup t.1).getD 0)::cs else cs) [])
theorem xC{VC:eg}:∀(Wn:List (aD×da)) (cs:List (aD×ae)),(∀t∈Wn,t.2=.free->∃n,VC.cells.lookup t.1=Z n)->
  (forIn Wn cs λ(t:aD×da) cs=>if t.2==.free then (do let n <-wz VC t.1;pure (ForInStep.yield ((t.1,n)::cs))) else pure (ForInStep.yield cs):eo _)=
   pure (Wn.foldl (λcs t=>if t.2==.free then (t.1,(VC.cells.lookup t.1).getD 0)::cs else cs) cs)
 |[],cs,_=>rfl
 |t::r,cs,e=>by
  rw[pH,nU];by_cases a:t.2=.free
  ·let⟨@n,d⟩:=e t nD a;have c:(t.2==da.free)=V:=by simp[a]
   rw[aJ c,aJ c];have f:wz VC t.1=pure n:=by unfold wz;rw[d]
   rw[f,d];show (forIn r ((t.1,n)::cs) _:eo _)=_;exact xC r _ λi b=>e i (l5 _ b)
  ·have c:¬ (t.2==da.free)=V:=by simp[a]
   rw[aP c,aP c];show (forIn r cs _:eo _)=_;exact xC r _ λi b=>e i (l5 _ b)
def MO(e:∀t∈V1.names,t.2=.free->∃n,VC.cells.lookup t.1=Z n):closureFor V1 VC=pure (k6 VC V1.names):=by
 have:=xC (VC:=VC) V1.names [] e;unfold closureFor;dsimp only;have c:(forIn V1.names ([]:List (aD×ae))<|λ(f:aD×da) (r:List (aD×ae))=>(if f.2==.free then (do let n <-wz VC f.1;pure (ForInStep.yield ((f.1,n)::r))) else pure (ForInStep.yield r):eo (ForInStep<|List<|aD×ae)))=pure (k6 VC V1.names):=this;rw[c];rfl
theorem GB{VC:eg}:∀(Wn:List (aD×da)) (cs:List (aD×ae)) (f:aD) (n:ae),
  (Wn.foldl (λcs t=>if t.2==.free then (t.1,(VC.cells.lookup t.1).getD 0)::cs else cs) cs).lookup f=Z n->
  (n=(VC.cells.lookup f).getD 0/\(f,da.free)∈Wn)\/cs.lookup f=Z n
 |[],cs,f,n,e=>.inr e
 |t::r,cs,f,n,e=>by
  rw[nU]at e;rcases GB r _ f n e with ⟨c,H⟩|e
  ·exact .inl ⟨c,l5 _ H⟩
  ·by_cases a:t.2=.free
   ·rw[aJ (by simp[a])]at e;rw[gZ]at e;by_cases b:f=t.1
    ·subst b;rw[lh]at e;refine .inl ⟨(Option.some.inj e).symm,?_⟩;rw[<-a];exact nD
    ·have:(f==t.1)=aq:=by simpa using b
     rw[this]at e;exact .inr e
   ·rw[aP (by simp[a])]at e;exact .inr e
theorem yg{VC:eg}:∀(Wn:List (aD×da)) (cs:List (aD×ae)) (f:aD),(f,da.free)∈Wn\/(∃n,cs.lookup f=Z n)->
  ∃n,(Wn.foldl (λcs t=>if t.2==.free then (t.1,(VC.cells.lookup t.1).getD 0)::cs else cs) cs).lookup f=Z n
 |[],cs,f,e=>by
  rcases e with e|e
  ·cases e
  ·exact e
 |t::r,cs,f,e=>by
  rw[nU];apply yg r _ f;rcases e with e|⟨n,e⟩
  ·rcases bO.mp e with c|e
   ·right;subst c;rw[aJ (by rfl),gZ,lh];exact⟨_,rfl⟩
   ·exact .inl e
  ·right;by_cases a:(t.2==da.free)=V
   ·rw[aJ a,gZ];cases f==t.1
    ·exact⟨n,e⟩
    ·exact⟨_,rfl⟩
   ·rw[aP a];exact⟨n,e⟩
structure j3 where
 aG:ae
 s:ao
 H:aA
 cF:List ae
 cs:List (aD×ae)
variable{T:j3->eE}{L:j3->g6}
def aK.gd(a:aK)(c:List aD)(V1:hp)(b:j3): aK :=(
  {prog:=a.prog,w:=a.w,K:=a.K,aB:=a.aB,base:=a.base,A:=a.A,N:=c,eS:=b.s,pY:=b.H,env:=uP V1 (b.cs ++ k6 a.env V1.names) b.aG a.env,outer:=a.stack,stack:=a.stack,
    ex:=b.cF,fn:=λf => V1.names.lookup f==Z .cell,calm:=a.calm,hk:=[],cQ:=λ_ W => False})
structure tU(WY:Nat)(Wn:List (aD×da))(cs:List (aD×ae))(e:aY):Prop where
 gO:∀f n,cs.lookup f=Z n->WY<=n/\e.IsCell n Y/\(f,da.cell)∈Wn
 inj:∀f t n,cs.lookup f=Z n->cs.lookup t=Z n->f=t
def TV{aC:gw}{VD:af->ao->Prop}{r:ae}{bR:List (aD×ae)}{WH:aD}{D:eg->ao->Prop}(e:∀VB cs,(∀d m,h.heap.get? d=Z m->VB.get? d=Z m)->VB.Ns h.heap.objs.size (λ_=>Y)->tU (h.heap.objs.size+1) V1.names cs VB->(∀f,(f,da.cell)∈V1.names->∃n,cs.lookup f=Z n)->
   D (newEnv V1 h.heap.objs.size r (cs++bR) WH Y .none (Z VC) wY) {h with heap:=VB}):
  wpAny aC P (Gf V1 r bR [] WH Y .none<|Z VC) D VD h:=by
 unfold Gf;refine ax (wpAny_alloc ?_);have WY:(h.heap.push {cls:=.type (if (Z VC).isSome=V then "dict" else "frame"),data:=.dict #[]}).Ns h.heap.objs.size λ_=>Y:=⟨_,#[],_,dr _ rfl,rfl,by intro b VF;simp at VF,λ_=>rfl⟩;refine ax (te _ (λdq cells VE=>∃done cs VB,done++dq=V1.names/\cells=cs++bR/\VE={h with heap:=VB}/\h.heap.objs.size+1<=VB.objs.size/\(∀d m,h.heap.get? d=Z m->VB.get? d=Z m)/\VB.Ns h.heap.objs.size (λ_=>Y)/\tU (h.heap.objs.size+1) V1.names cs VB/\∀f,(f,da.cell)∈done->∃n,cs.lookup f=Z n) _ ?_ ?_ _ _ ⟨[],[],_,rfl,rfl,rfl,by rw[h3];exact bT _,λd m c=>b4 _ c,WY,⟨(λf n c=>by simp at c),(λf t n c=>by simp at c)⟩,(λf a=>nomatch a)⟩)
 ·rintro⟨B,cD⟩ dq cells VE ⟨done,cs,VB,l,rfl,rfl,je,ext,V2,j,VN⟩;by_cases p:cD=.cell
  ·subst p;show wpAny aC P (alloc {cls:=.type "cell",data:=.cell Y} >>= λg=>pure<|ForInStep.yield ((B,g)::(cs++bR))) _ _ _;refine ax (wpAny_alloc<|ba ?_);have s:∀d m,VB.get? d=Z m->(VB.push {cls:=.type "cell",data:=.cell Y}).get? d=Z m:=λd m c=>b4 _ c;have v:∀n,(∃u,VB.IsCell n u)->n≠VB.objs.size:=λn ⟨u,m,c,_⟩=>ef (cg c);refine⟨done++[(B,.cell)],(B,VB.objs.size)::cs,_,by rw[bz];exact l,rfl,rfl,by rw[h3];exact Gd je,λd m c=>s d m<|ext d m c,V2.push _,⟨λf n c=>?_,λf t n Ws k=>?_⟩,λf a=>?_⟩
   ·rw[gZ]at c;by_cases a:f=B
    ·subst a;rw[lh]at c;cases c;exact⟨je,⟨_,dr _ rfl,rfl⟩,by rw[<-l];exact ez _ (.head _)⟩
    ·rw[show (f==B)=aq by simpa using a]at c;let⟨w,⟨m,x,y⟩,z⟩:=j.gO f n c;exact⟨w,⟨m,s n m x,y⟩,z⟩
   ·rw[gZ]at Ws k;by_cases a:f=B
    ·by_cases o:t=B
     ·rw[a,o]
     ·rw[a,lh]at Ws;rw[show (t==B)=aq by simpa using o]at k;cases Ws;exact absurd rfl (v _ ⟨_,(j.gO t _ k).2.1⟩)
    ·rw[show (f==B)=aq by simpa using a]at Ws;by_cases o:t=B
     ·rw[o,lh]at k;cases k;exact absurd rfl (v _ ⟨_,(j.gO f _ Ws).2.1⟩)
     ·rw[show (t==B)=aq by simpa using o]at k;exact j.inj f t n Ws k
   ·rw[gZ];by_cases q:f=B
    ·rw[q,lh];exact⟨_,rfl⟩
    ·rw[show (f==B)=aq by simpa using q];refine VN f ((dy.mp a).resolve_right λi=>?_);exact q (Prod.mk.inj<|cH.mp i).1
  ·have c:(cD==da.cell)=aq:=by simpa using p
   show wpAny aC P (if (cD==da.cell)=V then _ else pure (ForInStep.yield<|cs++bR)) _ _ _;rw[aP (by rw[c];exact eu)];refine ba ⟨done++[(B,cD)],cs,VB,by rw[bz];exact l,rfl,rfl,je,ext,V2,j,λf a=>VN f<|(dy.mp a).resolve_right λi=>?_⟩;exact p (Prod.mk.inj<|cH.mp i).2.symm
 ·rintro cells VE ⟨done,cs,VB,l,rfl,rfl,je,ext,V2,j,VN⟩;rw[cj]at l;subst l;exact ax (ba<|ba<|e VB cs ext V2 j VN)
theorem mem_of_lookup:∀{M:List (aD×da)}{f:aD}{q:da},M.lookup f=Z q->(f,q)∈M
 |[],_,_,e=>by simp at e
 | (w,b)::r,f,q,e=>by
  rw[gZ]at e;by_cases a:f=w
  ·subst a;rw[lh]at e;cases e;exact nD
  ·rw[show (f==w)=aq by simpa using a]at e;exact l5 _ (mem_of_lookup e)
theorem z7{VC:eg}:∀{Wn:List (aD×da)}{f:aD}{q:da},
  (Wn.map λ(w,q)=>if (q==da.free&&VC.scope.kind==.function&&VC.kindOf w==Z .cell) then (w,da.cell) else (w,q)).lookup f=Z q->
  (q=.cell\/q=.free)->(f,da.free)∈Wn\/Wn.lookup f=Z .cell
 |[],f,q,e,_=>by simp at e
 | (w,d)::r,f,q,e,a=>by
  rw[cS]at e;dsimp only at e;by_cases h:f=w
  ·subst h;by_cases b:(d==da.free&&VC.scope.kind==.function&&VC.kindOf f==Z .cell)=V
   ·have:d=da.free:=by
     simp only[cV]at b;exact by simpa using b.1.1
    subst this;exact .inl nD
   ·simp only[b]at e;have c:d=q:=by simpa [gZ] using e
    subst c;rcases a with a|a
    ·exact .inr (by rw[gZ,lh,a])
    ·rw[a];exact .inl nD
  ·have g:(f==w)=aq:=by simpa using h
   have VB:(r.map λ(w,q)=>if (q==da.free&&VC.scope.kind==.function&&VC.kindOf w==Z .cell) then (w,da.cell) else (w,q)).lookup f=Z q:=by
    by_cases b:(d==da.free&&VC.scope.kind==.function&&VC.kindOf w==Z .cell)=V
    ·rw[aJ b,gZ,g]at e;exact e
    ·rw[aP b,gZ,g]at e;exact e
   rcases z7 VB a with i|i
   ·exact .inl (l5 _ i)
   ·exact .inr (by rw[gZ,g];exact i)
section
variable{a:aK}
structure iK(a:aK)(V1:hp)(own:List aD)(Wi:List Nat):Prop where
 kind:V1.kind=.function
 QJ:∀t∈V1.names,t.2=.cell->V1.names.lookup t.1=Z .cell
 free:∀t∈V1.names,t.2=.free->a.env.scope.names.lookup t.1=Z .cell
 loc:∀t∈V1.names,t.2=.local->V1.names.lookup t.1=Z .local
 Lw:∀b∈Wi,∃f,a.N[b]?=Z f/\(f,da.free)∈V1.names/\V1.names.lookup f=Z .free
def f7(a:aK)(own:List aD)(Wi:List Nat):List aD:=(own++Wi.map λb=>a.N.getD b "")
def kn(own:List aD)(Wi:List Nat)(x:a8):a8:=(own.map (λ_=>Y)++Wi.map λb=>x.getD b Y)
def iK.cells(VU:iK a V1 own Wi)(ok:a.Ok):∀t∈V1.names,t.2=.free->∃n,a.env.cells.lookup t.1=Z n:=
 λt b c=>ok.has t.1 (.inl<|VU.free t b c)
def iK.sub(VU:iK a V1 own Wi)(ok:a.Ok){f:aD}{n:ae}(e:(k6 a.env V1.names).lookup f=Z n):a.env.cells.lookup f=Z n/\(f,da.free)∈V1.names:=by
 rcases GB V1.names [] f n e with ⟨c,H⟩|e
 ·let⟨@d,b⟩:=VU.cells ok (f,.free) H rfl;rw[show (List.lookup f a.env.cells)=Z d from b]at c;refine⟨?_,H⟩;rw[c];exact b
 ·simp at e
def iK.two(VU:iK a V1 own Wi)(ok:a.Ok){cs:List (aD×ae)}{f:aD}{n:ae}(e:(cs++k6 a.env V1.names).lookup f=Z n):cs.lookup f=Z n\/(cs.lookup f=Y/\a.env.cells.lookup f=Z n):=by
 rw[xR]at e;cases p:cs.lookup f with
 |some s=>rw[p]at e;exact .inl e
 |none=>rw[p]at e;exact .inr ⟨rfl,(VU.sub ok e).1⟩
def aH.Ao(l:aH a G x j h){f:aD}{n:ae}(e:a.env.cells.lookup f=Z n):n<h.heap.objs.size:=by
 let⟨u,m,b,W⟩:=l.cell f n e;exact cg b
theorem BV{cs:List (aD×ae)}(VU:iK a V1 own Wi)(l:aH a G x j h)(w:h.heap.objs.size<=aG)(u:∀d∈cF,ku a G j d)(y:∀d∈cF,d<h.heap.objs.size)(k:tU WY V1.names cs A)(v:h.heap.objs.size<=WY)(VN:∀f,(f,da.cell)∈V1.names->∃n,cs.lookup f=Z n):(a.gd (f7 a own Wi) V1 ⟨aG,h,j,cF,cs⟩).Ok where
 mod:=l.ok.mod
 kind:=VU.kind
 glob:=l.ok.glob
 blt:=l.ok.blt
 above:=w
 inj:=λf t n A C=>by
  rcases VU.two l.ok A with o|⟨_,o⟩<;>rcases VU.two l.ok C with q|⟨_,q⟩
  ·exact k.inj f t n o q
  ·exact absurd (fk (l.Ao q)<|fv v (k.gO f n o).1) (iU _)
  ·exact absurd (fk (l.Ao o)<|fv v (k.gO t n q).1) (iU _)
  ·exact l.ok.inj f t n o q
 has:=λf g=>by
  have H:(f,da.free)∈V1.names\/V1.names.lookup f=Z .cell:=by
   rcases g with g|g
   ·exact z7 g (.inl rfl)
   ·exact z7 g (.inr rfl)
  show ∃n,(cs++k6 a.env V1.names).lookup f=Z n;rw[xR];cases p:cs.lookup f with
  |some s=>exact⟨s,rfl⟩
  |none=>
   rcases H with H|H
   ·exact yg V1.names [] f (.inl H)
   ·let⟨n,r⟩:=VN f (mem_of_lookup H);rw[p]at r;cases r
 kY:=λf n e z=>by
  have g:V1.names.lookup f=Z .cell:=eq_of_beq e;let⟨B,r⟩:=VN f (mem_of_lookup g);rcases VU.two l.ok z with i|⟨i,_⟩
  ·exact fv v (k.gO f n i).1
  ·rw[i]at r;cases r
 hd:=l.ok.hd
 frames:=l.ok.frames
 mP:=.inl rfl
 pj:=λd b=>⟨ef<|fk (y d b) w,λf n e=>by
  rcases VU.two l.ok e with i|⟨_,i⟩
  ·exact jR (fk (y d b)<|fv v (k.gO f n i).1)
  ·exact (u d b).2.2.2.2.1 f n i⟩
 bs:=l.bs
 jz:=fv l.ok.jz l.je
 lU:=λd m c b=>by
  rcases (u d b).2.2.2.1 with i|i
  ·exact l.ok.lU d m c i
  ·exact absurd (fk (cg c)<|fv l.ok.jz i) (iU _)
 lN:=λd b i=>by
  rcases bO.mp (l.xZ d i) with c|c
  ·exact (u d b).2.1 c
  ·exact (u d b).2.2.1 c
 gJ:=l.stack
 kk:=l.rR
theorem Lk{cs:List (aD×ae)}{Wq:Nat}{H:aD->Option af}(VU:iK a V1 own Wi)(l:aH a G x j h)(I:h.heap.objs.size<=aG)(U:∀d∈cF,ku a G j d)(al:∀d∈cF,d<h.heap.objs.size)(B:∀d m,h.heap.get? d=Z m->A.get? d=Z m)(am:A.Ns aG H)(C:tU WY V1.names cs A)(D:h.heap.objs.size<=WY)(VN:∀f,(f,da.cell)∈V1.names->∃n,cs.lookup f=Z n):
  aH (a.gd (f7 a own Wi) V1 ⟨aG,h,j,cF,cs⟩) [] (kn own Wi x) j {h with heap:=A,toks:=Wq} where
 ok:=BV VU l I U al C D VN
 os:=rfl
 bare:=l.bare
 base:=dX.kept B
 loc:=by
  let⟨@bi,D,an⟩:=l.loc;refine⟨H,am,λv f u k c y=>?_⟩;have k:(own++Wi.map λb=>a.N.getD b "")[v]?=Z f:=k;have c:(own.map (λ_=>(Y:Option ar))++Wi.map λb=>x.getD b Y)[v]?=Z (Z u):=c;by_cases ap:v<own.length
  ·rw[pl (by rw[bB];exact ap),hb]at c;cases p:own[v]? with
   |none=>rw[p]at c;cases c
   |some i=>rw[p]at c;cases c
  ·rw[q3 ⋯,hb]at k;rw[q3 (by rw[bB];lia),hb,bB]at c;cases p:Wi[v-own.length]? with
   |none=>rw[p]at k;cases k
   |some b=>
    rw[p]at k c;have k:a.N.getD b "" = f:=Option.some.inj k;have c:x.getD b Y=Z u:=Option.some.inj c;let⟨@g,L,M,O⟩:=VU.Lw b (jJ p);have Ws:g=f:=by
     rw[<-k,cR,L];rfl
    subst Ws;have VN:x[b]?=Z (Z u):=by
     rw[cR]at c;cases P:x[b]? with
     |none=>rw[P]at c;cases c
     |some i=>rw[P]at c;rw[show i=Z u from c]
    have Q:=VU.free (g,.free) M rfl;let⟨@J,r,lk⟩:=an b g u L VN (.inr<|.inl Q);refine⟨J,r,.inr ⟨?_,?_⟩⟩
    ·rcases y with y|y|y
     ·
      exfalso;have:∀{Wn:List (aD×da)},Wn.lookup g=Z .free->(Wn.map λ(w,q)=>if (q==da.free&&a.env.scope.kind==.function&&a.env.kindOf w==Z .cell) then (w,da.cell) else (w,q)).lookup g≠Z .local:=by
       intro Wn;induction Wn with
       |nil=>intro e;simp at e
       |cons t r R=>
        let⟨w,q⟩:=t;intro e;rw[cS];dsimp only;by_cases S:g=w
        ·subst S;have W3:q=.free:=by simpa [gZ] using e
         subst W3;by_cases z:(da.free==da.free&&a.env.scope.kind==ScopeKind.function&&a.env.kindOf g==Z da.cell)=V
         ·rw[aJ z];simp[gZ]
         ·rw[aP z];simp[gZ]
        ·have E:(g==w)=aq:=by simpa using S
         rw[gZ,E]at e;by_cases z:(q==da.free&&a.env.scope.kind==ScopeKind.function&&a.env.kindOf w==Z da.cell)=V
         ·rw[aJ z,gZ,E];exact R e
         ·rw[aP z,gZ,E];exact R e
      exact this O y
     ·exact .inl y
     ·exact .inr y
    ·rcases lk with ⟨as,_⟩|⟨_,n,a1,a2⟩
     ·exact absurd (as.symm.trans Q) ↥0
     ·let⟨@bm,T⟩:=yg (VC:=a.env) V1.names [] g (.inl M);have:=(VU.sub l.ok T).1;rw[a1]at this;cases this;let⟨@m,F,hd⟩:=a2;have bd:cs.lookup g=Y:=by
       cases p:cs.lookup g with
       |none=>rfl
       |some s=>
        have:=VU.QJ _ (C.gO g s p).2.2 rfl;rw[O]at this;cases this
      exact⟨n,by show (cs++k6 a.env V1.names).lookup g=Z n;rw[xR,bd];exact T,m,B _ _ F,hd⟩
 cell:=λf n e=>by
  rcases VU.two l.ok e with i|⟨_,i⟩
  ·exact⟨_,(C.gO f n i).2.1⟩
  ·let⟨u,@m,F,hd⟩:=l.cell f n i;exact⟨u,m,B _ _ F,hd⟩
 free:=l.aX.fresh I
 gW:=λf n e=>by
  rcases VU.two l.ok e with i|⟨_,i⟩
  ·exact l.aX.fresh (fv D (C.gO f n i).1)
  ·exact l.gW f n i
 pin:=λo be=>nomatch be
 aX:=l.aX.kept B
 len:=by simp[kn,f7,aK.gd]
def I_(a:aK)(WV:List bt)(I:eE)(G:List (ae×bc)):Prop:=(
 ∀(h:ao) (x:a8) (j:aA) (D:Bool->aA->Prop),aH a G x j h->I x j D->
  wpAny (aW a.prog a.w) a.A (forIn WV V λn r=>if r=V then do let ok <-qf n a.env (b_ n a.env);pure (ForInStep.yield ok) else pure (ForInStep.yield r)) (wM a G x D) a.cQ h)
def sh(a:aK)(WV:List bt)(I:eE):Prop:=(∀G,I_ a WV I G)
def QL:eE:=(λ_ j D=>D V j)
def Qj:sh a [] QL:=λG h x j D l e=>wpAny_tests_nil ⟨j,l,e⟩
def Nx{n:bt}{I:eE}(e:hO a n I):sh a [n] I:=λG h x j D l b=>wpAny_tests_one (e G h x j D l b)
def Kl(own:List aD)(Wi:List Nat)(L:g6)(T:eE)(ck:cf)(x:a8)(VX:List ar->aA->Prop)(VR:List ar)(f:ar)(Q:aA):Prop:=(
 L f (kn own Wi x) Q λa V0=>(∀(v:Nat) (u:ar),(kn own Wi x)[v]?=Z (Z u)->a[v]?=Z (Z u))/\T a V0 λd b=>if d=V then ck a b λu c=>VR.length<sizeLine/\VX (VR++[u]) c else VX VR b)
def OP(Wk:fq)(own:List aD)(Wi:List Nat)(L:g6)(T:eE)(ck:cf)(x:a8)(VL:aA)(D:cN):Prop:=(
 ∃W:Nat->Nat->List ar->aA->Prop,(∃H,W 0 H [] VL)/\∀b H VR j,W b H VR j->(Wk.stop b j/\∀k,j k=Y->D (.ref k) (upd j k<|.lst VR))\/
  (Wk.go b j/\∃VX:List ar->aA->Prop,(∀a Q,VX a Q->∃c,c<H/\W (b+1) c a Q)/\∀f Q,Wk.pR b j f Q->Kl own Wi L T ck x VX VR f Q))
def vY(own:List aD)(Wi:List Nat)(W2:b2)(L:j3->g6)(T:j3->eE)(ck:j3->cf):cf:=(λx j D=>W2 x j λWk VL=>∀a:j3,OP Wk own Wi (L a) (T a) (ck a) x VL D)
def x2(l:hp)(VX:List aD)(V1:hp)(Wi:List Nat):Bool:=(
 V1.kind==.function&&V1.names.all (λt=>t.2 != .cell || V1.names.lookup t.1==Z .cell)&&V1.names.all (λt=>t.2 != .free || l.names.lookup t.1==Z .cell)&&V1.names.all (λt=>t.2 != .local || V1.names.lookup t.1==Z .local) &&
  Wi.all (λb=>match VX[b]? with|some f=>V1.names.lookup f==Z .free|none=>aq))
def pW{a:aK}(l:hp)(VX:List aD)(e:x2 l VX V1 Wi=V)(c:a.env.scope=l:=by rfl)(j:a.N=VX:=by rfl):iK a V1 own Wi:=by
 unfold x2 at e;simp only[cV,jm,bne_iff_ne,ne_eq,AO,uT]at e;let@⟨@⟨@⟨@⟨A,C⟩,k⟩,m⟩,n⟩:=e;refine⟨A,λt d g=>(C t d).resolve_left λi=>i g,λt d g=>?_,λt d g=>?_,λb VF=>?_⟩
 ·rw[c];exact (k t d).resolve_left λi=>i g
 ·exact (m t d).resolve_left λi=>i g
 ·have:=n b VF;rw[j];cases p:VX[b]? with
  |none=>rw[p]at this;cases this
  |some f=>
   rw[p]at this;have h:V1.names.lookup f=Z .free:=by simpa using this
   exact⟨f,rfl,mem_of_lookup h,h⟩
def GI{Wo:Pos}{ck:j3->cf}{use:Option (af->eo Unit)}{f2:af->ao->Prop}{kw:cN}(op:a.calm=V)(VU:iK a V1 own Wi)(VF:lq a Wh WG W2)(o0:∀an,ks (a.gd (f7 a own Wi) V1 an) Wh<|L an)(pc:∀an,sh (a.gd (f7 a own Wi) V1 an) WV<|T an)(pi:∀an,bW (a.gd (f7 a own Wi) V1 an) WX<|ck an)(VN:∀f,mQ WG a.env f=pure f)(l:aH a G x j h)(e:vY own Wi W2 L T ck x j kw)(pm:∀(k aG:ae) (f4:aA) (I:ao) (H:aD->Option af),aH a G x f4 I->I.heap.Ns aG H->f4 aG=Y->a.env.locals≠aG->(∀f n,a.env.cells.lookup f=Z n->n≠aG)->a.eS.heap.objs.size<=aG->(∀o∈a.hk++G,o.1≠aG)->kw (.ref k) f4->compPost (aW a.prog a.w) a.A a.cQ use f2 (.ref k) aG (.ok .next) I):
  wpAny (aW a.prog a.w) a.A (AX (.ListComp WX [⟨Wh,WG,WV,0⟩] V1 VT) V1 a.env Wo (u4 []) aq (b_ WG a.env) use) f2 a.cQ h:=by
 refine wpAny_comprehension_free (use:=use) rfl VN (MO<|VU.cells l.ok) VU.kind VU.loc (b0 (VF G h x j _ l e) λu v0 A=>b0 A λv1 D C=>?_);let⟨VH,cF,B,Wk,@V0,c,U,F,f8,ap,po⟩:=C;subst c;have cd:∀d∈cF,d<D.heap.objs.size:=λd s=>by
  let⟨@m,c,R⟩:=F.obj _ _ f8 d s;exact cg c
 refine i0 (TV λga cs ext co bd lc=>?_);dsimp only at co ext bd ⊢;generalize ge:D.heap.push {cls:=.type "list",dict:=Y,data:=.seq ([]:List af).toArray}=cr at co ext bd ⊢;have db:cr.objs.size=D.heap.objs.size+1:=by rw[<-ge,h3]
 have be:D.heap.objs.size≠cr.objs.size:=by rw[db];exact ef (sO _)
 have ds:D.heap.objs.size<=cr.objs.size:=by rw[db];exact CK _
 have gl:∀d m,D.heap.get? d=Z m->ga.get? d=Z m:=λd m c=>ext d m (ge ▸ b4 _ c);have lf:ga.get? D.heap.objs.size=Z {cls:=.type "list",data:=.seq ([]:List af).toArray 0}:=ext _ _ (ge ▸ dr _ rfl);generalize v2:cr.objs.size=aG at co bd db be ds ⊢;have dL:D.heap.objs.size<=aG+1:=Gd ds;generalize al:D.heap.objs.size=k at lf db be ds ⊢;have bi:D.heap.objs.size<=aG:=by rw[al];exact ds
 let⟨@W,⟨@pp,jW⟩,turn⟩:=po ⟨aG,D,V0,cF,cs⟩;have li:=λ(Wq:Nat)=>Lk (Wq:=Wq) VU U bi ap cd gl co bd dL lc;have lm:=o0 ⟨aG,D,V0,cF,cs⟩;have ln:=pc ⟨aG,D,V0,cF,cs⟩;have ls:=pi ⟨aG,D,V0,cF,cs⟩;have gt:=BV VU U bi ap cd bd dL lc;generalize M:a.gd (f7 a own Wi) V1 ⟨aG,D,V0,cF,cs⟩=v at li lm ln ls gt;have bm:v.prog=a.prog:=by rw[<-M];rfl
 have bn:v.w=a.w:=by rw[<-M];rfl
 have lv:v.K=a.K:=by rw[<-M];rfl
 have ce:v.A=a.A:=by rw[<-M];rfl
 have lw:v.calm=V:=by rw[<-M];exact op
 have bh:v.env.locals=aG:=by rw[<-M];rfl
 have g1:v.ex=cF:=by rw[<-M];rfl
 have eq:v.eS=D:=by rw[<-M];rfl
 have pr:v.pY=V0:=by rw[<-M];rfl
 have pt:v.aE=dT a.stack:=by rw[<-M];rfl
 have ev:v.hk=[]:=by rw[<-M];rfl
 have g2:v.cQ=λ_ R=>False:=by rw[<-M];rfl
 have mb:v.env=uP V1 (cs++k6 a.env V1.names) aG a.env:=by rw[<-M];rfl
 have mo:∀f n,v.env.cells.lookup f=Z n->aG+1<=n\/a.env.cells.lookup f=Z n:=λf n e=>by
  rw[mb]at e;rcases VU.two U.ok e with i|⟨_,i⟩
  ·exact .inl (bd.gO f n i).1
  ·exact .inr i
 have pu:∀f n,v.env.cells.lookup f=Z n->n≠k:=λf n e i=>by
  rcases mo f n e with t|t
  ·rw[i,<-al]at t;exact absurd (fv (B7 bi) t) (Nat.not_succ_le_self _)
  ·have:=U.Ao t;rw[i,<-al]at this;exact iU _ this
 have g3:∀d∈cF,d≠k:=λd s i=>by
  have:=cd d s;rw[i,<-al]at this;exact iU _ this
 have py:k∉v.aE:=λi=>by
  let@⟨_,⟨@m,bs,_⟩⟩:=gt.gJ.mem i;rw[eq]at bs;have:=cg bs;rw[al]at this;exact iU _ this
 have hd:∀(Q:aA) (m:bc),(∀d∈cF,Q d=Y)->∀d∈cF,ku v [(k,m)] Q d:=λQ m he d s=>by
  refine⟨he d s,?_,?_,.inl (by rw[g1];exact s),λf n e=>(mo f n e).elim (λt=>jR (fk (cd d s) (fv dL (by rw[al]at dL;exact t)))) λt=>(ap d s).2.2.2.2.1 f n t,λo E=>?_⟩
  ·rw[bh];exact ef (fk (cd d s) bi)
  ·exact gt.lN d (by rw[g1];exact s)
  ·rw[ev]at E;have:o=(k,m):=by simpa using E
   rw[this];exact fI (g3 d s)
 have mp:∀hf:ao,hf={D with heap:=ga,toks:=D.toks+([]:List (aD×af)).length}->
   codeAny (aW a.prog a.w) a.A (.compLoop (.ListComp WX [⟨Wh,WG,WV,0⟩] V1 VT) 0 (.ref VH) (.ref k) v.env)
    (compPost (aW a.prog a.w) a.A a.cQ use f2 (.ref k) aG) hf:=by
  rintro hf rfl;refine Kf (λw VE=>∃(b:Nat) (VR:List ar) (Q:aA) (VP:List af) (q:Nat),aH v [(k,{cls:=.type "list",data:=.seq VP.toArray q})] (kn own Wi x) Q VE/\bY VR VP/\VR.length<=sizeLine/\B b VE.heap/\
   (∀d∈cF,Q d=Y)/\W b w VR Q) ?_ pp ?_
  ·rintro w ms ⟨b,VR,N,VP,q,hm,fd,m0,na,nb,fA⟩;rcases turn b w VR N fA with ⟨stop,rc⟩|⟨go,VX,ne,step⟩
   ·have:=F.done v bm bn lv lw b _ ms _ N (λ_ R=>False) hm (hd N _ nb) na stop;rw[ce]at this;refine b0 this λr I O=>?_;let@⟨hw,as⟩:=O;subst hw;let⟨@H,he,R⟩:=as.loc;have re:I.heap.Ns aG H:=by rw[<-bh];exact he
    have E:=as.pin (k,{cls:=.type "list",data:=.seq VP.toArray q}) (by rw[ev];simp);have bv:N k=Y:=E.2.1;have cL:∀d,d≠aG->I.heap.get? d=I.heap.get? d:=λd s=>rfl;have ca:∀d m,D.heap.get? d=Z m->d≠aG:=λd m c=>ef (fk (cg c) bi);have rs:∀d m,D.heap.get? d=Z m->d≠k:=λd m c=>by rw[<-al];exact ef (cg c)
    have am:dX (dT a.stack) cF V0 N D.heap I.heap:=by
     have:=as.base;rw[pt,g1,pr,eq]at this;exact this
    have J:dX (dT a.stack) cF V0 (upd N k<|.lst VR) D.heap I.heap:=
     ⟨λd m c w s a2=>(cL d<|ca d m c).trans<|am.keep d m c w s a2,
      λd m c w s a2=>by
      let⟨@a6,p⟩:=am.slot d m c w s a2;exact⟨a6,(cL d<|ca d m c).trans p⟩,
      λd m c w a2=>by rw[cZ (rs d m c)];exact am.free d m c w a2,
      λd m c a2=>by
      let⟨@Wj,p⟩:=am.there d m c a2;exact⟨Wj,(cL d<|ca d m c).trans p⟩,
      λd z c=>by rw[cZ (hT (am.iN d z c) bv)];exact am.iN d z c,
      λd m z c=>by rw[cZ (hT (am.iA d m z c) bv)];exact am.iA d m z c,
      λd VQ c=>by
      let⟨@sc,p⟩:=am.jc d VQ c;exact⟨sc,by rw[cZ (hT p bv)];exact p⟩⟩
    have nl:∀d m,N d=Z m->d≠aG:=λd m c i=>by
     have:=as.free;rw[bh,<-i,c]at this;cases this
    have sn:dG a.prog a.w (upd N k<|.lst VR) I.heap:=λg m c=>by
     by_cases nm:g=k
     ·subst nm;rw[eW]at c;cases c;exact⟨m0,VP,q,fd,(cL _ be).trans E.1⟩
     ·rw[cZ nm]at c;have:=as.aX g m c;rw[bm,bn]at this;refine this.fF (λd J s p=>(cL d ?_).trans p) (λd p=>by rw[cZ (hT p bv)];exact p) λd z p=>by rw[cZ (hT p bv)];exact p
      rcases s with i|i
      ·rw[i];exact nl g m c
      ·exact nl d _ i
    have sp:aH a G x (upd N k<|.lst VR) I:=U.Cj (VE:=I) (WM:=cF) (by have:=as.os;rw[eq]at this;exact this) J sn as.bare λd s=>⟨(ap d s).2.2.2.1,(ap d s).2.1,(ap d s).2.2.2.2.1,(ap d s).2.2.2.2.2⟩;have ss:a.env.locals≠aG:=by
     let⟨@v4,sw,R⟩:=U.loc;let⟨m,R,@R,bs,R⟩:=sw;exact ca _ _ bs
    have sB:∀f n,a.env.cells.lookup f=Z n->n≠aG:=λf n e=>by
     let⟨u,@m,bs,R⟩:=U.cell f n e;exact ca _ _ bs
    refine pm k aG _ I H sp re ?_ ss sB ?_ (λo E=>ca _ _ (U.pin o E).1) (rc k bv)
    ·rw[cZ (fI be)];have:=as.free
     rwa [bh]at this
    ·exact fv U.je bi
   ·have:=F.item v bm bn lv lw b _ ms _ N (λ_ R=>False) hm (hd N _ nb) na go;rw[ce]at this;refine b0 this λr I O=>?_;let⟨@J,hw,sK⟩:=O;subst hw;refine b0 sK λ_ ch O=>?_;let⟨f,@h0,s0,nB,s1,ii,s2⟩:=O;have s3:=s0.pinned (hd h0 _ s2) (F.obj _ _ ii);have nn:=lm _ ch _ h0 f J _ s3 nB (step f h0 s1);rw[bm,bn,ce,g2]at nn;refine b0 nn λ_ s4 O=>?_;let⟨ci,@s5,to,tt,ty⟩:=O;have no:=ln _ s4 ci s5 _ to ty;rw[bm,bn,ce,g2]at no;refine b0 no λd tz O=>?_;let⟨@np,fn,fr⟩:=O;have ns:∀{nw:a8}{Q:aA}{VE:ao},aH v ([(k,{cls:=.type "list",data:=.seq VP.toArray q})]++n2 cF ch.heap) nw Q VE->(∀d∈cF,Q d=Y)/\B (b+1) VE.heap:=λ{nw Q VE} cl=>by
     refine⟨λd s=>?_,F.keep _ _ _ ii λd s m c=>(cl.pin (d,m)<|ez _<|ez _<|tH s c).1⟩;let⟨@m,c,R⟩:=F.obj _ _ ii d s;exact (cl.pin (d,m)<|ez _<|ez _<|tH s c).2.1
    have cx:∀{im:List (ae×bc)}{Q:aA}{VE:ao},aH v im ci Q VE->aH v im (kn own Wi x) Q VE:=λ{im Q VE} cl=>
     cl.weak (by rw[cl.len,hm.len]) tt;cases d with
    |false=>
     rw[aP eu]at fr;let⟨@io,it,t0⟩:=ne _ _ fr;rw[aP eu];let@⟨V8,Wd⟩:=ns fn;exact⟨io,it,b+1,VR,np,VP,q,cx (fn.qj λo E=>fn.pin o (by
      rw[ev];simp at E ⊢;exact .inl E)),fd,m0,Wd,V8,t0⟩
    |true=>
     rw[aJ rfl]at fr ⊢;have of:=ls _ tz ci np _ fn fr;rw[bm,bn,ce,g2]at of;refine b0 of λS a1 O=>?_;let⟨t1,@jp,f0,t3,v6,ul⟩:=O;let⟨@io,it,un⟩:=ne _ _ ul;have E:=f0.pin (k,{cls:=.type "list",data:=.seq VP.toArray q}) (ez _ (eL _ ↥0));have kt:=E.1;refine m6 E1 ⟨_,kt,rfl⟩ Gs (El _ _) (Ft k VP.toArray q S (by rw[cX,<-fd.length];lia)) ⟨kt,?_⟩;have p:=ES kt (λg=>g.push S);let@⟨V8,Wd⟩:=ns f0;have up:aH v (n2 cF ch.heap) ci jp a1:=f0.qj λo E=>f0.pin o (ez _<|ez _ E);have ol:∀d m,d≠k->a1.heap.get? d=Z m->(a1.heap.update k<|bc.mapSeq λg=>g.push S).get? d=Z m:=λd m s c=>(iZ a1.heap _<|fI s).trans c;have us:aH v (n2 cF ch.heap) ci jp {a1 with heap:=a1.heap.update k (bc.mapSeq λg=>g.push S),toks:=a1.toks}:=
      up.turned (VH:=k) ol E.2.1 (by rw[bh];exact be) (.inr (by rw[eq,al];exact bT _)) pu λo f1=>by
       rw[ev]at f1;let@⟨s,_⟩:=GU (show o∈n2 cF ch.heap by simpa using f1);exact g3 _ s
     refine⟨io,it,b+1,VR++[t1],jp,VP++[S],q+1,cx<|us.qj λo f1=>?_,fd.append<|.cons t3 .nil,?_,?_,V8,un⟩
     ·have c:o=(k,{cls:=.type "list",data:=.seq (VP++[S]).toArray (q+1)}):=by simpa using f1
      subst c;refine⟨?_,E.2.1,E.2.2.1,E.2.2.2.1,λu i=>by cases i⟩;have ut:VP.toArray.push S=(VP++[S]).toArray:=by simp
      rw[<-ut];have on:IsL (a1.heap.update k<|bc.mapSeq λg=>g.push S) k (VP.toArray.push S) (if (VP.toArray.push S).size==VP.toArray.size then q else q+1):=p;rw[aP ↥0]at on;exact on
     ·rw[d7,ko];lia
     ·refine F.keep _ _ _ Wd λd s m c=>ol d m (g3 d s) c
  ·refine⟨0,[],V0,[],0,?_,.nil,kZ _,F.keep _ _ _ f8 λd R m c=>gl d m c,λd s=>(ap d s).1,jW⟩;refine (li _).qj λo E=>?_;have c:o=(k,{cls:=.type "list",data:=.seq ([]:List af).toArray 0}):=by simpa using E
   subst c;exact⟨lf,U.aX.fresh (by rw[al];exact bT _),by rw[bh];exact be,py,λu i=>by cases i⟩
 have u8:uP V1 (cs++k6 a.env V1.names) aG a.env=v.env:=mb.symm;show codeAny (aW a.prog a.w) a.A (.compStart _ 0 (.ref VH) (.ref k)<|uP V1 (cs++k6 a.env V1.names) aG a.env) _ _;rw[u8];exact codeAny_compStart_list (mp _ rfl) (F.self a.A 0 _ _ _ (F.keep _ _ _ f8 λd R m c=>gl d m c)<|mp _ rfl)
def T5{ck:j3->cf}(q:a.calm=V)(VU:iK a V1 own Wi)(VF:lq a Wh WG W2)(r:∀b,ks (a.gd (f7 a own Wi) V1 b) Wh<|L b)(s:∀b,sh (a.gd (f7 a own Wi) V1 b) WV<|T b)(t:∀b,bW (a.gd (f7 a own Wi) V1 b) WX<|ck b)(VN:∀f,mQ WG a.env f=pure f:=by intro W;rfl):bW a (.ListComp WX [⟨Wh,WG,WV,0⟩] V1 VT) (vY own Wi W2 L T ck):=by
 intro G h x j D l e;show wpAny _ a.A (AX (.ListComp WX [⟨Wh,WG,WV,0⟩] V1 VT) V1 a.env _ (u4 []) aq (b_ WG a.env) Y) _ _ h;refine GI (use:=Y) (f2:=eP a G x D) q VU VF r s t VN l e λk aG u g H v w N M n i o p=>?_;show ∃H,g.heap.Ns aG H/\∀VB,aY.SameBut aG g.heap VB->eP a G x D (.ref k) {g with heap:=VB};refine⟨H,w,λVB cm=>⟨.ref k,u,?_,rfl,p⟩⟩;exact v.turned (VH:=aG) (We:=g.toks) (λd m y c=>(cm.2 d y).trans c) N (fI M) (.inr i) n o
end
def jj(e:aY)(s:ae)(VG:List af)(WB:Nat):Prop:=(∃m U,e.get? s=Z m/\m.ExactDict/\m.data=.dict U WB/\U.toList.map (·.key)=VG)
def jj.ty(f:jj h.heap s VG WB):h.TypeIs (.ref s) "dict" := let ⟨m,_,c,n,_⟩:=f;⟨m,c,n.1⟩
def jj.lt(f:jj e s VG WB):s<e.objs.size:=let ⟨_,_,c,_⟩:=f;cg c
def jj.go{VB:aY}(f:jj e s VG WB)(q:∀m,e.get? s=Z m->VB.get? s=Z m):jj VB s VG WB:=let ⟨m,U,c,r⟩:=f;⟨m,U,q m c,r⟩
section
variable{VO:bF}{y:bj}{P:bE}{VD:af->ao->Prop}{h:ao}
def NY{D:af->ao->Prop}(E:(s==jf)=aq)(f:jj h.heap s VG WB)(p:D (.ref h.heap.objs.size) {h with heap:=h.heap.push {cls:=.type "dict_keyiterator",data:=.fields #[.ref s,.int 0 0,.int VG.length 0,.int WB 0]} }):wpAny (aW VO y) P (vF<|.ref s) D VD h:=by
 have ty:=f.ty;let⟨m,@U,a,d,b,c⟩:=f;have w:U.size=VG.length:=by rw[<-c,bB,f6]
 refine wpAny_pyIter_slot ty IW (iW IW ty F.entry_dict_iter ?i<|F.args_dict_iter_1 _)
 case i=>
  unfold bx.«dict.__iter__» bx.Dict.dictSlotNone;refine ax (ax<|DW ty ?_);show wpAny _ _ (pure<|af.ref s) _ _ h;apply ba;show wpAny _ _ (bx.Dict.showsAll s >>= _) _ _ h;unfold bx.Dict.showsAll;rw[aP (by rw[E];simp)];refine ax (ba<|ax<|vS a b<|ax<|xG a b<|ax<|i0<|ba ⟨_,rfl,"dict_keyiterator",_,⟨_,dr _ rfl,rfl⟩,r7.lookup,?_⟩);simpa [ja,w] using p
def Q7{u:af}(a:h.heap.IsKeyIter VH s b VG.length WB)(f:jj h.heap s VG WB)(d:VG[b]?=Z u)(p:∀VB,VB.IsKeyIter VH s (b+1) VG.length WB->aY.SameBut VH h.heap VB->D (Z u) {h with heap:=VB}):wpAny (aW VO y) P (gF<|.ref VH) D VD h:=by
 let⟨@o,e,n,c⟩:=id a;let⟨m,@U,g,q,j,k⟩:=f;have w:U.size=VG.length:=by rw[<-k,bB,f6]
 have VF:b<U.size:=by
  have:b<VG.length:=(fY.mp d).1;lia
 have W3:U[b].key=u:=by
  rw[<-k,hb,hq,FN VF]at d;exact Option.some.inj d
 unfold gF;refine ax (n_<|kz (name:=aD.ofString "__next__") a.typeIs r7<|iW r7 a.typeIs Ef ?i<|EM _)
 case i=>
  refine ax (ba<|ax<|ax ?_);refine ax (uL a.typeIs<|ba<|ax<|Hh e c ?_);simp only[show bx.Dict_items.ownsTuple "dict_keyiterator" = aq by decide,gk,fy];show wpAny _ _ (if (af.ref s==af.none)=V then _ else _) _ _ h;rw[aP (show ¬ (af.ref s==af.none)=V by intro i;cases i)];refine ax (ba<|ax<|vS g j ?_);rw[aP (by simp[w])];refine ax (ba<|ax<|xG g j ?_);rw[aP ↥0];apply ba;simp only[show ¬ ((b:Int)<0) by lia,fy,rg,FN VF];refine ax (ax<|uL a.typeIs<|ba<|ax<|Gj a.typeIs ?_);show wpAny _ _ (setField (.ref VH) 1 (ja<|(b:Int)+1) >>= _) _ _ h;have l:(h.heap.update VH (bc.mapFields (·.setIfInBounds 1 (ja<|(b:Int)+1)))).IsKeyIter VH s (b+1) VG.length WB:=
   ⟨_,oI _ e<|EZ<|va c _,(Jr ..).trans n,by rw[va c];simp[ja]⟩;refine ax (u_ e c ↥0 (ax (h1 (ax (Gj (s:={h with heap:=h.heap.update VH (bc.mapFields (·.setIfInBounds 1 (ja<|(b:Int)+1)))}) l.typeIs ?_)))));show wpAny _ _ (pure U[b].key) _ _ _;rw[W3];exact ba (ba ⟨_,rfl,ba<|p _ l<|wH ..⟩)
def K4(l:P.handled=Y)(a:h.heap.IsKeyIter VH s b VG.length WB)(f:jj h.heap s VG WB)(o:VG.length<=b)(p:∀VB,aY.ExtBut VH h.heap VB->D Y {h with heap:=VB}):wpAny (aW VO y) P (gF<|.ref VH) D VD h:=by
 let⟨@q,c,r,e⟩:=id a;let⟨m,@U,j,t,k,n⟩:=f;have w:U.size=VG.length:=by rw[<-n,bB,f6]
 unfold gF;refine ax (n_<|kz (name:=aD.ofString "__next__") a.typeIs r7<|iW r7 a.typeIs Ef ?i<|EM _)
 case i=>
  refine ax (ba<|ax<|ax ?_);refine ax (uL a.typeIs<|ba<|ax<|Hh c e ?_);simp only[show bx.Dict_items.ownsTuple "dict_keyiterator" = aq by decide,gk,fy];show wpAny _ _ (if (af.ref s==af.none)=V then _ else _) _ _ h;rw[aP (show ¬ (af.ref s==af.none)=V by intro i;cases i)];refine ax (ba<|ax<|vS j k ?_);rw[aP (by simp[w])];refine ax (ba<|ax<|xG j k ?_);rw[aP ↥0];apply ba;simp only[show ¬ ((b:Int)<0) by lia,fy,rg,Array.getElem?_eq_none (show U.size<=b by lia)];refine ax (ax<|uL a.typeIs<|ba ?_);show wpAny _ _ (setField (.ref VH) 0 .none >>= _) _ _ h;refine ax (u_ c e ↥0 ?_);show wpAny _ _ (vf (.type "StopIteration") [] >>= _) _ _ _;apply ax;simp only[vf,xa];refine ax (i0 (ax (m:=uu _ _) (vZ (a:=af.none) (by first|rfl|(simp only[uu];rfl)) (i0 ?_ (by size_fits)))) (by size_fits));simp only[raiseNew];apply ax;apply EC;rw[show P.in1.handled=Y from l];refine ax (m:=pure _) (ba<|wpAny_throw ?_);apply ax;refine tV (T := "StopIteration") (b:=V) ⟨_,dr _ rfl,rfl⟩ Ah ?_;exact ba (p _<|((wH ..).extBut.push _).push _)
theorem Qt(j:P.handled=Y)(VH s:ae)(ne:s≠VH)(VG:List af)(WB:Nat):lj VO y P VH [VH,s] [VH] VG.length (λb u=>VG[b]?=Z u) (λb e=>e.IsKeyIter VH s b VG.length WB/\jj e s VG WB) where
 sub:=λd k=>by
  have:d=VH:=by simpa using k
  simp[this]
 frame:=λb e VB X q=>⟨let ⟨m,c,r⟩:=X.1;⟨m,q VH ↥0 m c,r⟩,X.2.go (q s ↥0)⟩
 item:=λb h D VD VF X a=>by
  have i:VG[b]?=Z VG[b]:=by simp[VF]
  refine Q7 X.1 X.2 i λVB g d=>a _ VB h.toks i ⟨g,X.2.go λm c=>d.extBut s m ne c⟩ λn m f c=>d.extBut n m ⇑f c
 done:=λh D VD X a=>K4 j X.1 X.2 (bT _) λVB d=>a VB h.toks λn m f c=>d n m ⇑f c
 self:=λb h D VD X a=>wpAny_pyIter_keyiter X.1 a
theorem Tv(E:(s==jf)=aq):PySem.W.KdlSrc VO y "dict" s s VG.length (λb u=>VG[b]?=Z u) (λe=>jj e s VG WB) where
 type:=λh f=>f.ty
 there:=λe f=>⟨f.lt,f.lt⟩
 keep:=λe VB f q=>f.go (q s<|.inl rfl)
 notList:=by decide
 notTuple:=by decide
 hint:=λP VD h D f p=>PySem.W.kdl_hint_dict f.ty p
 iter:=λP h a f=>⟨_,_,(λVD D p=>NY E f p),Qt a _ s (ef f.lt) VG WB,⟨⟨_,dr _ rfl,rfl,rfl⟩,f.go λm c=>b4 _ c⟩⟩
end
end L2
namespace L2
open Spec PyProof.Rows PySem.W
section
variable{w:Nat}{S:Nat->Int}{f:Nat->Nat->(Bool->ao->Prop)->ao->Prop}
def bl(S:Nat->Int)(o:Array Nat)(b:Nat):Int:=(S (o.getD b 0))
def ia(S:Nat->Int)(o:Array Nat)(H:Nat):Prop:=(∀b v,b<=v->v<H->bl S o b<=bl S o v)
def f9(w:Nat)(S:Nat->Int)(f:Nat->Nat->(Bool->ao->Prop)->ao->Prop)(h:ao):Prop:=(∀b v aG,b<w->v<w->aG (decide (S b<S v)) h->f b v aG h)
def dd(w:Nat)(o:Array Nat):Prop:=(o.toList.Perm (range w))
variable{o:Array Nat}
def dd.size(e:dd w o):o.size=w:=by
 have:=e.length_eq;simpa using this
def dd.lt(e:dd w o){b:Nat}(VF:b<w):o.getD b 0<w:=by
 have VN:=e.size;have c:o.getD b 0=o[b]:=by simp[Array.getD,VN,VF]
 rw[c];have:o[b]∈o.toList:=by simp
 exact i8.mp (e.mem_iff.mp this)
def dd.ne(e:dd w o)(inj:∀b v,b<w->v<w->S b=S v->b=v){b v:Nat}(i:b<v)(a:v<w):bl S o b≠bl S o v:=by
 intro c;have VN:=e.size;have d:=inj _ _ (e.lt (by omega)) (e.lt a) c;have f:o.getD b 0=o[b]:=by simp[Array.getD,VN,show b<w by omega]
 have g:o.getD v 0=o[v]:=by simp[Array.getD,VN,a]
 rw[f,g]at d;have ah:o.toList.Nodup:=e.nodup_iff.mpr Cq;have h:o.toList[b]'(by simpa [VN] using (show b<w by omega))=o.toList[v]'(by simpa [VN] using a):=by simpa using d
 have:=(Gr ah).mp h;omega
def nK{p:Array Nat}{b v:Nat}(c:o[b]?=p[v]?):bl S o b=bl S p v:=by
 unfold bl;rw[Fm,Fm,c]
theorem dd.rev(e:dd w o)(b v:Nat):dd w (nf o b v):=(Cb.mp<|mirror_perm o b v _).trans e
theorem dd.Mc(e:dd w o)(b v:Nat):dd w (sT o b v):=(Cb.mp<|bubble_perm o b v).trans e
end
section
variable{VO:bF}{y:bj}{P:bE}{VD:af->ao->Prop}{V6:gU}{VH:Array bu}{S:Nat->Int}{w:Nat}{h:ao}
def p_:Bool->bu->Array bu->Nat->Nat->Nat->StateT bH eo (Option Nat):=(sortPriv% PySem.Builtin.gallop)
def ts(a:f9 w S (fC VO y P V6 VH) h){b v:Nat}(VF:b<w)(c:v<w){X:bH}(d:kindOf X=V6){D:Option Bool->bH->ao->Prop}(e:D (Z<|decide (S b<S v)) X h):
  kasC (aW VO y) P VD (lt' (bp VH b)<|bp VH v) D X h:=by
 rw[lt'_eq];apply bw;apply kC;have:=a b v (λn VE=>VE=h/\n=decide (S b<S v)) VF c ⟨rfl,rfl⟩;unfold fC at this;rw[d];refine bw (ov<|n_<|gT this (λn VE f=>?_) λ_ W g=>g.elim);let@⟨rfl,rfl⟩:=f;exact bq e
theorem hi{x WL:Type}{aC:gw}{N:Nat->WL->StateT x eo (ForInStep WL)}{D:WL->x->ao->Prop}(l:Nat->WL->x->ao->Prop)(step:∀f n X VE,l f n X VE->kasC aC P VD (N f n) (λr b d=>match r with | .yield a=>l (f+1) a b d | .done a=>D a b d) X VE):∀(H g:Nat) (n:WL) (X:x) (VE:ao),(∀n X VE,l (g+H) n X VE->D n X VE)->l g n X VE->
   kasC aC P VD (forIn (range' g H) n N) D X VE
 |0,g,n,X,VE,fin,e=>by
  show kasC aC P VD (forIn ([]:List Nat) n N) D X VE;exact kasC_nil (fin n X VE e)
 |H+1,g,n,X,VE,fin,e=>by
  show kasC aC P VD (forIn (g::range' (g+1) H) n N) D X VE;refine kasC_cons (gT (step g n X VE e) (λr d VB=>?_) λ_ W c=>c);let⟨r,b⟩:=r;cases r with
  |done a=>exact VB
  |yield a=>exact hi l step H (g+1) a b d (λn X VE VF=>fin n X VE (by rw[show g+(H+1)=g+1+H by lia];exact VF)) VB
def c2(S:Nat->Int)(left:Bool)(q:Nat)(bU:Array Nat)(VM b:Nat):Bool:=(if left=V then decide (S (bU.getD (VM+b) 0)<S q) else !decide (S q<S (bU.getD (VM+b) 0)))
def Jd(O:f9 w S (fC VO y P V6 VH) h){left:Bool}{q:Nat}(Q:q<w){bU:Array Nat}(am:∀b,b<bU.size->bU.getD b 0<w){VM H a:Nat}(a1:VM+H<=bU.size)(an:a<H)(mono:∀b v,b<=v->v<H->c2 S left q bU VM v=V->c2 S left q bU VM b=V){X:bH}(R:kindOf X=V6){D:Option Nat->bH->ao->Prop}(e:∀r,r<=H->(∀b,b<r->c2 S left q bU VM b=V)->(∀b,r<=b->b<H->c2 S left q bU VM b=aq)->D (Z r) X h):
  kasC (aW VO y) P VD (p_ left (bp VH q) (bU.map<|bp VH) VM H a) D X h:=by
 have ap:∀b,b<H->(bU.map<|bp VH)[VM+b]?=Z (bp VH<|bU.getD (VM+b) 0):=λb VF=>by
  have:VM+b<bU.size:=⋯
  simp[Array.getD,this]
 have ask:∀b,b<H->∀N:Option Bool->bH->ao->Prop,N (Z<|c2 S left q bU VM b) X h->
   kasC (aW VO y) P VD (do let f <-elem' (bU.map<|bp VH) (VM+b);if left=V then lt' f (bp VH q) else do let r <-lt' (bp VH q) f;pure (r.map λf=>!f)) N X h:=λb VF N J=>by
  rw[uy,ap b VF];apply bw;apply bq;have T:=am (VM+b) ⋯;unfold c2 at J;cases left with
  |true=>
   rw[aJ rfl]at J ⊢;exact ts O T Q R J
  |false=>
   rw[aP eu]at J ⊢;exact bw (ts O Q T R<|bq J)
 unfold p_;with_unfolding_all refine bw ?_;refine ask a an _ ?_;dsimp only;cases U:c2 S left q bU VM a with
 |true=>
  rw[aJ rfl];apply bw;apply gg;have G:∀last i,last<i->a+last<H->c2 S left q bU VM (a+last)=V->(i >= H-a\/c2 S left q bU VM (a+i)=aq)->
    a+last+1<=a+min i (H-a)/\a+min i (H-a)<=H/\(∀b,b<a+last+1->c2 S left q bU VM b=V)/\(∀b,a+min i (H-a)<=b->b<H->c2 S left q bU VM b=aq)/\a+min i (H-a)-(a+last+1)<=H-0:=λlast i as al M F=>by
   refine⟨⋯,⋯,λb VF=>mono b (a+last) ⋯ al M,λb A C=>?_,⋯⟩;rcases F with F|F
   ·lia
   ·cases t:c2 S left q bU VM b with
    |false=>rfl
    |true=>rw[mono (a+i) b ⋯ C t]at F;cases F
  refine hi (λf n l VE=>l=X/\VE=h/\∃last i,n=(Y,last,i)/\last<i/\f<i/\a+last<H/\c2 S left q bU VM (a+last)=V) ?_ _ 0 _ _ _ ?_ ⟨rfl,rfl,0,1,rfl,⋯,⋯,⋯,U⟩
  ·rintro f n l VE ⟨m,o,last,i,rfl,A,C,j,k⟩;rw[m,o];dsimp only;by_cases I:i >= H-a
   ·rw[aJ I];apply bq;dsimp only;have u:=G last i A j k (.inl I);apply bw;apply gg;refine hi (λf n l VE=>l=X/\VE=h/\∃E VF,n=(Y,E,VF)/\E<=VF/\VF<=H/\(∀b,b<E->c2 S left q bU VM b=V)/\(∀b,VF<=b->b<H->c2 S left q bU VM b=aq)/\VF-E<=H-f) ?_ _ 0 _ _ _ ?_ ⟨rfl,rfl,_,_,rfl,u⟩
    ·rintro f n l VE ⟨m,o,E,VF,rfl,A,C,j,k,x⟩;rw[m,o];dsimp only;by_cases s:E >= VF
     ·rw[aJ s];apply bq;dsimp only;have c:E=VF:=⋯
      subst c;exact bq (e E C j k)
     ·rw[aP s];have z:E<=E+(VF-E)/2:=⋯
      have B:E+(VF-E)/2<VF:=⋯
      generalize E+(VF-E)/2=mid at z B ⊢;refine bw (ask mid ⋯ _ ?_);dsimp only;cases p:c2 S left q bU VM mid with
      |true=>
       rw[aJ rfl];exact bq ⟨rfl,rfl,mid+1,VF,rfl,⋯,C,λb L=>mono b mid ⋯ ⋯ p,k,⋯⟩
      |false=>
       rw[aP eu];refine bq ⟨rfl,rfl,E,mid,rfl,⋯,⋯,j,λb g d=>?_,⋯⟩;cases t:c2 S left q bU VM b with
       |false=>rfl
       |true=>rw[mono mid b g d t]at p;cases p
    ·rintro n l VE ⟨m,o,E,VF,rfl,A,C,j,k,x⟩;rw[m,o];dsimp only;have c:E=VF:=⋯
     subst c;exact bq (e E C j k)
   ·rw[aP I];refine bw (ask (a+i) ⋯ _ ?_);dsimp only;cases p:c2 S left q bU VM (a+i) with
    |true=>
     simp only[y0,gk,fy];exact bq ⟨rfl,rfl,i,2*i+1,rfl,⋯,⋯,⋯,p⟩
    |false=>
     simp only[Bool.not_false,fl];apply bq;dsimp only;have u:=G last i A j k (.inr p);apply bw;apply gg;refine hi (λf n l VE=>l=X/\VE=h/\∃E VF,n=(Y,E,VF)/\E<=VF/\VF<=H/\(∀b,b<E->c2 S left q bU VM b=V)/\(∀b,VF<=b->b<H->c2 S left q bU VM b=aq)/\VF-E<=H-f) ?_ _ 0 _ _ _ ?_ ⟨rfl,rfl,_,_,rfl,u⟩
     ·rintro f n l VE ⟨m,o,E,VF,rfl,A,C,j,k,x⟩;rw[m,o];dsimp only;by_cases s:E >= VF
      ·rw[aJ s];apply bq;dsimp only;have c:E=VF:=⋯
       subst c;exact bq (e E C j k)
      ·rw[aP s];have z:E<=E+(VF-E)/2:=⋯
       have B:E+(VF-E)/2<VF:=⋯
       generalize E+(VF-E)/2=mid at z B ⊢;refine bw (ask mid ⋯ _ ?_);dsimp only;cases p:c2 S left q bU VM mid with
       |true=>
        rw[aJ rfl];exact bq ⟨rfl,rfl,mid+1,VF,rfl,⋯,C,λb L=>mono b mid ⋯ ⋯ p,k,⋯⟩
       |false=>
        rw[aP eu];refine bq ⟨rfl,rfl,E,mid,rfl,⋯,⋯,j,λb g d=>?_,⋯⟩;cases t:c2 S left q bU VM b with
        |false=>rfl
        |true=>rw[mono mid b g d t]at p;cases p
     ·rintro n l VE ⟨m,o,E,VF,rfl,A,C,j,k,x⟩;rw[m,o];dsimp only;have c:E=VF:=⋯
      subst c;exact bq (e E C j k)
  ·rintro n l VE ⟨m,o,last,i,rfl,A,C,j,k⟩;rw[m,o];dsimp only;have u:=G last i A j k (.inl ⋯);apply bw;apply gg;refine hi (λf n l VE=>l=X/\VE=h/\∃E VF,n=(Y,E,VF)/\E<=VF/\VF<=H/\(∀b,b<E->c2 S left q bU VM b=V)/\(∀b,VF<=b->b<H->c2 S left q bU VM b=aq)/\VF-E<=H-f) ?_ _ 0 _ _ _ ?_ ⟨rfl,rfl,_,_,rfl,u⟩
   ·rintro f n l VE ⟨m,o,E,VF,rfl,A,C,j,k,x⟩;rw[m,o];dsimp only;by_cases s:E >= VF
    ·rw[aJ s];apply bq;dsimp only;have c:E=VF:=⋯
     subst c;exact bq (e E C j k)
    ·rw[aP s];have z:E<=E+(VF-E)/2:=⋯
     have B:E+(VF-E)/2<VF:=⋯
     generalize E+(VF-E)/2=mid at z B ⊢;refine bw (ask mid ⋯ _ ?_);dsimp only;cases p:c2 S left q bU VM mid with
     |true=>
      rw[aJ rfl];exact bq ⟨rfl,rfl,mid+1,VF,rfl,⋯,C,λb L=>mono b mid ⋯ ⋯ p,k,⋯⟩
     |false=>
      rw[aP eu];refine bq ⟨rfl,rfl,E,mid,rfl,⋯,⋯,j,λb g d=>?_,⋯⟩;cases t:c2 S left q bU VM b with
      |false=>rfl
      |true=>rw[mono mid b g d t]at p;cases p
   ·rintro n l VE ⟨m,o,E,VF,rfl,A,C,j,k,x⟩;rw[m,o];dsimp only;have c:E=VF:=⋯
    subst c;exact bq (e E C j k)
 |false=>
  rw[aP eu];apply bw;apply gg;have G:∀last i,last<i->last<=a->c2 S left q bU VM (a-last)=aq->(i >= a+1\/c2 S left q bU VM (a-i)=V)->
    a+1-min i (a+1)<=a-last/\a-last<=H/\(∀b,b<a+1-min i (a+1)->c2 S left q bU VM b=V)/\(∀b,a-last<=b->b<H->c2 S left q bU VM b=aq)/\a-last-(a+1-min i (a+1))<=H-0:=λlast i as al M F=>by
   refine⟨⋯,⋯,λb VF=>?_,λb A C=>?_,⋯⟩
   ·rcases F with F|F
    ·lia
    ·exact mono b (a-i) ⋯ ⋯ F
   ·cases t:c2 S left q bU VM b with
    |false=>rfl
    |true=>rw[mono (a-last) b ⋯ C t]at M;cases M
  refine hi (λf n l VE=>l=X/\VE=h/\∃last i,n=(Y,last,i)/\last<i/\f<i/\last<=a/\c2 S left q bU VM (a-last)=aq) ?_ _ 0 _ _ _ ?_ ⟨rfl,rfl,0,1,rfl,⋯,⋯,⋯,U⟩
  ·rintro f n l VE ⟨m,o,last,i,rfl,A,C,j,k⟩;rw[m,o];dsimp only;by_cases I:i >= a+1
   ·rw[aJ I];apply bq;dsimp only;have u:=G last i A j k (.inl I);apply bw;apply gg;refine hi (λf n l VE=>l=X/\VE=h/\∃E VF,n=(Y,E,VF)/\E<=VF/\VF<=H/\(∀b,b<E->c2 S left q bU VM b=V)/\(∀b,VF<=b->b<H->c2 S left q bU VM b=aq)/\VF-E<=H-f) ?_ _ 0 _ _ _ ?_ ⟨rfl,rfl,_,_,rfl,u⟩
    ·rintro f n l VE ⟨m,o,E,VF,rfl,A,C,j,k,x⟩;rw[m,o];dsimp only;by_cases s:E >= VF
     ·rw[aJ s];apply bq;dsimp only;have c:E=VF:=⋯
      subst c;exact bq (e E C j k)
     ·rw[aP s];have z:E<=E+(VF-E)/2:=⋯
      have B:E+(VF-E)/2<VF:=⋯
      generalize E+(VF-E)/2=mid at z B ⊢;refine bw (ask mid ⋯ _ ?_);dsimp only;cases p:c2 S left q bU VM mid with
      |true=>
       rw[aJ rfl];exact bq ⟨rfl,rfl,mid+1,VF,rfl,⋯,C,λb L=>mono b mid ⋯ ⋯ p,k,⋯⟩
      |false=>
       rw[aP eu];refine bq ⟨rfl,rfl,E,mid,rfl,⋯,⋯,j,λb g d=>?_,⋯⟩;cases t:c2 S left q bU VM b with
       |false=>rfl
       |true=>rw[mono mid b g d t]at p;cases p
    ·rintro n l VE ⟨m,o,E,VF,rfl,A,C,j,k,x⟩;rw[m,o];dsimp only;have c:E=VF:=⋯
     subst c;exact bq (e E C j k)
   ·rw[aP I];refine bw (ask (a-i) ⋯ _ ?_);dsimp only;cases p:c2 S left q bU VM (a-i) with
    |false=>
     rw[aP eu];exact bq ⟨rfl,rfl,i,2*i+1,rfl,⋯,⋯,⋯,p⟩
    |true=>
     rw[aJ rfl];apply bq;dsimp only;have u:=G last i A j k (.inr p);apply bw;apply gg;refine hi (λf n l VE=>l=X/\VE=h/\∃E VF,n=(Y,E,VF)/\E<=VF/\VF<=H/\(∀b,b<E->c2 S left q bU VM b=V)/\(∀b,VF<=b->b<H->c2 S left q bU VM b=aq)/\VF-E<=H-f) ?_ _ 0 _ _ _ ?_ ⟨rfl,rfl,_,_,rfl,u⟩
     ·rintro f n l VE ⟨m,o,E,VF,rfl,A,C,j,k,x⟩;rw[m,o];dsimp only;by_cases s:E >= VF
      ·rw[aJ s];apply bq;dsimp only;have c:E=VF:=⋯
       subst c;exact bq (e E C j k)
      ·rw[aP s];have z:E<=E+(VF-E)/2:=⋯
       have B:E+(VF-E)/2<VF:=⋯
       generalize E+(VF-E)/2=mid at z B ⊢;refine bw (ask mid ⋯ _ ?_);dsimp only;cases p:c2 S left q bU VM mid with
       |true=>
        rw[aJ rfl];exact bq ⟨rfl,rfl,mid+1,VF,rfl,⋯,C,λb L=>mono b mid ⋯ ⋯ p,k,⋯⟩
       |false=>
        rw[aP eu];refine bq ⟨rfl,rfl,E,mid,rfl,⋯,⋯,j,λb g d=>?_,⋯⟩;cases t:c2 S left q bU VM b with
        |false=>rfl
        |true=>rw[mono mid b g d t]at p;cases p
     ·rintro n l VE ⟨m,o,E,VF,rfl,A,C,j,k,x⟩;rw[m,o];dsimp only;have c:E=VF:=⋯
      subst c;exact bq (e E C j k)
  ·rintro n l VE ⟨m,o,last,i,rfl,A,C,j,k⟩;rw[m,o];dsimp only;have u:=G last i A j k (.inl ⋯);apply bw;apply gg;refine hi (λf n l VE=>l=X/\VE=h/\∃E VF,n=(Y,E,VF)/\E<=VF/\VF<=H/\(∀b,b<E->c2 S left q bU VM b=V)/\(∀b,VF<=b->b<H->c2 S left q bU VM b=aq)/\VF-E<=H-f) ?_ _ 0 _ _ _ ?_ ⟨rfl,rfl,_,_,rfl,u⟩
   ·rintro f n l VE ⟨m,o,E,VF,rfl,A,C,j,k,x⟩;rw[m,o];dsimp only;by_cases s:E >= VF
    ·rw[aJ s];apply bq;dsimp only;have c:E=VF:=⋯
     subst c;exact bq (e E C j k)
    ·rw[aP s];have z:E<=E+(VF-E)/2:=⋯
     have B:E+(VF-E)/2<VF:=⋯
     generalize E+(VF-E)/2=mid at z B ⊢;refine bw (ask mid ⋯ _ ?_);dsimp only;cases p:c2 S left q bU VM mid with
     |true=>
      rw[aJ rfl];exact bq ⟨rfl,rfl,mid+1,VF,rfl,⋯,C,λb L=>mono b mid ⋯ ⋯ p,k,⋯⟩
     |false=>
      rw[aP eu];refine bq ⟨rfl,rfl,E,mid,rfl,⋯,⋯,j,λb g d=>?_,⋯⟩;cases t:c2 S left q bU VM b with
      |false=>rfl
      |true=>rw[mono mid b g d t]at p;cases p
   ·rintro n l VE ⟨m,o,E,VF,rfl,A,C,j,k,x⟩;rw[m,o];dsimp only;have c:E=VF:=⋯
    subst c;exact bq (e E C j k)
end
section
variable{S:Nat->Int}
def cE(S:Nat->Int)(M:List Nat):Prop:=(M.Pairwise λf t=>S f<=S t)
structure Kk(S:Nat->Int)(i l:List Nat)(k:List Nat)(z B:Nat):Prop where
 perm:k.Perm (i.take z++l.take B)
 aO:cE S (k++i.drop z)
 cm:cE S (k++l.drop B)
 bU:z+1<i.length
 dh:B<l.length
variable{M H:List Nat}
def fJ:cE S (M++H)↔cE S M/\cE S H/\∀f∈M,∀t∈H,S f<=S t:=List.pairwise_append
def qm(M:List Nat)(b q:Nat):M.take b++(M.drop b).take q=M.take (b+q):=by rw[List.take_add]
variable{i l k:List Nat}{z B:Nat}
def tB(q:Nat)(perm:k.Perm (i.take z++l.take B))(aO:cE S (k++i.drop z))(cm:cE S (k++l.drop B))(e:∀f∈(i.drop z).take q,∀t∈l.drop B,S f<=S t):
  (k++(i.drop z).take q).Perm (i.take (z+q)++l.take B)/\cE S (k++(i.drop z).take q++i.drop (z+q))/\cE S (k++(i.drop z).take q++l.drop B):=by
 refine⟨?_,?_,?_⟩
 ·rw[<-qm i z q];refine (perm.append_right _).trans ?_;rw[bz,bz];exact en _ dx
 ·rw[bz,<-ox,gq];exact aO
 ·rw[bz];have b:=fJ.mp aO;have c:=fJ.mp cm;refine fJ.mpr ⟨b.1,fJ.mpr ⟨b.2.1.sublist<|wi _ _,c.2.1,e⟩,λf d t a=>?_⟩;rcases dy.mp a with a|a
  ·exact b.2.2 f d t (q_ a)
  ·exact c.2.2 f d t a
def xy(q:Nat)(perm:k.Perm (i.take z++l.take B))(aO:cE S (k++i.drop z))(cm:cE S (k++l.drop B))(e:∀f∈(l.drop B).take q,∀t∈i.drop z,S f<=S t):
  (k++(l.drop B).take q).Perm (i.take z++l.take (B+q))/\cE S (k++(l.drop B).take q++i.drop z)/\cE S (k++(l.drop B).take q++l.drop (B+q)):=by
 have:=tB (i:=l) (l:=i) q (perm.trans dx) cm aO e;exact⟨this.1.trans dx,this.2.2,this.2.1⟩
variable{b:Nat}
def kL(e:b<M.length):(M.drop b).take 1=[M.getD b 0]:=by
 rw[jZ e,cR,fL e];rfl
variable{t:Nat}
def kc(e:t∈M.drop b):∃v,b<=v/\v<M.length/\t=M.getD v 0:=by
 let⟨v,a,c⟩:=vT.mp e;have d:=a;rw[gQ]at d;exact⟨b+v,⋯,⋯,by rw[<-c,rq];simp[List.getD,show b+v<M.length by lia]⟩
variable{q:Nat}
def ps(e:t∈(M.drop b).take q):∃v,v<q/\b+v<M.length/\t=M.getD (b+v) 0:=by
 let⟨v,a,c⟩:=vT.mp e;have d:=a;rw[h5,gQ]at d;exact⟨v,by omega,by omega,by rw[<-c,t5,rq];simp[List.getD,show b+v<M.length by omega]⟩
def oq(e:cE S M){b v:Nat}(c:b<=v)(a:v<M.length):S (M.getD b 0)<=S (M.getD v 0):=by
 rcases Nat.lt_or_eq_of_le c with d|rfl
 ·have:=p6.mp e b v ⋯ a d;simpa [List.getD,a,show b<M.length by lia] using this
 ·exact lY _
theorem Bp(e:cE S (M++H)):cE S H:=(fJ.mp e).2.1
def q8{v:Nat}(e:cE S (k++M.drop b))(a:b<=v)(c:v<=q)(d:q<M.length):S (M.getD v 0)<=S (M.getD q 0):=by
 have:=oq (Bp e) (b:=v-b) (v:=q-b) ⋯ (by rw[gQ];lia);simpa [List.getD,nC,show b+(v-b)=v by lia,show b+(q-b)=q by lia] using this
def g4(S:Nat->Int)(VH:Array bu)(i l:List Nat)(out:Array bu):Prop:=(∃k:List Nat,out=(k.map<|bp VH).toArray/\k.Perm (i++l)/\cE S k)
variable{VH:Array bu}
def rj(perm:k.Perm (i.take z++l.take B))(aO:cE S (k++i.drop z))(cm:cE S (k++l.drop B))(a:B=l.length\/z=i.length):
  g4 S VH i l ((k.map<|bp VH).toArray++(i.map<|bp VH).toArray.extract z (i.map<|bp VH).toArray.size++(l.map<|bp VH).toArray.extract B (l.map<|bp VH).toArray.size):=by
 refine⟨k++i.drop z++l.drop B,?_,?_,?_⟩
 ·apply kN;simp[mx,vv]
 ·rw[bz];refine (perm.append_right _).trans ?_;have:(i.take z++l.take B++(i.drop z++l.drop B)).Perm ((i.take z++i.drop z)++(l.take B++l.drop B)):=by
   rw[bz,bz];refine en _ ?_;rw[<-bz,<-bz];exact fw _ dx
  rw[gq,gq]at this;exact this
 ·rcases a with c|c
  ·rw[c,yl,cj];exact aO
  ·rw[c,yl,cj];exact cm
def tO(perm:k.Perm (i.take z++l.take B))(aO:cE S (k++i.drop z))(cm:cE S (k++l.drop B))(c:z+1=i.length)(dc:∀f∈l,S f<=S (i.getD (i.length-1) 0)):
  g4 S VH i l ((k.map<|bp VH).toArray++(l.map<|bp VH).toArray.extract B (l.map<|bp VH).toArray.size++(i.map<|bp VH).toArray.extract z (i.map<|bp VH).toArray.size):=by
 refine⟨k++l.drop B++i.drop z,?_,?_,?_⟩
 ·apply kN;simp[mx,vv]
 ·rw[bz];refine (perm.append_right _).trans ?_;have:(i.take z++l.take B++(l.drop B++i.drop z)).Perm ((i.take z++i.drop z)++(l.take B++l.drop B)):=by
   rw[bz,bz];refine en _ ?_;rw[<-bz];exact dx
  rw[gq,gq]at this;exact this
 ·refine fJ.mpr ⟨cm,Bp aO,λf a t b=>?_⟩;rcases dy.mp a with a|a
  ·exact (fJ.mp aO).2.2 f a t b
  ·let⟨@v,A,C,rfl⟩:=kc b;have:v=i.length-1:=⋯
   rw[this];exact dc f (mV a)
end
section
variable{VO:bF}{y:bj}{P:bE}{VD:af->ao->Prop}{V6:gU}{VH:Array bu}{S:Nat->Int}{w:Nat}{h:ao}
def B1:Array bu->Array bu->StateT bH eo (Array bu):=(sortPriv% PySem.Builtin.mergeLo)
structure dI(r X:bH):Prop where
 k:kindOf X=kindOf r
 a:arrOf X=arrOf r
 p:iw X=iw r
 f:h9 X=h9 r
def dI.refl(X:bH):dI X X:=⟨rfl,rfl,rfl,rfl⟩
def iv{x V7:Type}{aC:gw}{H:StateT x eo V7}{D a:V7->x->ao->Prop}{X:x}{VE:ao}(e:kasC aC P VD H a X VE)(L:∀g X VE,a g X VE->D g X VE):kasC aC P VD H D X VE:=
 gT e (λr VE f=>L r.1 r.2 VE f) λ_ W c=>c
variable{M:List Nat}
def gA{b:Nat}(VF:b<M.length){X:bH}{D:bu->bH->ao->Prop}(e:D (bp VH<|M.getD b 0) X h):kasC (aW VO y) P VD (elem' (M.map<|bp VH).toArray b) D X h:=by
 rw[uy,show ((M.map<|bp VH).toArray)[b]?=Z (bp VH<|M.getD b 0) by simp[List.getD,VF]];exact bq e
def j8(a:∀f∈M,f<w){b:Nat}(VF:b<M.length):M.getD b 0<w:=by
 rw[cR,fL VF];exact a _ (IP VF)
def lW(M:List Nat)(b:Nat):M.toArray.getD b 0=M.getD b 0:=by simp[Array.getD,List.getD];split<;>simp_all
def x_(c:f9 w S (fC VO y P V6 VH) h){q:Nat}(i:q<w){M:List Nat}(j:∀f∈M,f<w){VM H a:Nat}(k:VM+H<=M.length)(l:a<H)(mono:∀b v,VM<=b->b<=v->v<VM+H->S (M.getD b 0)<=S (M.getD v 0)){X:bH}(m:kindOf X=V6){D:Option Nat->bH->ao->Prop}(e:∀r,r<=H->(∀b,VM<=b->b<VM+r->S (M.getD b 0)<=S q)->(∀b,VM+r<=b->b<VM+H->S q<S (M.getD b 0))->D (Z r) X h):
  kasC (aW VO y) P VD (p_ aq (bp VH q) (M.map<|bp VH).toArray VM H a) D X h:=by
 rw[<-FK];refine Jd c i (λb VF=>by rw[lW];exact j8 j ⇑VF) ⇑k l (λb v p s n=>?_) m λr o g d=>e r o (λb A C=>?_) (λb A C=>?_)
 ·simp only[c2,lW,gk,fy,vR,y1,zC]at n ⊢;have:=mono (VM+b) (VM+v) ⋯ ⋯ ⋯;lia
 ·have:=g (b-VM) ⋯;simp only[c2,lW,gk,fy,vR,y1,zC]at this
  rwa [show VM+(b-VM)=b by lia]at this
 ·have:=d (b-VM) ⋯ ⋯;simp only[c2,lW,gk,fy,Bool.not_eq_false',uF]at this
  rwa [show VM+(b-VM)=b by lia]at this
def xd(c:f9 w S (fC VO y P V6 VH) h){q:Nat}(i:q<w){M:List Nat}(j:∀f∈M,f<w){VM H a:Nat}(k:VM+H<=M.length)(l:a<H)(mono:∀b v,VM<=b->b<=v->v<VM+H->S (M.getD b 0)<=S (M.getD v 0)){X:bH}(m:kindOf X=V6){D:Option Nat->bH->ao->Prop}(e:∀r,r<=H->(∀b,VM<=b->b<VM+r->S (M.getD b 0)<S q)->(∀b,VM+r<=b->b<VM+H->S q<=S (M.getD b 0))->D (Z r) X h):
  kasC (aW VO y) P VD (p_ V (bp VH q) (M.map<|bp VH).toArray VM H a) D X h:=by
 rw[<-FK];refine Jd c i (λb VF=>by rw[lW];exact j8 j ⇑VF) ⇑k l (λb v p s n=>?_) m λr o g d=>e r o (λb A C=>?_) (λb A C=>?_)
 ·simp only[c2,lW,fl,uF]at n ⊢;have:=mono (VM+b) (VM+v) ⋯ ⋯ ⋯;lia
 ·have:=g (b-VM) ⋯;simp only[c2,lW,fl,uF]at this
  rwa [show VM+(b-VM)=b by lia]at this
 ·have:=d (b-VM) ⋯ ⋯;simp only[c2,lW,fl,y1,zC]at this
  rwa [show VM+(b-VM)=b by lia]at this
def pV(k:List Nat)(t:Nat):(k.map<|bp VH).toArray.push (bp VH t)=((k++[t]).map<|bp VH).toArray:=by simp
def ER(k M:List Nat)(b q:Nat):(k.map<|bp VH).toArray++(M.map<|bp VH).toArray.extract b (b+q)=((k++(M.drop b).take q).map<|bp VH).toArray:=by
 apply kN;simp[mx,ly,tk]
end
section
variable{VO:bF}{y:bj}{P:bE}{VD:af->ao->Prop}{V6:gU}{VH:Array bu}{S:Nat->Int}{w:Nat}{h:ao}
def ip(S:Nat->Int)(VH:Array bu)(i l:List Nat)(out:Array bu)(z B:Nat):Prop:=(∃k:List Nat,out=(k.map<|bp VH).toArray/\Kk S i l k z B)
variable{x V7:Type}
def FZ{aC:gw}{P:bE}{VD:af->ao->Prop}{n:Nat->Prop}{b:∀L,Decidable (n L)}{g VJ:Nat->StateT x eo V7}{D:V7->x->ao->Prop}{X:x}{h:ao}(f:Nat->Nat)(a:∀L,g L=VJ (f L))(j:∀L,kasC aC P VD (VJ L) D X h):∀L,kasC aC P VD (if n L then g L else VJ L) D X h:=by
 intro L;rw[a];split
 ·exact j _
 ·exact j _
variable{n:Prop}
def u2{aC:gw}{P:bE}{VD:af->ao->Prop}{i:Decidable n}{a Wk:Array bu->Nat->StateT x eo V7}{D:V7->x->ao->Prop}{X:x}{h:ao}(c d:Array bu->Nat->Prop)(j:∀m b,d m b->kasC aC P VD (Wk m b) D X h)(f:¬ n->∀m b,c m b->d m b)(g:(∀m b,d m b->kasC aC P VD (Wk m b) D X h)->n->∀m b,c m b->kasC aC P VD (a m b) D X h):∀m b,c m b->kasC aC P VD (if n then a m b else Wk m b) D X h:=λm b o=>
 if e:n then by rw[aJ e];exact g j e m b o else by rw[aP e];exact j m b (f e m b o)
def CH{aC:gw}{P:bE}{VD:af->ao->Prop}{N:bH->bH}{D:PUnit->bH->ao->Prop}{r X:bH}{h:ao}(VN:dI r (N X))(e:∀a,dI r a->D ⟨⟩ a h):kasC aC P VD (modify N:StateT bH eo PUnit) D X h:=lA (e _ VN)
def rD(S:Nat->Int)(VH:Array bu)(i l:List Nat)(X:bH)(h:ao): Option (Array bu)×Array bu×Nat×Nat×Nat->bH->ao->Prop:=(λn b VE=>h=VE/\dI X b/\∃a o p r L,n=(Z a,o,p,r,L)/\g4 S VH i l a)
def rQ(S:Nat->Int)(VH:Array bu)(i l:List Nat)(X:bH)(h:ao)(f:Nat):Option (Array bu)×Array bu×Nat×Nat×Nat->bH->ao->Prop:=(λn a VE=>h=VE/\dI X a/\∃m z B L,n=(Y,m,z,B,L)/\ip S VH i l m z B/\f+1<=z+B)
def lP(S:Nat->Int)(VH:Array bu)(i l:List Nat)(X:bH)(h:ao)(f:Nat):Option (Array bu)×Array bu×Nat×Nat×Nat×Nat->bH->ao->Prop:=(λn c VE=>h=VE/\dI X c/\((∃b o p r ac a,n=(Z b,o,p,r,ac,a)/\g4 S VH i l b)\/∃m z B ac a,n=(Y,m,z,B,ac,a)/\ip S VH i l m z B/\f+2<=z+B))
def pG(S:Nat->Int)(VH:Array bu)(i l:List Nat)(X:bH)(h:ao)(f t:Nat):Option (Array bu)×Array bu×Nat×Nat×Nat×Nat->bH->ao->Prop:=(λn a VE=>h=VE/\dI X a/\∃m z B ac b,n=(Y,m,z,B,ac,b)/\ip S VH i l m z B/\f+1+t<=z+B)
def jQ(S:Nat->Int)(VH:Array bu)(i l:List Nat)(X:bH)(h:ao)(f:Nat):Option (Array bu)×Array bu×Nat×Nat×Nat×Nat×Nat->bH->ao->Prop:=(λn c VE=>h=VE/\dI X c/\((∃b o p r L ac a,n=(Z b,o,p,r,L,ac,a)/\g4 S VH i l b)\/∃m z B L ac a,n=(Y,m,z,B,L,ac,a)/\ip S VH i l m z B/\f+2<=z+B))
def tf(S:Nat->Int)(VH:Array bu)(i l:List Nat)(X:bH)(h:ao)(f t:Nat):Option (Array bu)×Array bu×Nat×Nat×Nat×Nat×Nat->bH->ao->Prop:=(λn a VE=>h=VE/\dI X a/\∃m z B L ac b,n=(Y,m,z,B,L,ac,b)/\ip S VH i l m z B/\f+2<=z+B)
def rD.a{S:Nat->Int}{VH:Array bu}{i l:List Nat}{X b:bH}{h:ao}{out:Array bu}{o:Array bu}{p r:Nat}{L:Nat}(e:dI X b)(H:g4 S VH i l out):rD S VH i l X h (Z out,o,p,r,L) b h:=⟨rfl,e,_,_,_,_,_,rfl,H⟩
def rQ.k{S:Nat->Int}{VH:Array bu}{i l:List Nat}{X a:bH}{h:ao}{f:Nat}{m:Array bu}{z B:Nat}{L:Nat}(e:dI X a)(v:ip S VH i l m z B)(c:f+1<=z+B):rQ S VH i l X h f (Y,m,z,B,L) a h:=⟨rfl,e,_,_,_,_,rfl,v,c⟩
def lP.a{S:Nat->Int}{VH:Array bu}{i l:List Nat}{X b:bH}{h:ao}{f:Nat}{out:Array bu}{o:Array bu}{p r:Nat}{L c:Nat}(e:dI X b)(H:g4 S VH i l out):lP S VH i l X h f (Z out,o,p,r,L,c) b h:=⟨rfl,e,.inl ⟨_,_,_,_,_,_,rfl,H⟩⟩
def lP.b{S:Nat->Int}{VH:Array bu}{i l:List Nat}{X a:bH}{h:ao}{f:Nat}{m:Array bu}{z B:Nat}{L g:Nat}(e:dI X a)(v:ip S VH i l m z B)(c:f+2<=z+B):lP S VH i l X h f (Y,m,z,B,L,g) a h:=⟨rfl,e,.inr ⟨_,_,_,_,_,rfl,v,c⟩⟩
def pG.k{S:Nat->Int}{VH:Array bu}{i l:List Nat}{X a:bH}{h:ao}{f t:Nat}{m:Array bu}{z B:Nat}{L b:Nat}(e:dI X a)(v:ip S VH i l m z B)(c:f+1+t<=z+B):pG S VH i l X h f t (Y,m,z,B,L,b) a h:=⟨rfl,e,_,_,_,_,_,rfl,v,c⟩
def jQ.a{S:Nat->Int}{VH:Array bu}{i l:List Nat}{X b:bH}{h:ao}{f:Nat}{out:Array bu}{o:Array bu}{p r:Nat}{L c d:Nat}(e:dI X b)(H:g4 S VH i l out):jQ S VH i l X h f (Z out,o,p,r,L,c,d) b h:=⟨rfl,e,.inl ⟨_,_,_,_,_,_,_,rfl,H⟩⟩
def jQ.b{S:Nat->Int}{VH:Array bu}{i l:List Nat}{X a:bH}{h:ao}{f:Nat}{m:Array bu}{z B:Nat}{L g j:Nat}(e:dI X a)(v:ip S VH i l m z B)(c:f+2<=z+B):jQ S VH i l X h f (Y,m,z,B,L,g,j) a h:=⟨rfl,e,.inr ⟨_,_,_,_,_,_,rfl,v,c⟩⟩
def tf.k{S:Nat->Int}{VH:Array bu}{i l:List Nat}{X a:bH}{h:ao}{f t:Nat}{m:Array bu}{z B:Nat}{L b d:Nat}(e:dI X a)(v:ip S VH i l m z B)(c:f+2<=z+B):tf S VH i l X h f t (Y,m,z,B,L,b,d) a h:=⟨rfl,e,_,_,_,_,_,_,rfl,v,c⟩
def NA{g d:Nat}(e:g=d):(g==d)=V:=by simp[e]
def OU{g d:Nat}(e:¬ g=d):¬ (g==d)=V:=by simp[e]
def mK{aC:gw}{P:bE}{VD:af->ao->Prop}{g:Nat}{M:List Nat}{f t:StateT x eo V7}{D:V7->x->ao->Prop}{X:x}{h:ao}(a:g=M.length->kasC aC P VD f D X h)(b:¬ g=M.length->kasC aC P VD t D X h):kasC aC P VD (if (g==(List.map (bp VH) M).toArray.size)=V then f else t) D X h:=by
 rw[show (List.map (bp VH) M).toArray.size=M.length by simp];by_cases e:g=M.length
 ·rw[aJ (NA e)];exact a e
 ·rw[aP (OU e)];exact b e
def mO{aC:gw}{P:bE}{VD:af->ao->Prop}{c:Decidable n}{f t:StateT x eo V7}{D:V7->x->ao->Prop}{X:x}{h:ao}(a:n->kasC aC P VD f D X h)(b:¬ n->kasC aC P VD t D X h):kasC aC P VD (if n then f else t) D X h:=if e:n then by rw[aJ e];exact a e else by rw[aP e];exact b e
def LF(a:f9 w S (fC VO y P V6 VH) h){q:Nat}(c:q<w){M:List Nat}(i:∀f∈M,f<w){VM:Nat}(l:VM<M.length)(mono:∀b v,VM<=b->b<=v->v<M.length->S (M.getD b 0)<=S (M.getD v 0)){X:bH}(j:kindOf X=V6){D:Option Nat->bH->ao->Prop}(e:∀r,VM+r<=M.length->(∀b,VM<=b->b<VM+r->S (M.getD b 0)<=S q)->(∀b,VM+r<=b->b<M.length->S q<S (M.getD b 0))->D (Z r) X h):
  kasC (aW VO y) P VD (p_ aq (bp VH q) (M.map<|bp VH).toArray VM ((M.map<|bp VH).toArray.size-VM) 0) D X h:=by
 rw[show (M.map<|bp VH).toArray.size=M.length by simp];exact x_ a c i ⋯ ⋯ (λb v g d n=>mono b v g d ⋯) j λr A C k=>e r ⋯ C λb g d=>k b g ⋯
def Oa(a:f9 w S (fC VO y P V6 VH) h){q:Nat}(c:q<w){M:List Nat}(i:∀f∈M,f<w){VM:Nat}(l:VM<M.length)(mono:∀b v,VM<=b->b<=v->v<M.length->S (M.getD b 0)<=S (M.getD v 0)){X:bH}(j:kindOf X=V6){D:Option Nat->bH->ao->Prop}(e:∀r,VM+r<=M.length->(∀b,VM<=b->b<VM+r->S (M.getD b 0)<S q)->(∀b,VM+r<=b->b<M.length->S q<=S (M.getD b 0))->D (Z r) X h):
  kasC (aW VO y) P VD (p_ V (bp VH q) (M.map<|bp VH).toArray VM ((M.map<|bp VH).toArray.size-VM) 0) D X h:=by
 rw[show (M.map<|bp VH).toArray.size=M.length by simp];exact xd a c i ⋯ ⋯ (λb v g d n=>mono b v g d ⋯) j λr A C k=>e r ⋯ C λb g d=>k b g ⋯
def PD(bd:f9 w S (fC VO y P V6 VH) h){i l:List Nat}(be:∀f∈i,f<w)(bi:∀f∈l,f<w)(ex:cE S i)(fd:cE S l)(WE:0<i.length)(A:0<l.length)(first:∀f∈i,S (l.getD 0 0)<=S f)(dc:∀f∈l,S f<=S (i.getD (i.length-1) 0)){X:bH}(ce:kindOf X=V6){D:Array bu->bH->ao->Prop}(e:∀out C,g4 S VH i l out->dI X C->D out C h):
  kasC (aW VO y) P VD (B1 (i.map<|bp VH).toArray (l.map<|bp VH).toArray) D X h:=by
 have bm:[l.getD 0 0].Perm (i.take 0++l.take 1):=by
  have:=kL (M:=l) (b:=0) A;simp only[mC]at this;rw[this];exact List.Perm.refl _
 have bn:cE S ([l.getD 0 0]++l.drop 1):=by
  have:=kL (M:=l) (b:=0) A;simp only[mC]at this;rw[<-this,gq];exact fd
 have bs:cE S ([l.getD 0 0]++i.drop 0):=fJ.mpr ⟨fN _ _,by rw[mC];exact ex,λf c t s=>by
  rw[cH.mp c];exact first t (by rwa [mC]at s)⟩
 have hf:(List.map (bp VH) i).toArray.size=i.length:=by simp
 have hm:(List.map (bp VH) l).toArray.size=l.length:=by simp
 unfold B1;with_unfolding_all refine bw (ov<|iu ?_);refine bw (gA A ?_);refine mK (λch=>bq<|e _ _ (rj bm bs bn<|.inl ch)<|dI.refl X) λch=>?_;refine mK (λci=>bq<|e _ _ (tO bm bs bn ci dc)<|dI.refl X) λci=>?_;refine bw (kC ?_);refine bw (iv (a:=rD S VH i l X h) (gg (hi (rQ S VH i l X h) ?step _ 0 _ _ _ ?fin (rQ.k (dI.refl X) ⟨_,rfl,bm,bs,bn,⋯,⋯⟩ ⋯))) ?after)
 case after=>
  rintro n C VE ⟨rfl,VN,co,m,z,B,L,rfl,al⟩;exact bq (e _ _ al VN)
 case fin=>
  rintro n C VE ⟨rfl,VN,m,z,B,L,rfl,⟨k,rfl,H⟩,c⟩;have:=H.bU;have:=H.dh;lia
 case step=>
  rintro f n C VE ⟨rfl,VN,m,z,B,L,rfl,E,c⟩;refine bw (iv (a:=lP S VH i l X h f)
   (gg (hi (pG S VH i l X h f) ?fn _ 0 _ _ _ ?fr (pG.k VN E ⋯))) ?f0)
  case fr=>
   rintro n C VE ⟨rfl,VN,m,z,B,ac,Q,rfl,E,c⟩;exact lP.b VN E ⋯
  case fn=>
   rintro t n C VE ⟨rfl,VN,m,z,B,ac,Q,rfl,⟨k,rfl,H⟩,c⟩;have am:=H.bU;have u:=H.dh;have a1:kindOf C=V6:=VN.k.trans ce;have x:z<i.length:=⋯
   have aU:S (l.getD B 0)<S (i.getD z 0)->(k++[l.getD B 0]).Perm (i.take z++l.take (B+1))/\cE S (k++[l.getD B 0]++i.drop z)/\cE S (k++[l.getD B 0]++l.drop (B+1)):=λan=>by
    have:=xy 1 H.perm H.aO H.cm (λf c t s=>by
     rw[kL u,cH]at c;let⟨@v,bK,R,rfl⟩:=kc s;have:=q8 H.aO (bT _) bK R;rw[c];lia)
    rwa [kL u]at this
   have aV:¬ S (l.getD B 0)<S (i.getD z 0)->(k++[i.getD z 0]).Perm (i.take (z+1)++l.take B)/\cE S (k++[i.getD z 0]++i.drop (z+1))/\cE S (k++[i.getD z 0]++l.drop B):=λan=>by
    have:=tB 1 H.perm H.aO H.cm (λf c t s=>by
     rw[kL x,cH]at c;let⟨@v,bK,R,rfl⟩:=kc s;have:=q8 H.cm (bT _) bK R;rw[c];lia)
    rwa [kL x]at this
   refine bw (gA u<|bw<|gA x<|bw<|ts bd (j8 bi u) (j8 be x) a1 ?_);refine mO (λan=>?_) λan=>?_
   ·have d:=aU ⇑an;refine bw (gA u (mK (λG=>bq (lP.a VN (by rw[pV];exact rj d.1 d.2.1 d.2.2 (.inl G)))) λG=>?_));have J:ip S VH i l ((k.map<|bp VH).toArray.push<|bp VH<|l.getD B 0) z (B+1):=⟨_,pV _ _,d.1,d.2.1,d.2.2,am,⋯⟩;exact mO (λ_=>bq (lP.b VN J ⋯)) λ_=>bq (pG.k VN J ⋯)
   ·have d:=aV ⇑an;refine bw (gA x (mK (λG=>bq (lP.a VN (by rw[pV];exact tO d.1 d.2.1 d.2.2 G dc))) λG=>?_));have J:ip S VH i l ((k.map<|bp VH).toArray.push<|bp VH<|i.getD z 0) (z+1) B:=⟨_,pV _ _,d.1,d.2.1,d.2.2,⋯,u⟩;exact mO (λ_=>bq (lP.b VN J ⋯)) λ_=>bq (pG.k VN J ⋯)
  case f0=>
   rintro n C VE ⟨rfl,VN,⟨co,m,z,B,ac,Q,rfl,al⟩|⟨m,z,B,ac,Q,rfl,E,c⟩⟩
   ·exact bq (rD.a VN al)
   ·refine bw (ov<|iu ?_);refine bw (iv (a:=jQ S VH i l X h f)
     (gg (hi (tf S VH i l X h f) ?f4 _ 0 _ _ _ ?fin2 (tf.k VN E ⋯))) ?f8)
    case fin2=>
     rintro n C VE ⟨rfl,VN,m,z,B,L,ac,Q,rfl,E,c⟩;exact jQ.b VN E ⋯
    case f8=>
     rintro n C VE ⟨rfl,VN,⟨co,m,z,B,L,ac,Q,rfl,al⟩|⟨m,z,B,L,ac,Q,rfl,E,c⟩⟩
     ·exact bq (rD.a VN al)
     ·refine bw (lA ?_);exact bq (rQ.k ⟨VN.k,VN.a,VN.p,VN.f⟩ E ⋯)
    case f4=>
     rintro t n C VE ⟨rfl,VN,m,z,B,L,ac,Q,rfl,⟨k,cr,H⟩,c⟩;have am:=H.bU;have u:=H.dh;dsimp only;revert L;refine FZ (λL=>L-1) ?x ?_
     case x=>exact λL=>rfl
     intro L;refine bw (CH (r:=X) ⟨VN.k,VN.a,VN.p,VN.f⟩ λhw O=>?_);have a1:=O.k.trans ce;refine bw (gA u ?_);refine bw (LF bd (j8 bi u) be (show z<i.length by lia) (λb v g d n=>q8 H.aO g d n) a1 ?_);intro q h0 ga cs;dsimp only;generalize ap:m=Wj;generalize as:z=b;have VJ:Wj=m/\b=z:=⟨ap.symm,as.symm⟩;clear ap as;revert Wj b;refine u2 (λWj b=>Wj=m/\b=z) (λWj b=>ip S VH i l Wj b B/\z<=b/\∀v,b<=v->v<i.length->S (l.getD B 0)<S (i.getD v 0)) ?VL ?f1 ?ge
     case f1=>
      rintro gl Wj b ⟨rfl,rfl⟩;exact⟨⟨k,cr,H⟩,bT _,λv g d=>cs v ⋯ d⟩
     case ge=>
      rintro j _ Wj b ⟨rfl,rfl⟩;try dsimp only
      have F:=tB q H.perm H.aO H.cm (λf c t s=>by
       let⟨@v,go,bK,rfl⟩:=ps c;let⟨@gt,bv,ca,rfl⟩:=kc s;have:=ga (b+v) ⋯ ⋯;have:=q8 H.cm (bT _) bv ca;lia)
      rw[cr,ER];refine mK (λG=>bq<|jQ.a O<|tO F.1 F.2.1 F.2.2 G dc) λG=>?_;refine mK (λdb=>bq<|jQ.a O<|rj F.1 F.2.1 F.2.2<|.inr db) λdb=>?_;exact j _ _ ⟨⟨_,rfl,F.1,F.2.1,F.2.2,⋯,u⟩,⋯,λv g d=>cs v g d⟩
     case VL=>
      rintro Wj b ⟨⟨k,rfl,H⟩,le,g1⟩;have am:=H.bU;try dsimp only
      refine bw (gA u ?_);have Wo:=xy 1 H.perm H.aO H.cm (λf c t s=>by
       rw[kL u,cH]at c;let⟨@v,bK,R,rfl⟩:=kc s;have:=g1 v bK R;rw[c];lia)
      rw[kL u]at Wo;rw[pV];refine mK (λds=>bq<|jQ.a O<|rj Wo.1 Wo.2.1 Wo.2.2<|.inl ds) λds=>?_;have x:b<i.length:=⋯
      refine bw (gA x ?_);refine bw (Oa bd (j8 be x) bi (show B+1<l.length by lia) (λb v g d n=>q8 Wo.2.2 g d n) a1 ?_);intro Wd ii g2 dL;dsimp only;generalize k++[l.getD B 0]=cd at *;generalize im:B+1=a2 at *;generalize ap:(List.map (bp VH) cd).toArray=Wj;generalize as:a2=v;have VJ:Wj=(List.map (bp VH) cd).toArray/\v=a2:=⟨ap.symm,as.symm⟩;clear ap as;revert Wj v;refine u2 (λWj v=>Wj=(List.map (bp VH) cd).toArray/\v=a2) (λWj v=>ip S VH i l Wj b v/\a2<=v/\∀I,v<=I->I<l.length->S (i.getD b 0)<=S (l.getD I 0)) ?V0 ?f2 ?g3
      case f2=>
       rintro gl Wj v ⟨rfl,rfl⟩;exact⟨⟨_,rfl,Wo.1,Wo.2.1,Wo.2.2,am,⋯⟩,bT _,λI g d=>dL I ⋯ d⟩
      case g3=>
       rintro j _ Wj v ⟨rfl,rfl⟩;try dsimp only
       have U:=xy Wd Wo.1 Wo.2.1 Wo.2.2 (λf c t s=>by
        let⟨@I,go,bK,rfl⟩:=ps c;let⟨@gt,bv,ca,rfl⟩:=kc s;have:=g2 (v+I) ⋯ ⋯;have:=q8 Wo.2.1 (bT _) bv ca;lia)
       rw[ER];refine mK (λeq=>bq<|jQ.a O<|rj U.1 U.2.1 U.2.2<|.inl eq) λeq=>?_;exact j _ _ ⟨⟨_,rfl,U.1,U.2.1,U.2.2,am,⋯⟩,⋯,λI g d=>dL I g d⟩
      case V0=>
       rintro Wj v ⟨⟨k,rfl,H⟩,tN,hd⟩;have he:=H.dh;try dsimp only
       refine bw (gA x ?_);have T:=tB 1 H.perm H.aO H.cm (λf c t s=>by
        rw[kL x,cH]at c;let⟨@I,bK,R,rfl⟩:=kc s;rw[c];exact hd I bK R)
       rw[kL x]at T;rw[pV];refine mK (λev=>bq<|jQ.a O<|tO T.1 T.2.1 T.2.2 ev dc) λev=>?_;have J:ip S VH i l ((k++[i.getD b 0]).map<|bp VH).toArray (b+1) v:=⟨_,rfl,T.1,T.2.1,T.2.2,⋯,he⟩;exact mO (λ_=>bq (jQ.b O J ⋯)) λ_=>bq (tf.k O J ⋯)
end
section
variable{VO:bF}{y:bj}{P:bE}{VD:af->ao->Prop}{V6:gU}{VH:Array bu}{S:Nat->Int}{w:Nat}{h:ao}
def HY:Array bu->Array bu->StateT bH eo (Array bu):=(sortPriv% PySem.Builtin.mergeHi)
variable{M:List Nat}{b v:Nat}
def yW(a:b<=v)(d:v<=M.length):M.drop b=(M.take v).drop b++M.drop v:=by
 have c:M.drop b=(M.take v++M.drop v).drop b:=by rw[gq]
 rw[c,List.drop_append_of_le_length (by rw[h5];lia)]
def QA(a:b<=v):M.take b++(M.take v).drop b=M.take v:=by
 have:=gq b (M.take v)
 rwa [w6,p4 a]at this
variable{i l k:List Nat}{a u:Nat}
def uc(q:Nat)(g:q<=a)(j:a<=i.length)(perm:k.Perm (i.drop a++l.drop u))(aO:cE S (i.take a++k))(cm:cE S (l.take u++k))(e:∀f∈(i.take a).drop q,∀t∈l.take u,S t<=S f):
  ((i.take a).drop q++k).Perm (i.drop q++l.drop u)/\cE S (i.take q++((i.take a).drop q++k))/\cE S (l.take u++((i.take a).drop q++k)):=by
 refine⟨?_,?_,?_⟩
 ·rw[yW g j,bz];exact en _ perm
 ·rw[<-bz,QA g];exact aO
 ·have h:=fJ.mp aO;have d:=fJ.mp cm;refine fJ.mpr ⟨d.1,fJ.mpr ⟨h.1.sublist<|xu _ _,d.2.1,λf c t b=>h.2.2 f (mV c) t b⟩,λf c t b=>?_⟩;rcases dy.mp b with b|b
  ·exact e t b f c
  ·exact d.2.2 f c t b
def zN(q:Nat)(b:q<=u)(c:u<=l.length)(perm:k.Perm (i.drop a++l.drop u))(aO:cE S (i.take a++k))(cm:cE S (l.take u++k))(e:∀f∈(l.take u).drop q,∀t∈i.take a,S t<=S f):
  ((l.take u).drop q++k).Perm (i.drop a++l.drop q)/\cE S (i.take a++((l.take u).drop q++k))/\cE S (l.take q++((l.take u).drop q++k)):=by
 have:=uc (i:=l) (l:=i) q b c (perm.trans dx) cm aO e;exact⟨this.1.trans dx,this.2.2,this.2.1⟩
def mf(WE:0<b)(e:b<=M.length):(M.take b).drop (b-1)=[M.getD (b-1) 0]:=by
 rw[tk,show b-(b-1)=1 by lia];exact kL ⋯
variable{t:Nat}
def l7(e:t∈M.take b):∃v,v<b/\v<M.length/\t=M.getD v 0:=by
 have:=ps (b:=0) (q:=b) (t:=t) (M:=M) (by rwa [mC]);let⟨@v,g,d,c⟩:=this;exact⟨v,g,⋯,by rw[c];congr 1;lia⟩
variable{q:Nat}
def Ec(e:t∈(M.take q).drop b):∃v,b<=v/\v<q/\v<M.length/\t=M.getD v 0:=by
 rw[tk]at e;let⟨@v,g,d,c⟩:=ps e;exact⟨b+v,⋯,⋯,d,c⟩
def qh(e:cE S (M.take b++k))(a:v<=q)(c:q<b)(d:q<M.length):S (M.getD v 0)<=S (M.getD q 0):=by
 have:=oq (fJ.mp e).1 (b:=v) (v:=q) a (by rw[h5];lia);simpa [List.getD,o3,show v<b by lia,c] using this
def r3(perm:k.Perm (i.drop a++l.drop u))(aO:cE S (i.take a++k))(cm:cE S (l.take u++k))(b:a=0\/u=0):
  g4 S VH i l ((i.map<|bp VH).toArray.extract 0 a++(l.map<|bp VH).toArray.extract 0 u++(k.reverse.map<|bp VH).toArray.reverse):=by
 refine⟨i.take a++l.take u++k,?_,?_,?_⟩
 ·apply kN;simp[ly]
 ·refine (en _ perm).trans ?_;have:(i.take a++l.take u++(i.drop a++l.drop u)).Perm ((i.take a++i.drop a)++(l.take u++l.drop u)):=by
   rw[bz,bz];refine en _ ?_;rw[<-bz,<-bz];exact fw _ dx
  rw[gq,gq]at this;exact this
 ·rcases b with c|c
  ·rw[c,xe,k7];exact cm
  ·rw[c,xe,cj];exact aO
def tP(perm:k.Perm (i.drop a++l.drop u))(aO:cE S (i.take a++k))(cm:cE S (l.take u++k))(d:u=1)(first:∀f∈i,S (l.getD 0 0)<=S f):
  g4 S VH i l ((l.map<|bp VH).toArray.extract 0 u++(i.map<|bp VH).toArray.extract 0 a++(k.reverse.map<|bp VH).toArray.reverse):=by
 refine⟨l.take u++i.take a++k,?_,?_,?_⟩
 ·apply kN;simp[ly]
 ·refine (en _ perm).trans ?_;have:(l.take u++i.take a++(i.drop a++l.drop u)).Perm ((i.take a++i.drop a)++(l.take u++l.drop u)):=by
   rw[bz,<-bz (i.take a),<-bz (i.take a++i.drop a)];rw[<-bz (l.take u)];exact fw _ dx
  rw[gq,gq]at this;exact this
 ·rw[bz];refine fJ.mpr ⟨(fJ.mp cm).1,aO,λf c t b=>?_⟩;rcases dy.mp b with b|b
  ·let⟨@v,A,C,rfl⟩:=l7 c;have:v=0:=⋯
   rw[this];exact first t (q_ b)
  ·exact (fJ.mp cm).2.2 f c t b
def p1(k:List Nat)(t:Nat):(k.reverse.map<|bp VH).toArray.push (bp VH t)=(([t]++k).reverse.map<|bp VH).toArray:=by simp
def I3(k M:List Nat)(b q:Nat):(k.reverse.map<|bp VH).toArray++((M.map<|bp VH).toArray.extract b q).reverse=(((M.take q).drop b++k).reverse.map<|bp VH).toArray:=by
 apply kN;simp[mx,ly,tk]
structure K5(S:Nat->Int)(i l:List Nat)(k:List Nat)(a u:Nat):Prop where
 perm:k.Perm (i.drop a++l.drop u)
 aO:cE S (i.take a++k)
 cm:cE S (l.take u++k)
 bU:0<a
 dh:1<u
 Ak:a<=i.length
 yo:u<=l.length
def iq(S:Nat->Int)(VH:Array bu)(i l:List Nat)(out:Array bu)(a u:Nat):Prop:=(∃k:List Nat,out=(k.reverse.map<|bp VH).toArray/\K5 S i l k a u)
end
section
variable{VO:bF}{y:bj}{P:bE}{VD:af->ao->Prop}{V6:gU}{VH:Array bu}{S:Nat->Int}{w:Nat}{h:ao}
def rI(S:Nat->Int)(VH:Array bu)(i l:List Nat)(X:bH)(h:ao): Option (Array bu)×Nat×Nat×Array bu×Nat->bH->ao->Prop:=(λn b VE=>h=VE/\dI X b/\∃a o p r L,n=(Z a,o,p,r,L)/\g4 S VH i l a)
def rh(S:Nat->Int)(VH:Array bu)(i l:List Nat)(X:bH)(h:ao)(f:Nat):Option (Array bu)×Nat×Nat×Array bu×Nat->bH->ao->Prop:=(λn b VE=>h=VE/\dI X b/\∃a u m L,n=(Y,a,u,m,L)/\iq S VH i l m a u/\a+u+f+1<=i.length+l.length)
def lT(S:Nat->Int)(VH:Array bu)(i l:List Nat)(X:bH)(h:ao)(f:Nat):Option (Array bu)×Nat×Nat×Array bu×Nat×Nat->bH->ao->Prop:=(λn d VE=>h=VE/\dI X d/\((∃c o p r ac b,n=(Z c,o,p,r,ac,b)/\g4 S VH i l c)\/∃a u m ac b,n=(Y,a,u,m,ac,b)/\iq S VH i l m a u/\a+u+f+2<=i.length+l.length))
def qG(S:Nat->Int)(VH:Array bu)(i l:List Nat)(X:bH)(h:ao)(f t:Nat):Option (Array bu)×Nat×Nat×Array bu×Nat×Nat->bH->ao->Prop:=(λn b VE=>h=VE/\dI X b/\∃a u m ac c,n=(Y,a,u,m,ac,c)/\iq S VH i l m a u/\a+u+f+1+t<=i.length+l.length)
def jI(S:Nat->Int)(VH:Array bu)(i l:List Nat)(X:bH)(h:ao)(f:Nat):Option (Array bu)×Nat×Nat×Array bu×Nat×Nat×Nat->bH->ao->Prop:=(λn d VE=>h=VE/\dI X d/\((∃c o p r L ac b,n=(Z c,o,p,r,L,ac,b)/\g4 S VH i l c)\/∃a u m L ac b,n=(Y,a,u,m,L,ac,b)/\iq S VH i l m a u/\a+u+f+2<=i.length+l.length))
def rU(S:Nat->Int)(VH:Array bu)(i l:List Nat)(X:bH)(h:ao)(f t:Nat):Option (Array bu)×Nat×Nat×Array bu×Nat×Nat×Nat->bH->ao->Prop:=(λn b VE=>h=VE/\dI X b/\∃a u m L ac c,n=(Y,a,u,m,L,ac,c)/\iq S VH i l m a u/\a+u+f+2<=i.length+l.length)
def rI.a{S:Nat->Int}{VH:Array bu}{i l:List Nat}{X b:bH}{h:ao}{out:Array bu}{o p:Nat}{r:Array bu}{L:Nat}(e:dI X b)(H:g4 S VH i l out):rI S VH i l X h (Z out,o,p,r,L) b h:=⟨rfl,e,_,_,_,_,_,rfl,H⟩
def rh.k{S:Nat->Int}{VH:Array bu}{i l:List Nat}{X b:bH}{h:ao}{f:Nat}{a u:Nat}{m:Array bu}{L:Nat}(e:dI X b)(v:iq S VH i l m a u)(c:a+u+f+1<=i.length+l.length):rh S VH i l X h f (Y,a,u,m,L) b h:=⟨rfl,e,_,_,_,_,rfl,v,c⟩
def lT.a{S:Nat->Int}{VH:Array bu}{i l:List Nat}{X b:bH}{h:ao}{f:Nat}{out:Array bu}{o p:Nat}{r:Array bu}{L c:Nat}(e:dI X b)(H:g4 S VH i l out):lT S VH i l X h f (Z out,o,p,r,L,c) b h:=⟨rfl,e,.inl ⟨_,_,_,_,_,_,rfl,H⟩⟩
def lT.b{S:Nat->Int}{VH:Array bu}{i l:List Nat}{X g:bH}{h:ao}{f:Nat}{a u:Nat}{m:Array bu}{L j:Nat}(e:dI X g)(v:iq S VH i l m a u)(c:a+u+f+2<=i.length+l.length):lT S VH i l X h f (Y,a,u,m,L,j) g h:=⟨rfl,e,.inr ⟨_,_,_,_,_,rfl,v,c⟩⟩
def qG.k{S:Nat->Int}{VH:Array bu}{i l:List Nat}{X b:bH}{h:ao}{f t:Nat}{a u:Nat}{m:Array bu}{L d:Nat}(e:dI X b)(v:iq S VH i l m a u)(c:a+u+f+1+t<=i.length+l.length):qG S VH i l X h f t (Y,a,u,m,L,d) b h:=⟨rfl,e,_,_,_,_,_,rfl,v,c⟩
def jI.a{S:Nat->Int}{VH:Array bu}{i l:List Nat}{X b:bH}{h:ao}{f:Nat}{out:Array bu}{o p:Nat}{r:Array bu}{L c d:Nat}(e:dI X b)(H:g4 S VH i l out):jI S VH i l X h f (Z out,o,p,r,L,c,d) b h:=⟨rfl,e,.inl ⟨_,_,_,_,_,_,_,rfl,H⟩⟩
def jI.b{S:Nat->Int}{VH:Array bu}{i l:List Nat}{X g:bH}{h:ao}{f:Nat}{a u:Nat}{m:Array bu}{L j k:Nat}(e:dI X g)(v:iq S VH i l m a u)(c:a+u+f+2<=i.length+l.length):jI S VH i l X h f (Y,a,u,m,L,j,k) g h:=⟨rfl,e,.inr ⟨_,_,_,_,_,_,rfl,v,c⟩⟩
def rU.k{S:Nat->Int}{VH:Array bu}{i l:List Nat}{X b:bH}{h:ao}{f t:Nat}{a u:Nat}{m:Array bu}{L d g:Nat}(e:dI X b)(v:iq S VH i l m a u)(c:a+u+f+2<=i.length+l.length):rU S VH i l X h f t (Y,a,u,m,L,d,g) b h:=⟨rfl,e,_,_,_,_,_,_,rfl,v,c⟩
def mS{aC:gw}{P:bE}{VD:af->ao->Prop}{x V7:Type}{g d:Nat}{f t:StateT x eo V7}{D:V7->x->ao->Prop}{X:x}{h:ao}(a:g=d->kasC aC P VD f D X h)(b:¬ g=d->kasC aC P VD t D X h):kasC aC P VD (if (g==d)=V then f else t) D X h:=mO (λe=>a ⇑e) λe=>b ⇑e
def RE(bn:f9 w S (fC VO y P V6 VH) h){i l:List Nat}(bs:∀f∈i,f<w)(bv:∀f∈l,f<w)(f4:cE S i)(f8:cE S l)(WE:0<i.length)(A:0<l.length)(first:∀f∈i,S (l.getD 0 0)<=S f)(dc:∀f∈l,S f<=S (i.getD (i.length-1) 0)){X:bH}(db:kindOf X=V6){D:Array bu->bH->ao->Prop}(e:∀out x,g4 S VH i l out->dI X x->D out x h):
  kasC (aW VO y) P VD (HY (i.map<|bp VH).toArray (l.map<|bp VH).toArray) D X h:=by
 have be:(List.map (bp VH) i).toArray.size=i.length:=by simp
 have bi:(List.map (bp VH) l).toArray.size=l.length:=by simp
 have ca:=mf WE (bT _);rw[qO]at ca;have cd:[i.getD (i.length-1) 0].Perm (i.drop (i.length-1)++l.drop l.length):=by
  rw[ca,yl];exact List.Perm.refl _
 have ce:cE S (i.take (i.length-1)++[i.getD (i.length-1) 0]):=by
  rw[<-ca,gq];exact f4
 have ch:cE S (l.take l.length++[i.getD (i.length-1) 0]):=fJ.mpr ⟨by rw[qO];exact f8,fN _ _,λf c t s=>by
  rw[cH.mp s];exact dc f (by rwa [qO]at c)⟩
 unfold HY;with_unfolding_all refine bw (ov<|iu ?_);refine bw (gA (show (List.map (bp VH) i).toArray.size-1<i.length by lia) ?_);refine mS (λci=>bq (e _ _ (by rw[be]at ci;rw[be,bi];exact r3 cd ce ch (.inl ci))<|dI.refl X)) λci=>?_;refine mS (λcl=>bq (e _ _ (by rw[bi]at cl;rw[be,bi];exact tP cd ce ch cl first)<|dI.refl X)) λcl=>?_;refine bw (kC ?_);refine bw (iv (a:=rI S VH i l X h) (gg (hi (rh S VH i l X h) ?step _ 0 _ _ _ ?fin (rh.k (dI.refl X) (by rw[be,bi];exact⟨_,rfl,cd,ce,ch,⋯,⋯,⋯,⋯⟩) ⋯))) ?after)
 case after=>
  rintro n x VE ⟨rfl,VN,dL,m,z,B,L,rfl,an⟩;exact bq (e _ _ an VN)
 case fin=>
  rintro n x VE ⟨rfl,VN,a,u,m,L,rfl,⟨k,rfl,H⟩,c⟩;have:=H.bU;have:=H.dh;lia
 case step=>
  rintro f n x VE ⟨rfl,VN,a,u,m,L,rfl,E,c⟩;refine bw (iv (a:=lT S VH i l X h f)
   (gg (hi (qG S VH i l X h f) ?ga _ 0 _ _ _ ?ge (qG.k VN E ⋯))) ?gl)
  case ge=>
   rintro n x VE ⟨rfl,VN,a,u,m,ac,T,rfl,E,c⟩;exact lT.b VN E ⋯
  case ga=>
   rintro t n x VE ⟨rfl,VN,a,u,m,ac,T,rfl,⟨k,rfl,H⟩,c⟩;have F:=H.bU;have co:=H.dh;have C:=H.Ak;have G:=H.yo;have bm:kindOf x=V6:=VN.k.trans db;have J:a-1<i.length:=⋯
   have U:u-1<l.length:=⋯
   have aU:S (l.getD (u-1) 0)<S (i.getD (a-1) 0)->_:=λap=>by
    have:=uc (a-1) ⋯ C H.perm H.aO H.cm (λf c t s=>by
     rw[mf F C,cH]at c;let⟨@v,bK,as,rfl⟩:=l7 s;have:=qh H.cm (show v<=u-1 by lia) ⋯ ⋯;rw[c];lia)
    rw[mf F C]at this;exact this
   have aV:¬ S (l.getD (u-1) 0)<S (i.getD (a-1) 0)->_:=λap=>by
    have:=zN (u-1) ⋯ G H.perm H.aO H.cm (λf c t s=>by
     rw[mf ⋯ G,cH]at c;let⟨@v,bK,as,rfl⟩:=l7 s;have:=qh H.aO (show v<=a-1 by lia) ⋯ ⋯;rw[c];lia)
    rw[mf ⋯ G]at this;exact this
   refine bw (gA U<|bw<|gA J<|bw<|ts bn (j8 bv U) (j8 bs J) bm ?_);refine mO (λap=>?_) λap=>?_
   ·have d:=aU ⇑ap;refine bw (gA J (mS (λO=>bq (lT.a VN (by rw[p1];exact r3 d.1 d.2.1 d.2.2 (.inl O)))) λO=>?_));have Q:iq S VH i l ((k.reverse.map<|bp VH).toArray.push<|bp VH<|i.getD (a-1) 0) (a-1) u:=⟨_,p1 _ _,d.1,d.2.1,d.2.2,⋯,co,⋯,G⟩;exact mO (λ_=>bq (lT.b VN Q ⋯)) λ_=>bq (qG.k VN Q ⋯)
   ·have d:=aV ⇑ap;refine bw (gA U (mS (λO=>bq (lT.a VN (by rw[p1];exact tP d.1 d.2.1 d.2.2 O first))) λO=>?_));have Q:iq S VH i l ((k.reverse.map<|bp VH).toArray.push<|bp VH<|l.getD (u-1) 0) a (u-1):=⟨_,p1 _ _,d.1,d.2.1,d.2.2,F,⋯,C,⋯⟩;exact mO (λ_=>bq (lT.b VN Q ⋯)) λ_=>bq (qG.k VN Q ⋯)
  case gl=>
   rintro n x VE ⟨rfl,VN,⟨dL,m,z,B,ac,T,rfl,an⟩|⟨a,u,m,ac,T,rfl,E,c⟩⟩
   ·exact bq (rI.a VN an)
   ·refine bw (ov<|iu ?_);refine bw (iv (a:=jI S VH i l X h f)
     (gg (hi (rU S VH i l X h f) ?go _ 0 _ _ _ ?fin2 (rU.k VN E ⋯))) ?gt)
    case fin2=>
     rintro n x VE ⟨rfl,VN,a,u,m,L,ac,T,rfl,E,c⟩;exact jI.b VN E ⋯
    case gt=>
     rintro n x VE ⟨rfl,VN,⟨dL,m,z,B,L,ac,T,rfl,an⟩|⟨a,u,m,L,ac,T,rfl,E,c⟩⟩
     ·exact bq (rI.a VN an)
     ·refine bw (lA ?_);exact bq (rh.k ⟨VN.k,VN.a,VN.p,VN.f⟩ E ⋯)
    case go=>
     rintro t n x VE ⟨rfl,VN,a,u,m,L,ac,T,rfl,⟨k,eq,H⟩,c⟩;have F:=H.bU;have co:=H.dh;have C:=H.Ak;have G:=H.yo;have U:u-1<l.length:=⋯
     dsimp only;revert L;refine FZ (λL=>L-1) ?J ?_
     case J=>exact λL=>rfl
     intro L;refine bw (CH (r:=X) ⟨VN.k,VN.a,VN.p,VN.f⟩ λio R=>?_);have bm:=R.k.trans db;refine bw (gA U ?_);refine bw (x_ bn (j8 bv U) bs (VM:=0) (H:=a) (a:=a-1) ⋯ ⋯ (λb v g d n=>qh H.aO d ⋯ ⋯) bm ?_);intro q it ev g2;dsimp only;generalize jp:a-q=kt;generalize a1:m=Wj;generalize a2:a=b;have VJ:Wj=m/\b=a:=⟨a1.symm,a2.symm⟩;clear a1 a2;revert Wj b;refine u2 (λWj b=>Wj=m/\b=a) (λWj b=>iq S VH i l Wj b u/\b<=a/\∀v,v<b->S (i.getD v 0)<=S (l.getD (u-1) 0)) ?VL ?f1 ?g3
     case f1=>
      rintro hd Wj b ⟨rfl,rfl⟩;exact⟨⟨k,eq,H⟩,bT _,λv g=>ev v ⋯ ⋯⟩
     case g3=>
      rintro j _ Wj b ⟨rfl,rfl⟩;try dsimp only
      have am:=uc q ⋯ C H.perm H.aO H.cm (λf c t s=>by
       let⟨@v,he,bK,as,rfl⟩:=Ec c;let⟨@cr,hf,hm,rfl⟩:=l7 s;have:=g2 v ⋯ ⋯;have:=qh H.cm (show cr<=u-1 by lia) ⋯ ⋯;lia)
      rw[eq,I3];refine mS (λO=>bq<|jI.a R<|r3 am.1 am.2.1 am.2.2<|.inl O) λO=>?_;exact j _ _ ⟨⟨_,rfl,am.1,am.2.1,am.2.2,⋯,co,⋯,G⟩,⋯,λv g=>ev v ⋯ ⋯⟩
     case VL=>
      rintro Wj b ⟨⟨k,rfl,H⟩,le,hw⟩;have F:=H.bU;have C:=H.Ak;have J:b-1<i.length:=⋯
      try dsimp only
      refine bw (gA U ?_);have Wo:=zN (u-1) ⋯ G H.perm H.aO H.cm (λf c t s=>by
       rw[mf ⋯ G,cH]at c;let⟨@v,bK,as,rfl⟩:=l7 s;rw[c];exact hw v bK)
      rw[mf ⋯ G]at Wo;rw[p1];refine mS (λex=>bq<|jI.a R<|tP Wo.1 Wo.2.1 Wo.2.2 ex first) λex=>?_;refine bw (gA J ?_);refine bw (xd bn (j8 bs J) bv (VM:=0) (H:=u-1) (a:=u-1-1) ⋯ ⋯ (λb v g d n=>qh Wo.2.2 d ⋯ ⋯) bm ?_);intro Wd kw fd h0;dsimp only;generalize [l.getD (u-1) 0]++k=cs at *;generalize lc:u-1=bd at *;generalize lf:bd-Wd=dO;generalize a1:(List.map (bp VH) cs.reverse).toArray=Wj;generalize a2:bd=v;have VJ:Wj=(List.map (bp VH) cs.reverse).toArray/\v=bd:=⟨a1.symm,a2.symm⟩;clear a1 a2;revert Wj v;refine u2 (λWj v=>Wj=(List.map (bp VH) cs.reverse).toArray/\v=bd) (λWj v=>iq S VH i l Wj b v/\v<=bd/\∀I,I<v->S (l.getD I 0)<S (i.getD (b-1) 0)) ?V0 ?f2 ?ii
      case f2=>
       rintro hd Wj v ⟨rfl,rfl⟩;exact⟨⟨_,rfl,Wo.1,Wo.2.1,Wo.2.2,F,⋯,C,⋯⟩,bT _,λI g=>fd I ⋯ ⋯⟩
      case ii=>
       rintro j _ Wj v ⟨rfl,rfl⟩;try dsimp only
       have M:=zN Wd ⋯ (show v<=l.length by lia) Wo.1 Wo.2.1 Wo.2.2 (λf c t s=>by
        let⟨@I,he,bK,as,rfl⟩:=Ec c;let⟨@cr,hf,hm,rfl⟩:=l7 s;have:=h0 I ⋯ ⋯;have:=qh Wo.2.1 (show cr<=b-1 by lia) ⋯ ⋯;lia)
       rw[I3];refine mS (λfn=>bq<|jI.a R<|tP M.1 M.2.1 M.2.2 fn first) λfn=>?_;refine mS (λfr=>bq<|jI.a R<|r3 M.1 M.2.1 M.2.2<|.inr fr) λfr=>?_;exact j _ _ ⟨⟨_,rfl,M.1,M.2.1,M.2.2,F,⋯,C,⋯⟩,⋯,λI g=>fd I ⋯ ⋯⟩
      case V0=>
       rintro Wj v ⟨⟨k,rfl,H⟩,tN,im⟩;try dsimp only
       refine bw (gA J ?_);have al:=uc (b-1) ⋯ C H.perm H.aO H.cm (λf c t s=>by
        rw[mf F C,cH]at c;let⟨@I,bK,as,rfl⟩:=l7 s;have:=im I bK;rw[c];lia)
       rw[mf F C]at al;rw[p1];refine mS (λf0=>bq<|jI.a R<|r3 al.1 al.2.1 al.2.2<|.inl f0) λf0=>?_;have Q:iq S VH i l (([i.getD (b-1) 0]++k).reverse.map<|bp VH).toArray (b-1) v:=⟨_,rfl,al.1,al.2.1,al.2.2,⋯,H.dh,⋯,H.yo⟩;exact mO (λ_=>bq (jI.b R Q ⋯)) λ_=>bq (rU.k R Q ⋯)
def NB{x:Type}{aC:gw}{D:PUnit->x->ao->Prop}{X a:x}{h:ao}(e:D ⟨⟩ a h):kasC aC P VD (set a:StateT x eo PUnit) D X h:=by
 unfold kasC;rw[StateT.run_set];exact ba e
theorem ya{V7:Type}:∀(M:List V7) (a:List V7) (p d WN:Nat),p+M.length<=a.length->p=WN+d->((M.zipIdx d).foldl (λ(g:Array V7) (f:V7×Nat)=>g.setIfInBounds (WN+f.2) f.1) a.toArray)=(a.take p++M++a.drop (p+M.length)).toArray
 |[],a,p,d,WN,e,c=>by simp
 |f::M,a,p,d,WN,e,c=>by
  rw[dV]at e;rw[sx,nU];dsimp only;rw[<-c,EL,ya M (a.set p f) (p+1) (d+1) WN (by rw[w3];lia) ⋯];congr 1;have h:(a.set p f).take (p+1)=a.take p++[f]:=by
   apply pK;intro b;rw[o3,List.getElem?_append,h5,o3,Ba];by_cases A:b<p
   ·rw[aJ ⋯,aP ⋯,aJ ⋯,aJ A]
   ·by_cases C:b=p
    ·subst C;rw[aJ ⋯,aJ rfl,aJ ⋯,aP ⋯];simp[show b-min b a.length=0 by lia]
    ·rw[aP ⋯,aP ⋯];rw[ye];rw[ko];lia
  have i:(a.set p f).drop (p+1+M.length)=a.drop (p+(M.length+1)):=by
   apply pK;intro b;rw[nC,nC,Ba,aP ⋯];congr 1;lia
  rw[h,i,dV,bz,bz,bz];rfl
def Hy{a c k:List Nat}{q H:Nat}(l:cE S a)(m:cE S c)(p:0<c.length)(r:0<a.length)(A:∀f∈a.take q,S f<=S (c.getD 0 0))(n:∀f∈c.drop H,S (a.getD (a.length-1) 0)<=S f)(i:k.Perm (a.drop q++c.take H))(sp:cE S k):cE S (a.take q++k++c.drop H)/\(a.take q++k++c.drop H).Perm (a++c):=by
 have T:∀t∈c,S (c.getD 0 0)<=S t:=λt e=>by
  let⟨@v,W,j,rfl⟩:=kc (b:=0) (M:=c) (by rwa [mC]);exact oq m (kZ _) j
 have o:∀f∈a,S f<=S (a.getD (a.length-1) 0):=λf d=>by
  let⟨@v,W,j,rfl⟩:=kc (b:=0) (M:=a) (by rwa [mC]);exact oq l (by omega) (by omega)
 have g:cE S (a.take q++a.drop q):=by rwa [gq]
 have h:cE S (c.take H++c.drop H):=by rwa [gq]
 have g:=fJ.mp g;have h:=fJ.mp h;refine⟨fJ.mpr ⟨fJ.mpr ⟨g.1,sp,λf d t e=>?_⟩,h.2.1,λf d t e=>?_⟩,?_⟩
 ·rcases dy.mp (i.mem_iff.mp e) with e|e
  ·exact g.2.2 f d t e
  ·exact zz (A f d) (T t<|q_ e)
 ·rcases dy.mp d with d|d
  ·exact zz (A f d) (T t<|mV e)
  ·rcases dy.mp (i.mem_iff.mp d) with d|d
   ·exact zz (o f<|mV d) (n t e)
   ·exact h.2.2 f d t e
 ·refine (fw _<|en _ i).trans ?_;rw[<-bz,gq,bz,gq]
def QD(O:f9 w S (fC VO y P V6 VH) h){i:List Nat}(C:∀f∈i,f<w){b aO a u bi fd:Nat}{X:bH}(x:PyProof.Rows.kindOf X=V6)(fn:arrOf X=(i.map<|bp VH).toArray)(Q:h9 X=Y)(VF:(iw X)[b]?=Z (aO,a,bi))(G:(iw X)[b+1]?=Z (aO+a,u,fd))(fr:0<a)(bm:0<u)(gl:aO+a+u<=i.length)(z:cE S ((i.drop aO).take a))(B:cE S ((i.drop<|aO+a).take u)){D:Bool->bH->ao->Prop}(e:∀mid r,PyProof.Rows.kindOf r=V6->h9 r=Y->iw r=((iw X).setIfInBounds b (aO,a+u,bi)).eraseIdxIfInBounds (b+1)->mid.Perm ((i.drop aO).take<|a+u)->cE S mid->
   arrOf r=((i.take aO++mid++i.drop (aO+(a+u))).map<|bp VH).toArray->D V r h):
  kasC (aW VO y) P VD (wq b) D X h:=by
 have bn:((i.drop aO).take a).length=a:=by rw[h5,gQ];lia
 have f0:((i.drop<|aO+a).take u).length=u:=by rw[h5,gQ];lia
 have E:∀v,v<a->((i.drop aO).take a).getD v 0=i.getD (aO+v) 0:=λv G=>by simp[List.getD,o3,nC,G]
 have F:∀v,v<u->((i.drop<|aO+a).take u).getD v 0=i.getD (aO+a+v) 0:=λv G=>by simp[List.getD,o3,nC,G]
 have R:(i.drop aO).take a++(i.drop<|aO+a).take u=(i.drop aO).take (a+u):=by rw[<-ox,qm]
 have bs:i.take aO++(i.drop aO).take (a+u)++i.drop (aO+(a+u))=i:=by rw[qm,gq]
 have bv:∀b v,aO<=b->b<=v->v<aO+a->S (i.getD b 0)<=S (i.getD v 0):=λb v g d n=>by
  have:=oq z (b:=b-aO) (v:=v-aO) ⋯ ⋯
  rwa [E _ ⋯,E _ ⋯,show aO+(b-aO)=b by lia,show aO+(v-aO)=v by lia]at this
 have ca:∀b v,aO+a<=b->b<=v->v<aO+a+u->S (i.getD b 0)<=S (i.getD v 0):=λb v g d n=>by
  have:=oq B (b:=b-(aO+a)) (v:=v-(aO+a)) ⋯ ⋯
  rwa [F _ ⋯,F _ ⋯,show aO+a+(b-(aO+a))=b by lia,show aO+a+(v-(aO+a))=v by lia]at this
 have l:∀f∈(i.drop aO).take a,∃v,aO<=v/\v<aO+a/\f=i.getD v 0:=λf m=>by
  let⟨@v,I,bK,rfl⟩:=ps m;exact⟨aO+v,⋯,⋯,rfl⟩
 have cd:∀f∈(i.drop<|aO+a).take u,∃v,aO+a<=v/\v<aO+a+u/\f=i.getD v 0:=λf m=>by
  let⟨@v,I,bK,rfl⟩:=ps m;exact⟨aO+a+v,⋯,⋯,rfl⟩
 unfold wq;with_unfolding_all refine bw (kC ?_);simp only[VF,G,fn];refine bw (NB ?_);refine bw (gA (show aO+a<i.length by lia) ?_);refine bw (x_ O (j8 C (show aO+a<i.length by lia)) C (VM:=aO) (H:=a) (a:=0) ⋯ fr bv (by exact x) ?_);intro q ce ch f2;dsimp only;by_cases ci:a-q=0
 ·rw[aJ ⇑ci];refine bq (e _ _ (by exact x) (by exact Q) rfl (List.Perm.refl _) ?_ ?_)
  ·rw[<-R];refine fJ.mpr ⟨z,B,λf m t T=>?_⟩;let⟨@v,bK,f4,rfl⟩:=l f m;let⟨@U,cl,al,rfl⟩:=cd t T;have:=ch v bK ⋯;have:=ca (aO+a) U ⋯ cl al;lia
  ·rw[bs]
 rw[aP ⇑ci];rw[show aO+q+(a-q)-1=aO+a-1 by lia];refine bw (gA (show aO+a-1<i.length by lia) ?_);refine bw (xd O (j8 C (show aO+a-1<i.length by lia)) C (VM:=aO+a) (H:=u) (a:=u-1) ⋯ ⋯ ca (by exact x) ?_);intro j am f8 co;dsimp only;by_cases cr:j=0
 ·rw[aJ ⇑cr];refine bq (e _ _ (by exact x) (by exact Q) rfl (List.Perm.refl _) ?_ ?_)
  ·rw[<-R];refine fJ.mpr ⟨z,B,λf m t T=>?_⟩;let⟨@v,bK,f4,rfl⟩:=l f m;let⟨@U,cl,al,rfl⟩:=cd t T;have:=co U ⋯ al;have:=bv v (aO+a-1) bK ⋯ ⋯;lia
  ·rw[bs]
 rw[aP ⇑cr];have ga:(i.map<|bp VH).toArray.extract (aO+q) (aO+a)=((((i.drop aO).take a).drop q).map<|bp VH).toArray:=by
  apply kN;simp only[Fe,List.extract_eq_drop_take,mx,ly];rw[tk,ox,show aO+a-(aO+q)=a-q by lia]
 have ge:(i.map<|bp VH).toArray.extract (aO+a) (aO+a+j)=((((i.drop<|aO+a).take u).take j).map<|bp VH).toArray:=by
  apply kN;simp only[Fe,List.extract_eq_drop_take,mx,ly];rw[w6,p4 am,show aO+a+j-(aO+a)=j by lia]
 rw[ga,ge];have A:∀f∈((i.drop aO).take a).take q,S f<=S (((i.drop<|aO+a).take u).getD 0 0):=λf m=>by
  rw[F 0 bm];let⟨@v,I,bK,rfl⟩:=l7 m;rw[E v ⋯];exact ch _ ⋯ ⋯
 have cs:∀f∈((i.drop<|aO+a).take u).drop j,S (((i.drop aO).take a).getD (((i.drop aO).take a).length-1) 0)<=S f:=λf m=>by
  rw[bn,E _ ⋯];let⟨@v,I,bK,rfl⟩:=kc m;rw[F v ⋯,show aO+(a-1)=aO+a-1 by lia];exact co _ ⋯ ⋯
 have db:∀f∈((i.drop aO).take a).drop q,S ((((i.drop<|aO+a).take u).take j).getD 0 0)<=S f:=λf m=>by
  rw[show (((i.drop<|aO+a).take u).take j).getD 0 0=((i.drop<|aO+a).take u).getD 0 0 by simp only[List.getD,o3,aJ (show 0<j by lia)],F 0 bm];let⟨@v,I,bK,rfl⟩:=kc m;rw[E v ⋯];have:=f2 (aO+v) ⋯ ⋯;rw[xo];lia
 have an:(((i.drop aO).take a).drop q).length=a-q:=by rw[gQ,bn]
 have ds:(((i.drop<|aO+a).take u).take j).length=j:=by rw[h5,f0];lia
 have dL:∀f∈((i.drop<|aO+a).take u).take j,S f<=S ((((i.drop aO).take a).drop q).getD ((((i.drop aO).take a).drop q).length-1) 0):=λf m=>by
  rw[an,show (((i.drop aO).take a).drop q).getD (a-q-1) 0=((i.drop aO).take a).getD (a-1) 0 by simp only[List.getD,nC,show q+(a-q-1)=a-1 by lia],E _ ⋯,show aO+(a-1)=aO+a-1 by lia];let⟨@v,I,bK,rfl⟩:=l7 m;rw[F v ⋯];have:=f8 (aO+a+v) ⋯ ⋯;lia
 have eq:∀f∈((i.drop aO).take a).drop q,f<w:=λf m=>C f (mV<|q_<|mV m);have ev:∀f∈((i.drop<|aO+a).take u).take j,f<w:=λf m=>C f (mV<|q_<|q_ m);by_cases ex:a-q<=j
 ·rw[aJ ex];refine bw (PD O eq ev (z.sublist<|xu _ _) (B.sublist<|wi _ _) ⋯ ⋯ db dL (by exact x) ?_);intro out r ap s;let⟨@k,rfl,J,as⟩:=ap;have L:=Hy (S:=S) z B ⋯ ⋯ A cs J as;refine bw (lA ?_);refine bw (kC ?_);refine bq ?_;have c:h9 r=Y:=s.f.trans Q;show D (h9 r).isNone _ h;rw[c];refine e (((i.drop aO).take a).take q++k++((i.drop<|aO+a).take u).drop j) _ (s.k.trans x) (by first|rfl|exact c) (by exact s.p) (by rw[<-R];exact L.2) L.1 ?_;have a1:arrOf r=(i.map<|bp VH).toArray:=s.a;have bA:k.length=a-q+j:=by rw[J.length_eq,d7,an,ds]
  have a2:=ya (k.map<|bp VH) (i.map<|bp VH) (aO+q) 0 (aO+q) (by rw[bB,bB,bA];lia) rfl;show List.foldl (λg f=>g.setIfInBounds (aO+q+f.2) f.1) (arrOf r) (k.map<|bp VH).toArray.toList.zipIdx=_;rw[a1];refine a2.trans ?_;rw[bB,bA,<-ly,<-mx,<-fM,<-fM];congr 2;have bd:i.take (aO+q)=i.take aO++((i.drop aO).take a).take q:=by
   rw[w6,p4 ce,qm]
  have be:i.drop (aO+q+(a-q+j))=((i.drop<|aO+a).take u).drop j++i.drop (aO+(a+u)):=by
   have:=yW (M:=i.drop (aO+a)) (b:=j) (v:=u) am (by rw[gQ];lia);rw[ox,ox]at this;rw[show aO+q+(a-q+j)=aO+a+j by lia,this,show aO+a+u=aO+(a+u) by lia]
  rw[bd,be];simp only[bz]
 ·rw[aP ex];refine bw (RE O eq ev (z.sublist<|xu _ _) (B.sublist<|wi _ _) ⋯ ⋯ db dL (by exact x) ?_);intro out r ap s;let⟨@k,rfl,J,as⟩:=ap;have L:=Hy (S:=S) z B ⋯ ⋯ A cs J as;refine bw (lA ?_);refine bw (kC ?_);refine bq ?_;have c:h9 r=Y:=s.f.trans Q;show D (h9 r).isNone _ h;rw[c];refine e (((i.drop aO).take a).take q++k++((i.drop<|aO+a).take u).drop j) _ (s.k.trans x) (by first|rfl|exact c) (by exact s.p) (by rw[<-R];exact L.2) L.1 ?_;have a1:arrOf r=(i.map<|bp VH).toArray:=s.a;have bA:k.length=a-q+j:=by rw[J.length_eq,d7,an,ds]
  have a2:=ya (k.map<|bp VH) (i.map<|bp VH) (aO+q) 0 (aO+q) (by rw[bB,bB,bA];lia) rfl;show List.foldl (λg f=>g.setIfInBounds (aO+q+f.2) f.1) (arrOf r) (k.map<|bp VH).toArray.toList.zipIdx=_;rw[a1];refine a2.trans ?_;rw[bB,bA,<-ly,<-mx,<-fM,<-fM];congr 2;have bd:i.take (aO+q)=i.take aO++((i.drop aO).take a).take q:=by
   rw[w6,p4 ce,qm]
  have be:i.drop (aO+q+(a-q+j))=((i.drop<|aO+a).take u).drop j++i.drop (aO+(a+u)):=by
   have:=yW (M:=i.drop (aO+a)) (b:=j) (v:=u) am (by rw[gQ];lia);rw[ox,ox]at this;rw[show aO+q+(a-q+j)=aO+a+j by lia,this,show aO+a+u=aO+(a+u) by lia]
  rw[bd,be];simp only[bz]
end
section
variable{VO:bF}{y:bj}{P:bE}{VD:af->ao->Prop}{V6:gU}{VH:Array bu}{S:Nat->Int}{w:Nat}{h:ao}{m:Array (Nat×Nat×Nat)}
structure e0(V6:gU)(VH:Array bu)(m:Array (Nat×Nat×Nat))(X:bH)(p:Array Nat):Prop where
 k:PyProof.Rows.kindOf X=V6
 a:arrOf X=p.map (bp VH)
 p:iw X=m
 f:h9 X=Y
def rZ(i:f9 w S (fC VO y P V6 VH) h){o:Array Nat}(c:dd w o){b v:Nat}(VF:b<w)(d:v<w){X:bH}(j:e0 V6 VH m X o){D:Option Bool->bH->ao->Prop}(e:D (Z<|decide (bl S o b<bl S o v)) X h):
  kasC (aW VO y) P VD (oG b v) D X h:=by
 have f:∀b,b<w->(o.map<|bp VH)[b]?=Z (bp VH<|o.getD b 0):=λb VF=>by
  have:b<o.size:=by rw[c.size];exact VF
  simp[Array.getD,this]
 rw[ltAt'_eq];refine bw (kC ?_);rw[j.a];dsimp only;rw[uy,uy,f b VF,f v d];refine bw (bq ?_);refine bw (bq ?_);exact ts i (c.lt VF) (c.lt d) j.k e
variable{o:Array Nat}
def ur{X:bH}(j:e0 V6 VH m X o){b v:Nat}{D:Unit->bH->ao->Prop}(e:∀c,e0 V6 VH m c (nf o b v)->D () c h):kasC (aW VO y) P VD (s8 b v) D X h:=by
 rw[reverseSlice'_eq];refine lA (e _ ⟨j.k,?_,j.p,j.f⟩);show mirror (arrOf X) b v ((v-b)/2)=_;rw[j.a];exact BW (bp VH) (λq=>b+q) (λq=>v-1-q) _ o
def JB{X:bH}(j:e0 V6 VH m X o){b v:Nat}{D:Unit->bH->ao->Prop}(e:∀c,e0 V6 VH m c (sT o b<|b-v)->D () c h):kasC (aW VO y) P VD (moveDown' b v) D X h:=by
 rw[moveDown'_eq];refine lA (e _ ⟨j.k,?_,j.p,j.f⟩);show sT (arrOf X) b (b-v)=_;rw[j.a];exact BW (bp VH) (λq=>b-q) (λq=>b-q-1) _ o
theorem tc{x WL:Type}{aC:gw}{N:Nat->WL->StateT x eo (ForInStep WL)}{D:WL->x->ao->Prop}(l:Nat->WL->x->ao->Prop)(V3:Nat)(step:∀f n X VE,f<V3->l f n X VE->kasC aC P VD (N f n) (λr b d=>match r with | .yield a=>l (f+1) a b d | .done a=>D a b d) X VE):∀(H g:Nat) (n:WL) (X:x) (VE:ao),g+H<=V3->(∀n X VE,l (g+H) n X VE->D n X VE)->l g n X VE->
   kasC aC P VD (forIn (range' g H) n N) D X VE
 |0,g,n,X,VE,h,fin,e=>by
  show kasC aC P VD (forIn ([]:List Nat) n N) D X VE;exact kasC_nil (fin n X VE e)
 |H+1,g,n,X,VE,h,fin,e=>by
  show kasC aC P VD (forIn (g::range' (g+1) H) n N) D X VE;refine kasC_cons (gT (step g n X VE ⋯ e) (λr d VB=>?_) λ_ W c=>c);let⟨r,b⟩:=r;cases r with
  |done a=>exact VB
  |yield a=>exact tc l V3 step H (g+1) a b d ⋯ (λn X VE VF=>fin n X VE (by rw[show g+(H+1)=g+1+H by lia];exact VF)) VB
end
section
variable{VO:bF}{y:bj}{P:bE}{VD:af->ao->Prop}{V6:gU}{VH:Array bu}{S:Nat->Int}{w:Nat}{h:ao}{m:Array (Nat×Nat×Nat)}
def iC(S:Nat->Int)(o:Array Nat)(E H:Nat):Prop:=(∀b v,E<=b->b<=v->v<E+H->bl S o b<=bl S o v)
def DM{o:Array Nat}{E H:Nat}(e:∀v,E+1<=v->v<E+H->bl S o (v-1)<=bl S o v):iC S o E H:=by
 intro b v VF a c;obtain⟨s,rfl⟩:∃s,v=b+s:=⟨v-b,⋯⟩;clear a;induction s with
 |zero=>exact lY _
 |succ s f=>
  have g:=f ⋯;have d:=e (b+(s+1)) ⋯ c;rw[show b+(s+1)-1=b+s by lia]at d;lia
def UB(am:f9 w S (fC VO y P V6 VH) h){o:Array Nat}(an:dd w o){E H i:Nat}(bm:E+H<=w)(A:1<=i)(bn:i<=H)(k:iC S o E i){X:bH}(j:e0 V6 VH m X o){D:Bool->bH->ao->Prop}(e:∀x a,dd w x->e0 V6 VH m a x->(∀b,b<E->x[b]?=o[b]?)->iC S x E H->D V a h):
  kasC (aW VO y) P VD (binarySort' E H i) D X h:=by
 rw[binarySort'_eq];rw[show max i 1=i by lia];with_unfolding_all refine bw (iv (a:=λn a VE=>h=VE/\n=(Y,())/\∃p,dd w p/\e0 V6 VH m a p/\(∀b,b<E->p[b]?=o[b]?)/\iC S p E H)
  (gg (tc (λf n a VE=>h=VE/\n=(Y,())/\1<=f/\∃p,dd w p/\e0 V6 VH m a p/\(∀b,b<E->p[b]?=o[b]?)/\iC S p E f) H ?step _ _ _ _ _ ⋯ ?fin ⟨rfl,rfl,A,o,an,j,λ_ W=>rfl,k⟩)) ?after)
 case after=>
  rintro n a VE ⟨rfl,rfl,p,C,F,G,B⟩;exact bq (e p _ C F G B)
 case fin=>
  rintro n a VE ⟨rfl,rfl,bs,p,C,F,G,B⟩;rw[show i+(H-i)=H by lia]at B;exact⟨rfl,rfl,p,C,F,G,B⟩
 case step=>
  rintro q n a VE bv ⟨rfl,rfl,V8,p,I,Q,as,k⟩;dsimp only;have a1:∀b,E<=b->b<E+0->bl S p b<=bl S p (E+q):=λb g d=>⋯
  have bd:∀b,E+q<=b->b<E+q->bl S p (E+q)<=bl S p b:=λb g d=>⋯
  refine bw (iv (a:=λn l VE=>h=VE/\a=l/\∃M r,n=(Y,M,r)/\M<=q/\(∀b,E<=b->b<E+M->bl S p b<=bl S p (E+q))/\(∀b,E+M<=b->b<E+q->bl S p (E+q)<=bl S p b))
   (gg (tc (λf n l VE=>h=VE/\a=l/\∃M r,n=(Y,M,r)/\M<=r/\r<=q/\r-M<=q-f/\(∀b,E<=b->b<E+M->bl S p b<=bl S p (E+q))/\(∀b,E+r<=b->b<E+q->bl S p (E+q)<=bl S p b)) q ?s2 _ _ _ _ _ ⋯ ?f2 ⟨rfl,rfl,0,q,rfl,⋯,⋯,⋯,a1,bd⟩)) ?a2)
  case f2=>
   rintro n l VE ⟨rfl,rfl,M,r,rfl,aU,aV,sf,s,u⟩;exact⟨rfl,rfl,M,r,rfl,⋯,s,λb f t=>u b ⋯ t⟩
  case s2=>
   rintro f n l VE ca ⟨rfl,rfl,M,r,rfl,aU,aV,sf,s,u⟩;dsimp only;by_cases c:M >= r
   ·rw[aJ c];exact bq ⟨rfl,rfl,M,r,rfl,⋯,s,λb f t=>u b ⋯ t⟩
   rw[aP c];have J:M<=(M+r)/2:=⋯
   have be:(M+r)/2<r:=⋯
   have N:(M+r)/2-M<=q-(f+1):=⋯
   have O:r-((M+r)/2+1)<=q-(f+1):=⋯
   generalize (M+r)/2=mid at J be N O ⊢;refine bw (rZ am I ⋯ ⋯ Q ?_);dsimp only;by_cases R:bl S p (E+q)<bl S p (E+mid)
   ·rw[aJ ⇑R];refine bq ⟨rfl,rfl,M,mid,rfl,J,⋯,N,s,λb f t=>?_⟩;have:=k (E+mid) b ⋯ f t;lia
   ·rw[aP ⇑R];refine bq ⟨rfl,rfl,mid+1,r,rfl,⋯,aV,O,λb f t=>?_,u⟩;have:=k b (E+mid) f ⋯ ⋯;lia
  case a2=>
   rintro n l VE ⟨rfl,rfl,M,r,rfl,aU,s,u⟩;dsimp only;refine bw (JB Q ?_);intro cd bi;have L:∀b,(sT p (E+q)<|E+q-(E+M))[b]?=if b=E+M then p[E+q]? else if E+M<b/\b<=E+q then p[b-1]? else p[b]?:=λb=>by
    have:=getElem?_bubble (xs:=p) (src:=E+q) (by rw[I.size];lia) (E+q-(E+M)) ⋯ b
    rwa [show E+q-(E+q-(E+M))=E+M by lia]at this
   have bg:∀b,bl S (sT p (E+q)<|E+q-(E+M)) b=if b=E+M then bl S p (E+q) else if E+M<b/\b<=E+q then bl S p (b-1) else bl S p b:=λb=>by
    have L:=L b;by_cases c:b=E+M
    ·rw[aJ c]at L ⊢;exact nK L
    ·rw[aP c]at L ⊢;by_cases T:E+M<b/\b<=E+q
     ·rw[aJ T]at L ⊢;exact nK L
     ·rw[aP T]at L ⊢;exact nK L
   refine bq ⟨rfl,rfl,⋯,_,I.Mc _ _,bi,λb VF=>by rw[L,aP ⋯,aP ⋯];exact as b VF,DM λv f t=>?_⟩;rw[bg,bg];by_cases U:v-1=E+M
   ·rw[aJ U,aP ⋯,aJ ⋯];exact u (v-1) ⋯ ⋯
   ·rw[aP U];by_cases al:v=E+M
    ·rw[aJ al,aP ⋯];exact s (v-1) ⋯ ⋯
    ·rw[aP al];by_cases ch:E+M<v-1
     ·rw[aJ ⋯,aJ ⋯];exact k _ _ ⋯ ⋯ ⋯
     ·rw[aP ⋯,aP ⋯];exact k _ _ ⋯ ⋯ ⋯
def eH(S:Nat->Int)(o:Array Nat):Nat->List (Nat×Nat×Nat)->Nat->Prop
 |g,[],d=>g=d
 |g,(f,M,_)::I,d=>f=g/\0<M/\iC S o f M/\eH S o (g+M) I d
variable{o:Array Nat}
theorem eH.le:∀{I:List (Nat×Nat×Nat)}{g d:Nat},eH S o g I d->g+I.length<=d
 |[],g,d,e=>by rw[show d=g from e.symm];exact bT _
 | (f,M,_)::I,g,d,e=>by
  have:=e.2.2.2.le;have:=e.2.1;rw[dV];lia
theorem eH.congr{p:Array Nat}:∀{I:List (Nat×Nat×Nat)}{g d:Nat},eH S o g I d->(∀b,g<=b->b<d->bl S p b=bl S o b)->eH S p g I d
 |[],g,d,e,_=>e
 | (f,M,_)::I,g,d,e,L=>by
  have:=e.2.2.2.le;let@⟨rfl,C,a,c⟩:=e;refine⟨rfl,C,λb v VF h i=>?_,c.congr λb g d=>L b ⋯ d⟩;rw[L b VF ⋯,L v ⋯ ⋯];exact a b v VF h i
theorem eH.app{o:Array Nat}:∀{I J:List (Nat×Nat×Nat)}{g d:Nat},eH S o g (I++J) d↔∃n,eH S o g I n/\eH S o n J d
 |[],J,g,d=>⟨λe=>⟨g,rfl,e⟩,λ⟨n,c,e⟩=>by rw[show g=n from c];exact e⟩
 | (f,M,i)::I,J,g,d=>by
  show (f=g/\0<M/\iC S o f M/\eH S o (g+M) (I++J) d)↔_;rw[eH.app];constructor
  ·rintro⟨A,C,a,n,b,h⟩;exact⟨n,⟨A,C,a,b⟩,h⟩
  ·rintro⟨n,⟨A,C,a,b⟩,h⟩;exact⟨A,C,a,n,b,h⟩
def KH{V7:Type}{M:List V7}{b:Nat}(e:b+1<M.length):∃a f t c,M=a++f::t::c/\a.length=b:=by
 refine⟨M.take b,M[b]'⋯,M[b+1],M.drop<|b+2,?_,by rw[h5];lia⟩;have d:=jZ (l:=M) (i:=b) ⋯;have g:=jZ (l:=M) (i:=b+1) e;rw[<-g,<-d,gq]
def ui(M:List Nat)(b:Nat):bl S M.toArray b=S (M.getD b 0):=by unfold bl;rw[lW]
def Ip(Q:f9 w S (fC VO y P V6 VH) h){o:Array Nat}(F:dd w o){X:bH}(j:e0 V6 VH m X o){E b:Nat}(VF:b+1<m.size)(VI:eH S o 0 m.toList E)(cl:E<=w){D:Bool->bH->ao->Prop}(e:∀G s t,dd w s->e0 V6 VH G t s->G.size+1=m.size->eH S s 0 G.toList E->(∀b,E<=b->bl S s b=bl S o b)->D V t h):kasC (aW VO y) P VD (wq b) D X h:=by
 let⟨i,⟨aO,a,l⟩,⟨cm,u,x⟩,@r,c,rfl⟩:=KH (M:=m.toList) (b:=b) ⇑VF;rw[c]at VI;let⟨@n,R,rfl,T,U,rfl,al,am,b3⟩:=eH.app.mp VI;have aV:=b3.le;have z:m=(i++(aO,a,l)::(aO+a,u,x)::r).toArray:=by rw[<-c]
 have an:o.size=w:=F.size;have ap:∀f∈o.toList,f<w:=λf as=>i8.mp (F.mem_iff.mp as);have B:∀b,bl S o b=S (o.toList.getD b 0):=λb=>ui o.toList b;have bA:o.toList.length=w:=by rw[f6,an]
 have I:∀g H,g+H<=w->iC S o g H->cE S ((o.toList.drop g).take H):=λg H co e=>by
  refine p6.mpr λb v VF a1 cr=>?_;have a2:=VF;have bd:=a1;rw[h5,gQ,bA]at a2 bd;have:=e (g+b) (g+v) ⋯ ⋯ ⋯;rw[B,B]at this;rw[t5,rq,t5,rq];rw[cR,cR,fL ⋯,fL ⋯]at this;exact this
 refine QD Q (i:=o.toList) ap (b:=i.length) (aO:=aO) (a:=a) (u:=u) (bi:=l) (fd:=x) j.k (by rw[j.a];apply kN;simp) j.f (by rw[j.p,z];simp) (by rw[j.p,z];simp) T al ⋯ (I _ _ ⋯ U) (I _ _ ⋯ am) ?_;intro mid t V8 be bi J bm bn;have bs:mid.length=a+u:=by rw[J.length_eq,h5,gQ,bA];lia
 have bv:o.toList.take aO++(o.toList.drop aO).take (a+u)++o.toList.drop (aO+(a+u))=o.toList:=by rw[qm,gq]
 have ca:dd w (o.toList.take aO++mid++o.toList.drop (aO+(a+u))).toArray:=by
  show (o.toList.take aO++mid++o.toList.drop (aO+(a+u))).Perm (range w);refine List.Perm.trans (fw _<|en _ J) ?_;rw[bv];exact F
 have W5:(o.toList.take aO).length=aO:=by rw[h5,bA];lia
 have cd:∀b,b<aO->bl S (o.toList.take aO++mid++o.toList.drop (aO+(a+u))).toArray b=bl S o b:=λb VF=>by
  rw[ui,B];congr 1;rw[cR,cR,bz,pl ⋯,o3,aJ VF]
 have L:∀b,aO+(a+u)<=b->bl S (o.toList.take aO++mid++o.toList.drop (aO+(a+u))).toArray b=bl S o b:=λb VF=>by
  rw[ui,B];congr 1;rw[cR,cR,q3 (by rw[d7];lia),nC,d7,W5,bs];congr 2;lia
 have O:∀b,aO<=b->b<aO+(a+u)->bl S (o.toList.take aO++mid++o.toList.drop (aO+(a+u))).toArray b=S (mid.getD (b-aO) 0):=λb A C=>by
  rw[ui];congr 1;rw[cR,cR,bz,q3 ⋯,W5,pl ⋯]
 have ce:((i++(aO,a,l)::(aO+a,u,x)::r).toArray.setIfInBounds i.length (aO,a+u,l)).eraseIdxIfInBounds (i.length+1)=(i++(aO,a+u,l)::r).toArray:=by
  rw[EL,List.set_append_right _ _<|bT _,ys,List.set_cons_zero];rw[yV,List.eraseIdx_append_of_length_le ⋯,show i.length+1-i.length=1 by lia];rfl
 refine e ((i++(aO,a+u,l)::r).toArray) _ t ca ⟨V8,by rw[bn];apply kN;simp,by rw[bi,j.p,z,ce],be⟩ (by rw[z];simp;lia) ?_ (λb VF=>L b ⋯);have ch:eH S o (aO+(a+u)) r E:=by rw[<-oL];exact b3
 refine eH.app.mpr ⟨aO,R.congr λb W d=>cd b d,rfl,⋯,λb v A C ci=>?_,ch.congr λb g d=>L b g⟩
 ·rw[O b A ⋯,O v ⋯ ci];exact oq bm ⋯ ⋯
end
section
variable{VO:bF}{y:bj}{P:bE}{VD:af->ao->Prop}{V6:gU}{VH:Array bu}{S:Nat->Int}{w:Nat}{h:ao}{m:Array (Nat×Nat×Nat)}
variable{p:Array Nat}
def uU(a:dd w p){b v:Nat}(c:v<=w)(q:Nat):(nf p b v)[q]?=if b<=q/\q<v then p[b+v-1-q]? else p[q]?:=by
 unfold nf;rw[getElem?_mirror_all (by rw[a.size];lia)]
def JQ(a:dd w p){b v:Nat}(d:v<=w)(c:∀q,b<=q->q<v->bl S p q=bl S p b)(q:Nat):bl S (nf p b v) q=bl S p q:=by
 by_cases e:b<=q/\q<v
 ·rw[nK (show (nf p b v)[q]?=p[b+v-1-q]? by rw[uU a d,aJ e]),c _ ⋯ ⋯,c q e.1 e.2]
 ·exact nK (by rw[uU a d,aP e])
structure d6(S:Nat->Int)(w E:Nat)(o p:Array Nat):Prop where
 jk:dd w p
 be:∀b,b<E->p[b]?=o[b]?
 bg:∀q,bl S p q=bl S o q
def d6.rev{E:Nat}{o:Array Nat}(WI:d6 S w E o p){b v:Nat}(VF:E<=b)(a:v<=w)(c:∀q,b<=q->q<v->bl S o q=bl S o b):d6 S w E o (nf p b v):=
 ⟨WI.jk.rev b v,λq e=>by rw[uU WI.jk a,aP ⋯];exact WI.be q e,λq=>by
  rw[JQ WI.jk a (λq g d=>by rw[WI.bg,WI.bg];exact c q g d)];exact WI.bg q⟩
theorem BB{N:Nat->Int}{g d:Nat}(e:∀v,g+1<=v->v<d->N v=N (v-1)):∀s,g+s<d->N (g+s)=N g
 |0,_=>rfl
 |s+1,hd=>(e (g+(s+1)) ⋯ hd).trans (BB e s ⋯)
def BR(k:f9 w S (fC VO y P V6 VH) h){E a:Nat}(s:E+a<=w){p:Array Nat}{e:bH}{g:Nat}(l:dd w p)(VL:e0 V6 VH m e p)(t:1<=g)(u:g<=a)(o:∀v,E+1<=v->v<E+g->bl S p (v-1)<=bl S p v):
   kasC (aW VO y) P VD (forIn [g:a] ((Y:Option (Option Nat)),g) λf n=>oG (E+n.2) (E+n.2-1) >>= λr=>match r with
    |some q=>if q=V then pure (ForInStep.done (Y,n.2)) else pure (ForInStep.yield (Y,n.2+1))
    |f=>pure<|ForInStep.done (Z Y,n.2))
    (λn b VE=>h=VE/\e=b/\∃H,n=(Y,H)/\g<=H/\H<=a/\(∀v,E+1<=v->v<E+H->bl S p (v-1)<=bl S p v)/\(H=a\/bl S p (E+H)<bl S p (E+H-1))) e h:=by
 refine gg (tc (λf n b VE=>h=VE/\e=b/\n=(Y,f)/\g<=f/\∀v,E+1<=v->v<E+f->bl S p (v-1)<=bl S p v) a ?_ _ _ _ _ _ ⋯ ?_ ⟨rfl,rfl,rfl,bT _,o⟩)
 ·rintro f n b VE x ⟨rfl,rfl,rfl,j,d⟩;dsimp only;refine bw (rZ k l ⋯ ⋯ VL ?_);dsimp only;by_cases i:bl S p (E+f)<bl S p (E+f-1)
  ·rw[aJ ⇑i];exact bq ⟨rfl,rfl,f,rfl,j,⋯,d,.inr i⟩
  ·rw[aP ⇑i];refine bq ⟨rfl,rfl,rfl,⋯,λv bK z=>?_⟩;by_cases c:v=E+f
   ·subst c;lia
   ·exact d v bK ⋯
 ·rintro n b VE ⟨rfl,rfl,rfl,j,d⟩;rw[show g+(a-g)=a by lia]at d ⊢;exact⟨rfl,rfl,a,rfl,⋯,bT _,d,.inl rfl⟩
def uR(E a H:Nat): StateT bH eo (Option Nat):=(s8 E (E+H) >>= λ_ => (forIn [H:a] ((Y:Option (Option Nat)),H) λf n => oG (E+n.2) (E+n.2-1) >>= λr => match r with
    |some b => if b=V then pure (ForInStep.done (Y,n.2)) else pure (ForInStep.yield (Y,n.2+1))
    |f => pure<|ForInStep.done (Z Y,n.2)) >>= λn => match n.1 with
    |some r => pure r
    |none => pure (Z n.2))
def HH(E f:Nat)(n:Option (Option Nat)×Nat×Nat):StateT bH eo (ForInStep<|Option (Option Nat)×Nat×Nat):=(oG (E+n.2.1) (E+n.2.1-1) >>= λr=>match r with
 |some a=>if a=V then (if n.2.2>0 then s8 (E+n.2.1-(n.2.2+1)) (E+n.2.1) >>= λ_=>pure (.yield (Y,n.2.1+1,0)) else pure (.yield (Y,n.2.1+1,0)))
  else oG (E+n.2.1-1) (E+n.2.1) >>= λr=>match r with
   |some b=>if b=V then pure (.done (Y,n.2.1,n.2.2)) else pure (.yield (Y,n.2.1+1,n.2.2+1))
   |f=>pure (.done (Z Y,n.2.1,n.2.2))
 |f=>pure (.done (Z Y,n.2.1,n.2.2)))
def uD(E a H:Nat):StateT bH eo (Option Nat):=(liftM (PySem.rule "list.sort.descending-run") >>= λ_=>forIn [H+1:a] ((Y:Option (Option Nat)),H+1,0) (HH E) >>= λn=>match n.1 with
 |some r=>pure r
 |none=>if n.2.2>0 then s8 (E+n.2.1-(n.2.2+1)) (E+n.2.1) >>= λ_=>uR E a n.2.1 else uR E a n.2.1)
def ID(i:f9 w S (fC VO y P V6 VH) h){E c H:Nat}(k:E+c<=w){o p:Array Nat}{X:bH}(WI:d6 S w E o p)(j:e0 V6 VH m X p)(l:1<=H)(q:H<=c)(r:∀v,E+1<=v->v<E+H->bl S o v<=bl S o (v-1)){D:Option Nat->bH->ao->Prop}(e:∀H a f,1<=H->H<=c->dd w a->e0 V6 VH m f a->(∀b,b<E->a[b]?=o[b]?)->(∀v,E+1<=v->v<E+H->bl S a (v-1)<=bl S a v)->D (Z H) f h):kasC (aW VO y) P VD (uR E c H) D X h:=by
 unfold uR;refine bw (ur j λx V0=>?_);have L:=uU WI.jk (b:=E) (v:=E+H) ⋯;have bg:∀b,E<=b->b<E+H->bl S (nf p E<|E+H) b=bl S o (E+(E+H)-1-b):=λb g d=>(nK (by rw[L,aJ ⟨g,d⟩])).trans (WI.bg _);refine bw (iv (BR i k (WI.jk.rev E<|E+H) V0 l q λv bK z=>?_) ?_)
 ·rw[bg _ ⋯ ⋯,bg _ ⋯ ⋯];have:=r (E+(E+H)-1-(v-1)) ⋯ ⋯;rw[show E+(E+H)-1-(v-1)-1=E+(E+H)-1-v by lia]at this;exact this
 ·rintro n f VE ⟨rfl,rfl,s,rfl,A,t,u,B⟩;dsimp only;exact bq (e s _ _ ⋯ t (WI.jk.rev E<|E+H) V0 (λb VF=>by rw[L,aP ⋯];exact WI.be b VF) u)
def H0(A:f9 w S (fC VO y P V6 VH) h){E k H:Nat}(C:E+k<=w){o p:Array Nat}{X:bH}(WI:d6 S w E o p)(j:e0 V6 VH m X p)(T:1<=H)(U:H<k)(L:∀v,E+1<=v->v<E+(H+1)->bl S o v<=bl S o (v-1)){D:Option Nat->bH->ao->Prop}(e:∀H z l,1<=H->H<=k->dd w z->e0 V6 VH m l z->(∀b,b<E->z[b]?=o[b]?)->(∀v,E+1<=v->v<E+H->bl S z (v-1)<=bl S z v)->D (Z H) l h):kasC (aW VO y) P VD (uD E k H) D X h:=by
 have a3:∀{f s:Nat},s+1<=f->(∀v,E+f-s<=v->v<E+f->bl S o v=bl S o (v-1))->∀q,E+f-(s+1)<=q->q<E+f->bl S o q=bl S o (E+f-(s+1)):=λ{f s} hd c q g d=>by
  have:=BB (N:=bl S o) (g:=E+f-(s+1)) (d:=E+f) (λv f t=>c v ⋯ t) (q-(E+f-(s+1))) ⋯
  rwa [show E+f-(s+1)+(q-(E+f-(s+1)))=q by lia]at this
 unfold uD;refine bw (ov<|iu ?_);refine bw (iv (a:=λn l VE=>h=VE/\∃i f s,n=(Y,f,s)/\e0 V6 VH m l i/\d6 S w E o i/\H+1<=f/\f<=k/\s+1<=f/\(∀v,E+1<=v->v<E+f->bl S o v<=bl S o (v-1))/\∀v,E+f-s<=v->v<E+f->bl S o v=bl S o (v-1))
  (gg (tc (λf n l VE=>h=VE/\∃i s,n=(Y,f,s)/\e0 V6 VH m l i/\d6 S w E o i/\H+1<=f/\s+1<=f/\(∀v,E+1<=v->v<E+f->bl S o v<=bl S o (v-1))/\∀v,E+f-s<=v->v<E+f->bl S o v=bl S o (v-1)) k ?Wb _ _ _ _ _ ⋯ ?Wl ⟨rfl,p,0,rfl,j,WI,bT _,⋯,L,λv g d=>⋯⟩)) ?M)
 case Wb=>
  rintro f n l VE am ⟨rfl,i,s,rfl,Q,a,B,x,r,u⟩;unfold HH;dsimp only;refine bw (rZ A a.jk ⋯ ⋯ Q ?_);dsimp only;rw[a.bg,a.bg];by_cases F:bl S o (E+f)<bl S o (E+f-1)
  ·rw[aJ ⇑F];have G:∀v,E+1<=v->v<E+(f+1)->bl S o v<=bl S o (v-1):=λv bK O=>by
    by_cases c:v=E+f
    ·subst c;lia
    ·exact r v bK ⋯
   by_cases hd:s>0
   ·rw[aJ hd];refine bw (ur Q λR V0=>?_);exact bq ⟨rfl,_,0,rfl,V0,a.rev ⋯ ⋯<|a3 x u,⋯,⋯,G,λv g d=>⋯⟩
   ·rw[aP hd];exact bq ⟨rfl,i,0,rfl,Q,a,⋯,⋯,G,λv g d=>⋯⟩
  ·rw[aP ⇑F];refine bw (rZ A a.jk ⋯ ⋯ Q ?_);dsimp only;rw[a.bg,a.bg];by_cases I:bl S o (E+f-1)<bl S o (E+f)
   ·rw[aJ ⇑I];exact bq ⟨rfl,i,f,s,rfl,Q,a,B,⋯,x,r,u⟩
   ·rw[aP ⇑I];refine bq ⟨rfl,i,s+1,rfl,Q,a,⋯,⋯,λv bK O=>?_,λv g d=>?_⟩
    ·by_cases c:v=E+f
     ·subst c;lia
     ·exact r v bK ⋯
    ·by_cases c:v=E+f
     ·subst c;lia
     ·exact u v ⋯ ⋯
 case Wl=>
  rintro n l VE ⟨rfl,i,s,rfl,Q,a,B,x,r,u⟩;rw[show H+1+(k-(H+1))=k by lia] at *;exact⟨rfl,i,k,s,rfl,Q,a,B,bT _,x,r,u⟩
 case M=>
  rintro n l VE ⟨rfl,i,f,s,rfl,Q,a,B,J,x,r,u⟩;dsimp only;by_cases hd:s>0
  ·rw[aJ hd];refine bw (ur Q λR V0=>?_);exact ID A C (a.rev ⋯ ⋯<|a3 x u) V0 ⋯ J r e
  ·rw[aP hd];exact ID A C a Q ⋯ J r e
def Ee(E a:Nat): StateT bH eo (Option Nat):=((forIn [1:a] ((Y:Option (Option Nat)),1) λf n => oG (E+n.2) (E+n.2-1) >>= λr => match r with
    |some b => if b=V then pure (ForInStep.done (Y,n.2)) else pure (ForInStep.yield (Y,n.2+1))
    |f => pure<|ForInStep.done (Z Y,n.2)) >>= λn => match n.1 with
    |some r => pure r
    |none => if (n.2==a)=V then pure (Z n.2) else if n.2>1 then oG E (E+n.2-1) >>= λr => match r with
      |some c => if c=V then pure (Z n.2) else s8 E (E+n.2) >>= λ_ => uD E a n.2
      |f => pure Y
      else uD E a n.2)
def Qi(E a:Nat):countRun' E a=Ee E a:=by
 kernel_rfl
def Se(k:f9 w S (fC VO y P V6 VH) h){o:Array Nat}(a:dd w o){E f:Nat}(A:1<=f)(p:E+f<=w){X:bH}(j:e0 V6 VH m X o){D:Option Nat->bH->ao->Prop}(e:∀H i r,1<=H->H<=f->dd w i->e0 V6 VH m r i->(∀b,b<E->i[b]?=o[b]?)->(∀v,E+1<=v->v<E+H->bl S i (v-1)<=bl S i v)->D (Z H) r h):
  kasC (aW VO y) P VD (countRun' E f) D X h:=by
 rw[Qi];unfold Ee;have z:d6 S w E o o:=⟨a,λ_ W=>rfl,λ_=>rfl⟩;refine bw (iv (BR k p a j (bT _) A λv g d=>⋯) ?_);rintro n r VE ⟨rfl,rfl,H,rfl,t,B,l,G⟩;dsimp only;by_cases c:H=f
 ·rw[aJ ⇑c];exact bq (e H o _ t B a j (λ_ W=>rfl) l)
 rw[aP ⇑c];have I:bl S o (E+H)<bl S o (E+H-1):=G.resolve_left c;by_cases C:H>1
 ·rw[aJ C];refine bw (rZ k a ⋯ ⋯ j ?_);dsimp only;by_cases F:bl S o E<bl S o (E+H-1)
  ·rw[aJ ⇑F];exact bq (e H o _ t B a j (λ_ W=>rfl) l)
  ·rw[aP ⇑F];have J:∀s,s<H->bl S o E<=bl S o (E+s)/\bl S o (E+s)<=bl S o (E+H-1):=by
    have L:∀s,s<H->bl S o E<=bl S o (E+s):=λs=>by
     induction s with
     |zero=>intro W;exact lY _
     |succ s u=>
      intro hd;have g:=l (E+(s+1)) ⋯ ⋯;rw[show E+(s+1)-1=E+s by lia]at g;have:=u ⋯;lia
    have M:∀s,s<H->bl S o (E+H-1-s)<=bl S o (E+H-1):=λs=>by
     induction s with
     |zero=>intro W;exact lY _
     |succ s u=>
      intro hd;have g:=l (E+H-1-s) ⋯ ⋯;rw[show E+H-1-s-1=E+H-1-(s+1) by lia]at g;have:=u ⋯;lia
    intro s hd;refine⟨L s hd,?_⟩;have:=M (H-1-s) ⋯
    rwa [show E+H-1-(H-1-s)=E+s by lia]at this
   have x:∀q,E<=q->q<E+H->bl S o q=bl S o E:=λq g d=>by
    have:=J (q-E) ⋯;rw[show E+(q-E)=q by lia]at this;lia
   refine bw (ur j λO V0=>?_);exact H0 (o:=o) k p (z.rev (bT _) ⋯ x) V0 t ⋯ (λv bK N=>by
    by_cases c:v=E+H
    ·subst c;lia
    ·rw[x v ⋯ ⋯,x (v-1) ⋯ ⋯];exact lY _) e
 rw[aP C];obtain rfl:H=1:=⋯
 exact H0 (o:=o) k p z j (bT _) ⋯ (λv bK N=>by
  obtain rfl:v=E+1:=⋯
  exact Int.le_of_lt I) e
end
section
variable{VO:bF}{y:bj}{P:bE}{VD:af->ao->Prop}{V6:gU}{VH:Array bu}{S:Nat->Int}{w:Nat}{h:ao}{m:Array (Nat×Nat×Nat)}
variable{o:Array Nat}
theorem eH.same:∀{I J:List (Nat×Nat×Nat)}{g d:Nat},eH S o g I d->(I.map λf=>(f.1,f.2.1))=(J.map λf=>(f.1,f.2.1))->eH S o g J d
 |[],[],g,d,e,_=>e
 |[],_::_,g,d,e,c=>by cases c
 |_::_,[],g,d,e,c=>by cases c
 | (f,M,i)::I,(k,l,m)::J,g,d,e,c=>by
  rw[cS,cS]at c;injection c with h j;injection h with a b;dsimp only at a b;subst a;subst b;exact⟨e.1,e.2.1,e.2.2.1,e.2.2.2.same j⟩
def OL(z:Array (Nat×Nat×Nat))(b i:Nat):(z.toList.map λf=>(f.1,f.2.1))=((z.modify b λf=>(f.1,f.2.1,i)).toList.map λf=>(f.1,f.2.1)):=by
 apply pK;intro v;rw[hb,hb,hq,hq,Array.getElem?_modify];split
 ·rw[Option.map_map];rfl
 ·rfl
def iC.congr{p:Array Nat}{E H:Nat}(e:iC S o E H)(L:∀b,E<=b->bl S p b=bl S o b):iC S p E H:=λb v g d n=>by
 rw[L b g,L v ⋯];exact e b v g d n
def S2{aC:gw}{P:bE}{VD:af->ao->Prop}{x V7:Type}{n:Nat->Prop}{c:∀H,Decidable (n H)}{a Wk:Nat->StateT x eo V7}{D:V7->x->ao->Prop}{h:ao}(VJ:Nat->x->Prop)(j:∀H X,VJ H X->kasC aC P VD (Wk H) D X h)(b:(∀H X,VJ H X->kasC aC P VD (Wk H) D X h)->∀H X,n H->VJ H X->kasC aC P VD (a H) D X h):∀H X,VJ H X->kasC aC P VD (if n H then a H else Wk H) D X h:=λH X o=>
 if e:n H then by rw[aJ e];exact b j H X e o else by rw[aP e];exact j H X o
variable{D:Unit->bH->ao->Prop}
def PF(B:f9 w S (fC VO y P V6 VH) h)(C:2<=w)(be:∀u l,dd w u->ia S u w->arrOf l=u.map (bp VH)->h9 l=Y->D () l h):kasC (aW VO y) P VD sortRuns' D (tF V6 VH (range w).toArray) h:=by
 rw[sortRuns'_eq];refine bw (kC ?_);dsimp only;have bi:(arrOf<|tF V6 VH (range w).toArray).size=w:=by
  show ((range w).toArray.map<|bp VH).size=w;simp
 simp only[bi];refine bw (iv (a:=λn l VE=>h=VE/\n=(Y,w)/\∃m o,dd w o/\e0 V6 VH m l o/\eH S o 0 m.toList w)
  (gg (hi (λf n l VE=>h=VE/\∃E m o,n=(Y,E)/\f<=E/\E<=w/\dd w o/\e0 V6 VH m l o/\eH S o 0 m.toList E) ?step _ 0 _ _ _ ?fin ⟨rfl,0,#[],(range w).toArray,rfl,bT _,⋯,List.Perm.refl _,⟨rfl,rfl,rfl,rfl⟩,rfl⟩)) ?after)
 case fin=>
  rintro n l VE ⟨rfl,E,m,o,rfl,g,d,s,c,N⟩;have:E=w:=⋯
  subst this;exact⟨rfl,rfl,m,o,s,c,N⟩
 case after=>
  rintro n l VE ⟨rfl,rfl,m,o,r,j,VI⟩;dsimp only;refine bw (iv (a:=λn l VE=>h=VE/\n=(Y,())/\∃o,dd w o/\ia S o w/\arrOf l=o.map (bp VH)/\h9 l=Y)
   (gg (hi (λf n l VE=>h=VE/\n=(Y,())/\∃m o,dd w o/\e0 V6 VH m l o/\eH S o 0 m.toList w/\m.size+f<=w) ?G _ 0 _ _ _ ?f2 ⟨rfl,rfl,m,o,r,j,VI,by have:=VI.le;rw[f6]at this;lia⟩)) ?a2)
  case a2=>
   rintro n l VE ⟨rfl,rfl,o,g,d,n,s⟩;exact bq (be o _ g d n s)
  case f2=>
   rintro n l VE ⟨rfl,rfl,m,o,r,j,VI,bm⟩;have c:m.toList=[]:=s7 (by rw[f6];lia);rw[c]at VI;have:0=w:=VI;lia
  case G=>
   rintro f n l VE ⟨rfl,rfl,m,o,r,j,VI,bm⟩;refine bw (kC ?_);by_cases c:(iw l).size<=1
   ·rw[aJ c];refine bq ⟨rfl,rfl,o,r,?_,j.a,j.f⟩;rw[j.p]at c;have bn:m.toList.length<=1:=by rw[f6];exact c
    match am:m.toList,bn with
    |[],_=>
     rw[am]at VI;have:0=w:=VI;lia
    |[(f,M,i)],_=>
     rw[am]at VI;let@⟨rfl,_,bs,bv⟩:=VI;have:0+M=w:=bv;exact λb v ca cs=>bs b v (kZ _) ca ⋯
    |_::_::_,e=>exact absurd e ↥0
   ·rw[aP c];rw[j.p]at c;have cd:∀R,R+1<m.size->kasC (aW VO y) P VD (wq R) (λd x G=>d=V/\h=G/\∃m o,dd w o/\e0 V6 VH m x o/\eH S o 0 m.toList w/\m.size+(f+1)<=w) l h:=λR ce=>
     Ip B r j ce VI (bT _) λT u ch g d n s an=>⟨rfl,rfl,T,u,g,d,s,⋯⟩;refine bw (iv (cd _ ?_) ?_)
    ·rw[j.p];have:∀(n:Prop) [Decidable n],(if n then m.size-2-1 else m.size-2)+1<m.size:=λn W=>by split<;>lia
     exact this _
    ·rintro d x G ⟨rfl,rfl,ci⟩;rw[aP ∅];exact bq ⟨rfl,rfl,ci⟩
 case step=>
  rintro f n l VE ⟨rfl,E,m,o,rfl,db,ds,r,j,VI⟩;dsimp only;by_cases ap:E >= w
  ·rw[aJ ap];have:E=w:=⋯
   subst this;exact bq ⟨rfl,rfl,m,o,r,j,VI⟩
  rw[aP ap];refine bw (Se B r ⋯ ⋯ j ?_);intro H as A z I J VL a1 L;have p:H<=w-E/\1<=H/\∃o,dd w o/\e0 V6 VH m A o/\eH S o 0 m.toList E/\iC S o E H:=⟨I,z,as,J,VL,VI.congr λb W d=>nK<|a1 b d,DM L⟩;dsimp only;clear L a1 VL J z I;revert H A;refine S2 (λH A=>H<=w-E/\1<=H/\∃o,dd w o/\e0 V6 VH m A o/\eH S o 0 m.toList E/\iC S o E H) ?_ ?_
  ·intro H x p;let@⟨I,z,⟨@Wo,O,V0,b3,Q⟩⟩:=p;refine bw (kC ?_);rcases dL:(iw x).back? with _|⟨eq,ev,ex⟩
   ·dsimp only;refine bw (lA ?_);refine bq ⟨rfl,E+H,m.push (E,H,0),Wo,rfl,⋯,⋯,O,⟨V0.k,V0.a,by show (iw x).push _=_;rw[V0.p],V0.f⟩,?_⟩;rw[A8];exact eH.app.mpr ⟨E,b3,rfl,⋯,Q,rfl⟩
   ·dsimp only;refine bw (iv (a:=λn l VE=>h=VE/\n=(Y,())/\∃m o,dd w o/\e0 V6 VH m l o/\eH S o 0 m.toList E/\iC S o E (H))
     (gg<|hi (λf n l VE=>h=VE/\n=(Y,())/\∃m o,dd w o/\e0 V6 VH m l o/\eH S o 0 m.toList E/\iC S o E (H)) ?_ _ 0 _ _ _ (λ_ W W i=>i) ⟨rfl,rfl,m,Wo,O,V0,b3,Q⟩) ?_)
    ·rintro t n l VE ⟨rfl,rfl,m,o,r,j,VI,P⟩;refine bw (kC ?_);by_cases c:(iw l).size>1
     ·rw[aJ c];rcases fd:(iw l)[(iw l).size-2]? with _|⟨g,d,fn⟩
      ·dsimp only;exact bq ⟨rfl,rfl,m,o,r,j,VI,P⟩
      ·dsimp only;split
       ·exact bq ⟨rfl,rfl,m,o,r,j,VI,P⟩
       ·refine bw (Ip B r j (by rw[j.p]at c ⊢;lia) VI ⋯ ?_);intro T u ch g d n s an;rw[aP ∅];exact bq ⟨rfl,rfl,T,u,g,d,s,P.congr an⟩
     ·rw[aP c];dsimp only;exact bq ⟨rfl,rfl,m,o,r,j,VI,P⟩
    ·rintro n l VE ⟨rfl,rfl,m,o,r,j,VI,P⟩;dsimp only;refine bw (lA ?_);refine bw (lA ?_);refine bq ⟨rfl,E+H,(m.modify (m.size-1) _).push (E,H,0),o,rfl,⋯,⋯,r,⟨j.k,j.a,by show ((iw l).modify ((iw l).size-1) _).push _=_;rw[j.p],j.f⟩,?_⟩;rw[A8];exact eH.app.mpr ⟨E,VI.same<|OL _ _ _,rfl,⋯,P,rfl⟩
  ·intro F H A fr p;let@⟨I,z,⟨@as,J,VL,cl,L⟩⟩:=p;refine bw (ov<|iu ?_);have U:H<=min (w-E) (minRun' w w 0):=⋯
   have bd:min (w-E) (minRun' w w 0)<=w-E:=⋯
   generalize min (w-E) (minRun' w w 0)=co at U bd ⊢;refine bw (UB B J ⋯ z U L VL ?_);intro Wo x O V0 cr Q;rw[aP ∅];exact F co x ⟨bd,fv z U,Wo,O,V0,cl.congr λb W d=>nK<|cr b d,Q⟩
def Nm(c:f9 w S (fC VO y P V6 VH) h)(C:2<=w)(e:w<1001\/∀v,1<=v->v<w->S (v-1)<=S v)(d:∀a b,dd w a->ia S a w->arrOf b=a.map (bp VH)->h9 b=Y->D () b h):kasC (aW VO y) P VD sortRuns' D (tF V6 VH (range w).toArray) h:=PF c C d
end
end L2
namespace L2
open Spec PyProof.Rows
section
variable{a:aK}{G:List (ae×bc)}{x:a8}{j:aA}{h:ao}{VB:aY}
variable{WM:List ae}{We:Nat}
def aH.HN{F:ae}{z:List ar}(l:aH a G x j h)(b:∀d∈WM,ku a G j d)(q:∀d m,d∉WM->h.heap.get? d=Z m->VB.get? d=Z m)(n:h.heap.objs.size<=F)(new:fx a.prog a.w (upd j F<|.tup z) VB F (.tup z)):aH a G x (upd j F<|.tup z) {h with heap:=VB,toks:=We}:=by
 have f:j F=Y:=l.aX.fresh n;have t:∀d m,h.heap.get? d=Z m->d≠F:=λd m c=>ef (fk (cg c) n);have o:∀d J,j d=Z J->d∉WM:=λd J c i=>by rw[(b d i).1]at c;cases c
 refine l.step (E:=h.gens) (R:=h.drawn) (WM:=WM) (λd e=>⟨(b d e).2.2.2.1,(b d e).2.1,(b d e).2.2.2.2.1,(b d e).2.2.2.2.2⟩) (λd m W W k c W=>q d m k c) (λd m W W k c W=>⟨m.slots,q d m k c⟩)
  (λd m W c w=>by rw[cZ (t d m c)];exact w) (λd m k c=>⟨m,q d m k c⟩) (λd VR c=>by rw[cZ (hT c f)];exact c) (λd m J c=>by rw[cZ (hT c f)];exact c)
  (λd VQ c=>⟨#[],by rw[cZ (hT c f),c];simp⟩) (λH u=>?_) (λg m c=>?_) l.bare
 ·let⟨m,U,@WB,v,r⟩:=u;exact⟨m,U,WB,q _ m (λi=>(b _ i).2.1 rfl) v,r⟩
 ·by_cases s:g=F
  ·subst s;rw[eW]at c;cases c;exact new
  ·rw[cZ s]at c;refine (l.aX g m c).fF (λd J e p=>q d J ?_ p) (λd p=>by rw[cZ (hT p f)];exact p) λd VR p=>by rw[cZ (hT p f)];exact p
   rcases e with i|i
   ·rw[i];exact o g m c
   ·exact o d _ i
def aH.BY(l:aH a G x j h)(b:∀d∈WM,ku a G j d)(q:∀d m,d∉WM->h.heap.get? d=Z m->VB.get? d=Z m):aH a G x j {h with heap:=VB,toks:=We}:=by
 have k:∀d J,j d=Z J->d∉WM:=λd J c i=>by rw[(b d i).1]at c;cases c
 refine l.step (E:=h.gens) (R:=h.drawn) (WM:=WM) (λd e=>⟨(b d e).2.2.2.1,(b d e).2.1,(b d e).2.2.2.2.1,(b d e).2.2.2.2.2⟩) (λd m W W f c W=>q d m f c) (λd m W W f c W=>⟨m.slots,q d m f c⟩)
  (λd m W W w=>w) (λd m f c=>⟨m,q d m f c⟩) (λd VR c=>c) (λd m J c=>c) (λd VQ c=>⟨#[],by rw[c];simp⟩) (λH n=>?_) (λg m c=>?_) l.bare
 ·let⟨m,U,@WB,o,r⟩:=n;exact⟨m,U,WB,q _ m (λi=>(b _ i).2.1 rfl) o,r⟩
 ·refine (l.aX g m c).fF (λd J e p=>q d J ?_ p) (λd p=>p) λd VR p=>p;rcases e with i|i
  ·rw[i];exact k g m c
  ·exact k d _ i
end
section
variable{VO:bF}{y:bj}{P:bE}{VD:af->ao->Prop}{h:ao}
variable{VH I:ae}{b:Nat}{V9:Array af}{D:af->ao->Prop}
def vs{f:af}(d:h.heap.IsTupleIter VH I b)(e:h.heap.IsTuple I V9)(g:V9[b]?=Z f)(p:∀VB,VB.IsTupleIter VH I (b+1)->aY.SameBut VH h.heap VB->D f {h with heap:=VB}):wpAny (aW VO y) P (bx.SmallTypes.nextOf<|.ref VH) D VD h:=by
 let⟨@m,c,j,a⟩:=id d;let⟨@ol,g1,W,⟨@l,k⟩⟩:=e;unfold bx.SmallTypes.nextOf;refine ax (kz (name:=aD.ofString "__next__") d.typeIs u6<|iW u6 d.typeIs Di ?i<|Fz _)
 case i=>
  show wpAny _ _ (field (.ref VH) 0 >>= _) _ _ h;refine ax (fU c a (x:=.ref I) rfl ?_);show wpAny _ _ (if (af.ref I==af.none)=V then _ else _) _ _ h;rw[aP (show ¬ (af.ref I==af.none)=V by intro i;cases i)];show wpAny _ _ (field (.ref VH) 1 >>= _) _ _ h;refine ax (fU c a (x:=.int b 0) rfl ?_);show wpAny _ _ (nI (.ref I) >>= _) _ _ h;refine ax (fX g1 k ?_);simp only[rg,g];refine ax (u_ c a ↥0 (ba ⟨f,rfl,ba (p _ ⟨_,oI _ c<|EZ<|va a _,(Jr ..).trans j,by rw[va a];simp[ja]⟩<|wH ..)⟩))
def yB(j:P.handled=Y)(a:h.heap.IsTupleIter VH I b)(k:h.heap.IsTuple I V9)(l:V9[b]?=Y)(p:∀VB c,aY.ExtBut VH h.heap VB->(∃m,VB.get? c=Z m/\m.cls=.type "StopIteration")->VD (.ref c) {h with heap:=VB}):wpAny (aW VO y) P (bx.SmallTypes.nextOf<|.ref VH) D VD h:=by
 let⟨@m,d,o,e⟩:=id a;let⟨@ol,g1,W,⟨@q,n⟩⟩:=k;unfold bx.SmallTypes.nextOf;refine ax (kz (name:=aD.ofString "__next__") a.typeIs u6<|iW u6 a.typeIs Di ?i<|Fz _)
 case i=>
  show wpAny _ _ (field (.ref VH) 0 >>= _) _ _ h;refine ax (fU d e (x:=.ref I) rfl ?_);show wpAny _ _ (if (af.ref I==af.none)=V then _ else _) _ _ h;rw[aP (show ¬ (af.ref I==af.none)=V by intro i;cases i)];show wpAny _ _ (field (.ref VH) 1 >>= _) _ _ h;refine ax (fU d e (x:=.int b 0) rfl ?_);show wpAny _ _ (nI (.ref I) >>= _) _ _ h;refine ax (fX g1 n ?_);simp only[rg,l];refine ax (iu (ax (u_ d e ↥0 ?_)));show wpAny _ _ (vf (.type "StopIteration") [] >>= _) _ _ _;apply ax;simp only[vf,xa];refine ax (i0 (ax (m:=uu _ _) (vZ (a:=af.none) (by first|rfl|(simp only[uu];rfl)) (i0 ?_ (by size_fits)))) (by size_fits));simp only[raiseNew];apply ax;apply EC;rw[show P.in1.handled=Y from j];refine ax (m:=pure _) (ba<|wpAny_throw ?_);exact p _ _ (((wH ..).extBut.push _).push _) ⟨_,dr _ rfl,rfl⟩
end
section
variable{VO:bF}{y:bj}{P:bE}{VD:af->ao->Prop}{h:ao}
variable{e VB:aY}{g:ae}
def jy{I:ae}{b:Nat}(f:e.IsTupleIter g I b)(q:∀m,e.get? g=Z m->VB.get? g=Z m):VB.IsTupleIter g I b:=let ⟨m,c,r⟩:=f;⟨m,q m c,r⟩
variable{z:Array af}
def pO(f:e.IsTuple g z)(q:∀m,e.get? g=Z m->VB.get? g=Z m):VB.IsTuple g z:=let ⟨m,c,r⟩:=f;⟨m,q m c,r⟩
variable{g d:af}{V8 Wd:Nat}{VR:Array af}
def T9{i b2 bQ b e q r:ae}{f t:af}{D:af->ao->Prop}(k:ng i b2 bQ b e q r)(s:fG h.heap i b2 bQ .none)(an:e4 h.heap b2 (.ref b) (.ref e))(ap:e4 h.heap bQ g d)(A:h.heap.IsTupleIter b q V8)(C:h.heap.IsTupleIter e r Wd)(as:h.heap.IsTuple q z)(a1:h.heap.IsTuple r VR)(a2:z[V8]?=Z f)(bd:VR[Wd]?=Z t)(be:∀VB,fG VB i b2 bQ (ja h.heap.objs.size)->e4 VB bQ f t->VB.IsTupleIter b q (V8+1)->VB.IsTupleIter e r (Wd+1)->e4 VB h.heap.objs.size f t->
   (∀n m,n≠i->n≠bQ->n≠b->n≠e->h.heap.get? n=Z m->VB.get? n=Z m)->D (.ref h.heap.objs.size) {h with heap:=VB}):
  wpAny (aW VO y) P (bx.«zip.__next__» ⟨[.ref i],[]⟩) (λfin VE=>∃u,fin=.done (.ret u)/\D u VE) VD h:=by
 show wpAny _ _ (field (.ref i) 2 >>= _) _ _ _;refine ax (fU s rfl (x:=.bool aq) rfl ?_);show wpAny _ _ (field (.ref i) 3 >>= _) _ _ _;refine ax (fU s rfl (x:=.ref b2) rfl<|ax<|fX an rfl ?_);show wpAny _ _ (bx.SmallTypes.ownedTupleIsFree (.ref i) >>= _) _ _ _;apply ax;unfold bx.SmallTypes.ownedTupleIsFree;refine ax (fU s rfl (x:=.none) rfl<|ba ?_);simp only[fl];refine ax (iu (ax (fU s rfl (x:=.ref bQ) rfl (ax (jA s ↥0 λbK G j=>?_)))));replace G:fG bK i b2 bQ .ellipsis:=G;apply ax;simp only[sx,tK,pH,uQ];refine ax (ax<|m9 ?_);show wpAny _ _ (bx.SmallTypes.nextOf (.ref b) >>= _) _ _ _;refine ax (vs (h:={h with heap:=bK}) (jy A λm c=>j.extBut _ m k.i1z c) (pO as λm c=>j.extBut _ m k.l1z c) a2 λH bi o=>ba ?_);have O:e4 H bQ g d:=o.extBut _ _ k.TOi1 (j.extBut _ _ k.TOz ap);refine ax (fX (s:={h with heap:=H}) O rfl<|ax<|pD (s:={h with heap:=H}) O λQ I p=>?_);replace I:e4 Q bQ f d:=I;refine ax (iF<|ba<|ax<|ax<|m9 ?_);show wpAny _ _ (bx.SmallTypes.nextOf (.ref e) >>= _) _ _ _;refine ax (vs (h:={h with heap:=Q}) (jy C λm c=>p.extBut _ m k.TOi2.symm<|o.extBut _ m k.i12.symm<|j.extBut _ m k.i2z c) (pO a1 λm c=>p.extBut _ m k.l2TO<|o.extBut _ m k.l2i1<|j.extBut _ m k.l2z c) bd λJ bm v=>ba ?_);have Wt:e4 J bQ f d:=v.extBut _ _ k.TOi2 I;refine ax (fX (s:={h with heap:=J}) Wt rfl<|ax<|pD (s:={h with heap:=J}) Wt λa Wv w=>?_);replace Wv:e4 a bQ f t:=Wv;refine ax (iF<|ba<|ba<|ax<|fX (s:={h with heap:=a}) Wv rfl<|ax<|Aq ?_);have R:a.objs.size=h.heap.objs.size:=by rw[w.1,v.1,p.1,o.1,j.1]
 have S:fG a i b2 bQ .ellipsis:=w.extBut _ _ k.TOz.symm (v.extBut _ _ k.i2z.symm<|p.extBut _ _ k.TOz.symm<|o.extBut _ _ k.i1z.symm G);have bn:∀n m,n≠i->n≠bQ->n≠b->n≠e->h.heap.get? n=Z m->a.get? n=Z m:=λn m l x L M c=>w.extBut _ _ x (v.extBut _ _ M<|p.extBut _ _ x<|o.extBut _ _ L<|j.extBut _ _ l c);have aU:a.IsTupleIter b q (V8+1):=jy bi λm c=>w.extBut _ m k.TOi1.symm (v.extBut _ m k.i12<|p.extBut _ m k.TOi1.symm c);have aV:a.IsTupleIter e r (Wd+1):=jy bm λm c=>w.extBut _ m k.TOi2.symm c;have T:i<a.objs.size:=cg S;show wpAny _ _ (bx.SmallTypes.ownedTupleHandOut (.ref i) (.ref a.objs.size) >>= _) _ _ _;apply ax;unfold bx.SmallTypes.ownedTupleHandOut;have bs:fG (a.push {cls:=.type "tuple",data:=.seq #[f,t]}) i b2 bQ .ellipsis:=b4 _ S;refine ax (jA bs ↥0 λbv N U=>?_);replace N:fG bv i b2 bQ (ja a.objs.size):=N;refine jA N ↥0 λB E al=>?_;replace E:fG B i b2 bQ (ja a.objs.size):=E;have F:∀n m,n≠i->a.get? n=Z m->B.get? n=Z m:=λn m l c=>al.extBut _ _ l (U.extBut _ _ l<|b4 _ c);have am:e4 B a.objs.size f t:=al.extBut _ _ (jR T) (U.extBut _ _ (jR T)<|dr _ rfl);rw[R]at E am;refine ba ⟨_,rfl,?_⟩;show D (.ref a.objs.size) _;rw[R];exact be B E (F _ _ k.TOz Wv) (jy aU λm c=>F _ m k.i1z c) (jy aV λm c=>F _ m k.i2z c) am λn m l x L M c=>F n m l (bn n m l x L M c)
def ON{i b2 bQ o q w x:ae}{D:PySem.Fin->ao->Prop}(I:P.handled=Y)(k:ng i b2 bQ o q w x)(r:fG h.heap i b2 bQ .none)(S:e4 h.heap b2 (.ref o) (.ref q))(T:e4 h.heap bQ g d)(A:h.heap.IsTupleIter o w V8)(C:h.heap.IsTupleIter q x Wd)(J:h.heap.IsTuple w z)(U:h.heap.IsTuple x VR)(al:z[V8]?=Y\/VR[Wd]?=Y)(L:∀VB c,(∀n m,n≠i->n≠bQ->n≠o->n≠q->h.heap.get? n=Z m->VB.get? n=Z m)->(∃m,VB.get? c=Z m/\m.cls=.type "StopIteration")->VD (.ref c) {h with heap:=VB}):
  wpAny (aW VO y) P (bx.«zip.__next__» ⟨[.ref i],[]⟩) D VD h:=by
 show wpAny _ _ (field (.ref i) 2 >>= _) _ _ _;refine ax (fU r rfl (x:=.bool aq) rfl ?_);show wpAny _ _ (field (.ref i) 3 >>= _) _ _ _;refine ax (fU r rfl (x:=.ref b2) rfl<|ax<|fX S rfl ?_);show wpAny _ _ (bx.SmallTypes.ownedTupleIsFree (.ref i) >>= _) _ _ _;apply ax;unfold bx.SmallTypes.ownedTupleIsFree;refine ax (fU r rfl (x:=.none) rfl<|ba ?_);simp only[fl];refine ax (iu (ax (fU r rfl (x:=.ref bQ) rfl (ax (jA r ↥0 λbK v a=>?_)))));replace v:fG bK i b2 bQ .ellipsis:=v;apply ax;simp only[sx,tK,pH,uQ];refine ax (ax<|m9 ?_);show wpAny _ _ (bx.SmallTypes.nextOf (.ref o) >>= _) _ _ _;cases B:z[V8]? with
 |none=>
  refine ax (yB (h:={h with heap:=bK}) I (jy A λm c=>a.extBut _ m k.i1z c) (pO J λm c=>a.extBut _ m k.l1z c) B λs c b E=>?_);let⟨@WC,j,t⟩:=E;have M:fG s i b2 bQ .ellipsis:=b _ _ k.i1z.symm v;have F:c≠i:=λp=>by subst p;rw[M]at j;cases j;simp at t
  refine jA M ↥0 λG W l=>L G c (λn m u W H W p=>l.extBut _ _ u<|b _ _ H<|a.extBut _ _ u p) ⟨WC,l.extBut _ _ F j,t⟩
 |some f=>
  have am:VR[Wd]?=Y:=by
   rcases al with e|e
   ·rw[B]at e;cases e
   ·exact e
  refine ax (vs (h:={h with heap:=bK}) (jy A λm c=>a.extBut _ m k.i1z c) (pO J λm c=>a.extBut _ m k.l1z c) B λs a2 b=>ba ?_);have N:e4 s bQ g d:=b.extBut _ _ k.TOi1 (a.extBut _ _ k.TOz T);refine ax (fX (s:={h with heap:=s}) N rfl<|ax<|pD (s:={h with heap:=s}) N λG bd l=>?_);refine ax (iF<|ba<|ax<|ax<|m9 ?_);show wpAny _ _ (bx.SmallTypes.nextOf (.ref q) >>= _) _ _ _;refine ax (yB (h:={h with heap:=G}) I (jy C λm c=>l.extBut _ m k.TOi2.symm<|b.extBut _ m k.i12.symm<|a.extBut _ m k.i2z c) (pO U λm c=>l.extBut _ m k.l2TO<|b.extBut _ m k.l2i1<|a.extBut _ m k.l2z c) am λan c O E=>?_);let⟨@WC,j,t⟩:=E;have Q:fG an i b2 bQ .ellipsis:=O _ _ k.i2z.symm (l.extBut _ _ k.TOz.symm<|b.extBut _ _ k.i1z.symm v);have F:c≠i:=λp=>by subst p;rw[Q]at j;cases j;simp at t
  refine jA Q ↥0 λap W R=>L ap c (λn m u as H a1 p=>R.extBut _ _ u<|O _ _ a1<|l.extBut _ _ as<|b.extBut _ _ H<|a.extBut _ _ u p) ⟨WC,R.extBut _ _ F j,t⟩
end
variable{h:ao}{Wz:b3}{Wi Ww V4:List Nat}{own VQ:List aD}{WG Wh n c d g:bt}{WU:List bC}{VD:kM}{v w W3:Nat}{W4 x:a8}{fd:gR}{f:aD}{T z:List ar}{B:List ab}{aG V3 P VI V_ VY Wc S O:List ae}{D:cN}{r U:List bt}{We:eE}{a:aK}{V0 VL Q j:aA}{u:ar}{o VT:Pos}{R:Φ}
def ka(e:aY)(a b:ae):aY:=(((((e.push {cls:=.type "tuple_iterator",data:=.fields #[.ref a,.int 0 0]}).push {cls:=.type "tuple_iterator",data:=.fields #[.ref b,.int 0 0]}).push
 {cls:=.type "tuple",data:=.seq #[.ref e.objs.size,.ref (e.push {cls:=.type "tuple_iterator",data:=.fields #[.ref a,.int 0 0]}).objs.size]}).push {cls:=.type "tuple",data:=.seq #[.none,.none]}))
def N1(a b:ae)(z VR:Array af):
    Meets (bx.«zip.__new__» ⟨[.type "zip", .ref a,.ref b],[]⟩) (λ_ VI h => h.heap.IsTuple a z /\ h.heap.IsTuple b VR /\
      VI (.ok<|.ret<|.ref (ka h.heap a b).objs.size) {h with heap:=(ka h.heap a b).push {cls:=.type "zip", data:=.fields #[.none,.bool aq,.bool aq,.ref ((h.heap.push {cls:=.type "tuple_iterator", data:=.fields #[.ref a,.int 0 0]}).push {cls:=.type "tuple_iterator", data:=.fields #[.ref b,.int 0 0]}).objs.size,
        .ref (((h.heap.push {cls:=.type "tuple_iterator", data:=.fields #[.ref a,.int 0 0]}).push {cls:=.type "tuple_iterator", data:=.fields #[.ref b,.int 0 0]}).push
  {cls:=.type "tuple", data:=.seq #[.ref h.heap.objs.size,.ref (h.heap.push {cls:=.type "tuple_iterator", data:=.fields #[.ref a,.int 0 0]}).objs.size]}).objs.size]} }) :=
  .of_wp λVO y P VI h e => by
    let⟨d,L,s,Wq,VV⟩:=h;let@⟨f,g,e⟩:=e;have k:=sub_zip;have i:aY.IsTuple (ao.heap ⟨d,L,s,Wq,VV⟩) a z:=f;have j:aY.IsTuple (ao.heap ⟨d.push {cls:=.type "tuple_iterator", data:=.fields #[.ref a,.int 0 0]}, L,s,Wq,VV⟩) b VR:=pO g λm c => b4 _ c
    wp_walk using wpAny_pyIter_tuple i,wpAny_pyIter_tuple j
    exact ⟨_,rfl,e⟩
def t_(R:Φ)(g d:ae):fq:=(
 ⟨λb j=>∃z VR f t,cu R j g z/\cu R j d VR/\z[b]?=Z f/\VR[b]?=Z t,
  λb j u Q=>∃F f t,j F=Y/\u=.ref F/\Q=upd j F (.tup [f,t])/\(∀z,cu R j g z->z[b]?=Z f)/\(∀VR,cu R j d VR->VR[b]?=Z t),
  λb j=>∃z VR,cu R j g z/\cu R j d VR/\(z.length<=b\/VR.length<=b)⟩)
def Dy(g d i b2 bQ a c:ae)(b:Nat)(e:aY):Prop:=(fG e i b2 bQ .none/\e4 e b2 (.ref a) (.ref c)/\(∃o p,e4 e bQ o p)/\e.IsTupleIter a g b/\e.IsTupleIter c d b)
theorem KC{VJ:bF}{y:bj}(g d i b2 bQ B E:ae)(k:ng i b2 bQ B E g d):
  pP VJ y R (.Tuple U W3 VT) (t_ R g d) [i,b2,bQ,B,E] i (Dy g d i b2 bQ B E) where
 mem:=by simp
 obj:=λb e X n s=>by
  let@⟨A,C,⟨o,@p,v⟩,⟨@Wt,T,_,bs⟩,⟨@Wv,al,_,bv⟩⟩:=X;simp only[bO,kr,eT]at s;rcases s with rfl|rfl|rfl|rfl|rfl
  ·exact⟨_,A,λu c=>by cases c⟩
  ·exact⟨_,C,λu c=>by cases c⟩
  ·exact⟨_,v,λu c=>by cases c⟩
  ·exact⟨_,T,λu c=>by rw[bs]at c;cases c⟩
  ·exact⟨_,al,λu c=>by rw[bv]at c;cases c⟩
 keep:=λb e VB X q=>by
  let@⟨A,C,⟨o,@p,v⟩,H,I⟩:=X;exact⟨q i ↥0 _ A,q b2 ↥0 _ C,⟨o,p,q bQ ↥0 _ v⟩,jy H λm c=>q B ↥0 m c,jy I λm c=>q E ↥0 m c⟩
 item:=by
  intro a am an ap s b G h x j VD l N X as;subst am an ap;let⟨z,VR,f,@t,O,S,be,bi⟩:=as;let⟨@VP,a1,o,L⟩:=l.tuple O;let⟨@a2,bd,Wo,ca⟩:=l.tuple S;let⟨@J,cd,ce⟩:=a1.get be;let⟨@bm,ch,ci⟩:=bd.get bi;have cl:=X;let@⟨A,C,⟨bU,@dh,v⟩,H,I⟩:=X;have M:h.TypeIs (.ref i) "zip" := ⟨_,A,rfl⟩;unfold gF;refine ax (n_ (kz (name:=aD.ofString "__next__") M m7 (iW m7 M wx
   (T9 (D:=λu VE=>wpAny (aW a.prog a.w) a.A (pure<|Z u) (λr co=>∃J,r=Z J/\wpAny (aW a.prog a.w) a.A (qK (.Tuple U W3 VT) (.ref i) J) (λ_ bn=>∃f Q,aH a G x Q bn/\cq f J/\(t_ a.K g d).pR b j f Q/\Dy g d i b2 bQ B E (b+1) bn.heap/\∀d∈[i,b2,bQ,B,E],Q d=Y) VD co) VD VE)
    k A C v H I (show h.heap.IsTuple g VP.toArray from o) (show h.heap.IsTuple d a2.toArray from Wo) (f:=J) (t:=bm) ⇑cd ⇑ch λVB cr cs db ds dL fz=>ba ⟨_,rfl,?_⟩) (ue _))));refine De cr λeq ev cm=>?_;have lt:∀n∈[i,b2,bQ,B,E],n<h.heap.objs.size:=λn s=>by
   let@⟨A,C,⟨o,@p,v⟩,⟨@Wt,T,_⟩,⟨@Wv,al,_⟩⟩:=cl;simp only[bO,kr,eT]at s;rcases s with rfl|rfl|rfl|rfl|rfl
   ·exact cg A
   ·exact cg C
   ·exact cg v
   ·exact cg T
   ·exact cg al
  have cL:∀n m,n∉[i,b2,bQ,B,E]->h.heap.get? n=Z m->eq.get? n=Z m:=λn m s c=>by
   simp only[bO,kr,eT,not_or]at s;exact cm.extBut _ _ s.1 (fz n m s.1 s.2.2.1 s.2.2.2.1 s.2.2.2.2 c)
  have ex:h.heap.objs.size≠i:=jR (lt i ↥0);have fd:j h.heap.objs.size=Y:=l.aX.fresh (bT _);refine⟨.ref h.heap.objs.size,upd j h.heap.objs.size<|.tup [f,t],l.HN (We:=h.toks) N cL (bT _) ⟨by show 2<=sizeLine;decide,[J,bm],.cons ce<|.cons ci .nil,?_⟩,rfl,⟨_,f,t,fd,rfl,rfl,λWO L=>?_,λWO L=>?_⟩,?_,λn s=>?_⟩
  ·exact⟨_,cm.extBut _ _ ex dL,rfl,0,rfl⟩
  ·rw[l.tS L O];exact be
  ·rw[l.tS L S];exact bi
  ·exact⟨ev,cm.extBut _ _ k.TIz<|fz _ _ k.TIz k.TITO k.TIi1 k.TIi2 C,⟨_,_,cm.extBut _ _ k.TOz cs⟩,jy db λm c=>cm.extBut _ m k.i1z c,jy ds λm c=>cm.extBut _ m k.i2z c⟩
  ·rw[cZ (ef<|lt n s)];exact (N n s).1
 done:=by
  intro a am an ap s b G h x j VD l N X as;subst am an ap;let⟨z,@VR,O,S,fn⟩:=as;let⟨@VP,a1,o,L⟩:=l.tuple O;let⟨@a2,bd,Wo,ca⟩:=l.tuple S;let@⟨A,C,⟨bU,@dh,v⟩,H,I⟩:=X;have M:h.TypeIs (.ref i) "zip" := ⟨_,A,rfl⟩;have f1:=a1.length;have f2:=bd.length;unfold gF;refine ax (n_ (kz (name:=aD.ofString "__next__") M m7 (iW m7 M wx
   (ON (l.ok.hd s) k A C v H I (show h.heap.IsTuple g VP.toArray from o) (show h.heap.IsTuple d a2.toArray from Wo) (by
    rcases fn with e|e
    ·exact .inl (by simp;lia)
    ·exact .inr (by simp;lia)) λVB c fz ⟨m,fr,f0⟩=>?_) (ue _))))
  refine ax (tV (T := "StopIteration") (b:=V) ⟨m,fr,f0⟩ Ah<|ba ⟨rfl,l.BY (We:=h.toks) N λn m s c=>?_⟩);simp only[bO,kr,eT,not_or]at s;exact fz n m s.1 s.2.2.1 s.2.2.2.1 s.2.2.2.2 c
 self:=λ_ W W W W X e=>tM X.1 e
section
variable{a:aK}
def P4(R:Φ)(Wu:fp):b2:=(λx j VI=>Wu x j λT VL=>∃g d,T=[.ref g,.ref d]/\(∃z,cu R VL g z)/\(∃VR,cu R VL d VR)/\VI (t_ R g d) VL)
def KL{Wu:fp}{VQ:Pos}(H:eG a "zip")(I:a.aB "zip" = Y)(J:hA a [g,d] Wu)(VN:bP [g,d] a.env=[(aq,b_ g a.env),(aq,b_ d a.env)]:=by rfl)(w:bP [d] a.env=[(aq,b_ d a.env)]:=by rfl):
  lq a (.Tuple U W3 VQ) (.Call (.Name "zip" o) [g,d] [] VT) (P4 a.K Wu):=by
 intro G h x j VI l e;refine Call_ (ra l H I boot_zip (t8 (b0 (J VT G h x j _ l e) λVZ b ⟨T,VL,q,L,M⟩=>?_) (by rw[VN,w]) (by rw[w];rfl)));let⟨f,@i,c,⟨@z,N⟩,⟨@VR,O⟩,p⟩:=M;subst c;cases L with
 |cons r u=>
  cases u with
  |cons Wz u=>
   cases u;cases r;cases Wz;let⟨@VP,am,o,an⟩:=q.tuple N;let⟨@P,ap,Wo,as⟩:=q.tuple O;have Q:f<b.heap.objs.size:=by let⟨@m,c,W⟩:=o;exact cg c
   have S:i<b.heap.objs.size:=by let⟨@m,c,W⟩:=Wo;exact cg c
   refine HR BC ∅ (A_ _ _) (EY _ _) (λal=>Bn al _ _) Cd (N1 f i VP.toArray P.toArray) ⟨o,Wo,?_⟩;have v:(b.heap.push {cls:=.type "tuple_iterator",data:=.fields #[.ref f,.int 0 0]}).objs.size=b.heap.objs.size+1:=h3 ..;have s:((b.heap.push {cls:=.type "tuple_iterator",data:=.fields #[.ref f,.int 0 0]}).push {cls:=.type "tuple_iterator",data:=.fields #[.ref i,.int 0 0]}).objs.size=b.heap.objs.size+2:=by rw[h3,v]
   have t:(((b.heap.push {cls:=.type "tuple_iterator",data:=.fields #[.ref f,.int 0 0]}).push {cls:=.type "tuple_iterator",data:=.fields #[.ref i,.int 0 0]}).push
    {cls:=.type "tuple",data:=.seq #[.ref b.heap.objs.size,.ref (b.heap.push {cls:=.type "tuple_iterator",data:=.fields #[.ref f,.int 0 0]}).objs.size]}).objs.size=b.heap.objs.size+3:=by rw[h3,s]
   have y:(ka b.heap f i).objs.size=b.heap.objs.size+4:=by unfold ka;rw[h3,t]
   show _/\_;refine⟨⟨_,dr _ rfl,rfl⟩,tM (TI:=b.heap.objs.size+2) (TO:=b.heap.objs.size+3) (f0:=.none) ?_ ?_⟩
   ·rw[s,t];exact dr _ rfl
   ·rw[s,t,y];have A:((ka b.heap f i).push {cls:=.type "zip",data:=.fields #[.none,.bool aq,.bool aq,.ref<|b.heap.objs.size+2,.ref<|b.heap.objs.size+3]}).get? (b.heap.objs.size+4)=Z {cls:=.type "zip",data:=.fields #[.none,.bool aq,.bool aq,.ref<|b.heap.objs.size+2,.ref<|b.heap.objs.size+3]}:=by rw[<-y];exact dr _ rfl
    have B:((ka b.heap f i).push {cls:=.type "zip",data:=.fields #[.none,.bool aq,.bool aq,.ref<|b.heap.objs.size+2,.ref<|b.heap.objs.size+3]}).get? (b.heap.objs.size+3)=Z {cls:=.type "tuple",data:=.seq #[.none,.none]}:=by
     rw[<-t];exact b4 _ (dr _ rfl)
    have C:((ka b.heap f i).push {cls:=.type "zip",data:=.fields #[.none,.bool aq,.bool aq,.ref<|b.heap.objs.size+2,.ref<|b.heap.objs.size+3]}).get? (b.heap.objs.size+2)=Z {cls:=.type "tuple",data:=.seq #[.ref b.heap.objs.size,.ref<|b.heap.objs.size+1]}:=by
     rw[<-s,<-v];exact b4 _ (b4 _<|dr _ rfl)
    have D:((ka b.heap f i).push {cls:=.type "zip",data:=.fields #[.none,.bool aq,.bool aq,.ref<|b.heap.objs.size+2,.ref<|b.heap.objs.size+3]}).get? (b.heap.objs.size+1)=Z {cls:=.type "tuple_iterator",data:=.fields #[.ref i,.int 0 0]}:=by
     rw[<-v];exact b4 _ (b4 _<|b4 _<|dr _ rfl)
    have E:((ka b.heap f i).push {cls:=.type "zip",data:=.fields #[.none,.bool aq,.bool aq,.ref<|b.heap.objs.size+2,.ref<|b.heap.objs.size+3]}).get? b.heap.objs.size=Z {cls:=.type "tuple_iterator",data:=.fields #[.ref f,.int 0 0]}:=
     b4 _ (b4 _<|b4 _<|b4 _<|dr _ rfl);have cL:∀n m,b.heap.get? n=Z m->((ka b.heap f i).push {cls:=.type "zip",data:=.fields #[.none,.bool aq,.bool aq,.ref<|b.heap.objs.size+2,.ref<|b.heap.objs.size+3]}).get? n=Z m:=λn m c=>
     b4 _ (b4 _<|b4 _<|b4 _<|b4 _ c);generalize ((ka b.heap f i).push {cls:=.type "zip",data:=.fields #[.none,.bool aq,.bool aq,.ref<|b.heap.objs.size+2,.ref<|b.heap.objs.size+3]})=a2 at E D C B A cL ⊢;have k:ng (b.heap.objs.size+4) (b.heap.objs.size+2) (b.heap.objs.size+3) b.heap.objs.size (b.heap.objs.size+1) f i:=F8 _ _ _ Q S;refine⟨_,_,_,_,VL,rfl,q.kept (We:=b.toks) cL,KC f i _ _ _ _ _ k,⟨A,C,⟨_,_,B⟩,⟨_,E,rfl,rfl⟩,⟨_,D,rfl,rfl⟩⟩,λn F=>?_,p⟩;have:b.heap.objs.size<=n:=by
     simp only[bO,kr,eT]at F;rcases F with rfl|rfl|rfl|rfl|rfl
     ·exact md _ _
     ·exact md _ _
     ·exact md _ _
     ·exact bT _
     ·exact md _ _
    exact q.rV this (q.aX.fresh this)
end
def Jv(R:Φ)(j:aA)(f:ar)(F:String)(d:Bool):Prop:=(
 (∃b,f=.int b/\((F = "int" /\ d=V)\/(F = "tuple" /\ d=aq)\/(F = "str" /\ d=aq)\/(F = "bool" /\ d=aq)\/(F = "list" /\ d=aq)))\/
 (∃b,f=.aF b/\((F = "bool" /\ d=V)\/(F = "int" /\ d=V)\/(F = "tuple" /\ d=aq)\/(F = "str" /\ d=aq)\/(F = "list" /\ d=aq)))\/
 (∃b,f=.str b/\((F = "str" /\ d=V)\/(F = "int" /\ d=aq)\/(F = "tuple" /\ d=aq)\/(F = "bool" /\ d=aq)\/(F = "list" /\ d=aq)))\/
 (∃g z,f=.ref g/\cu R j g z/\((F = "tuple" /\ d=V)\/(F = "int" /\ d=aq)\/(F = "str" /\ d=aq)\/(F = "bool" /\ d=aq)\/(F = "list" /\ d=aq)))\/
 (∃g z,f=.ref g/\dv R j g z/\((F = "list" /\ d=V)\/(F = "int" /\ d=aq)\/(F = "str" /\ d=aq)\/(F = "bool" /\ d=aq)\/(F = "tuple" /\ d=aq))))
section
variable{a:aK}
def UA:eY a (.builtin "isinstance") (λz j D=>∃f F d,z=[f,.ty F]/\Jv a.K j f F d/\D (.aF d) j):=by
 intro G h x j z VZ D l r e;let⟨f,F,@d,rfl,VF,p⟩:=e;cases r with
 |cons r q=>
  cases q with
  |cons Wz q=>
   cases q;cases Wz;have n:∀{d:Bool},D (.aF d) j->eP a G x D (.bool d) h:=λ{d} p=>⟨.aF d,j,l,rfl,p⟩;have c:∀{d:Bool},D (.aF d) j->eP a G x D (.bool d) {h with toks:=h.toks+1}:=λ{d} p=>⟨.aF d,j,l.tok _,rfl,p⟩;rcases VF with ⟨b,rfl,VF⟩|⟨b,rfl,VF⟩|⟨b,rfl,VF⟩|⟨g,z,rfl,VN,VF⟩|⟨g,z,rfl,VN,VF⟩
   ·let⟨@I,rfl⟩:=r;rcases VF with ⟨rfl,rfl⟩|⟨rfl,rfl⟩|⟨rfl,rfl⟩|⟨rfl,rfl⟩|⟨rfl,rfl⟩
    ·exact IsiPair.int_int (n p)
    ·exact IsiPair.int_tuple (c p)
    ·exact IsiPair.int_str (c p)
    ·exact IsiPair.int_bool (c p)
    ·exact IsiPair.int_list (c p)
   ·cases r;rcases VF with ⟨rfl,rfl⟩|⟨rfl,rfl⟩|⟨rfl,rfl⟩|⟨rfl,rfl⟩|⟨rfl,rfl⟩
    ·exact IsiPair.bool_bool (n p)
    ·exact IsiPair.bool_int (n p)
    ·exact IsiPair.bool_tuple (c p)
    ·exact IsiPair.bool_str (c p)
    ·exact IsiPair.bool_list (c p)
   ·let⟨@I,rfl⟩:=r;rcases VF with ⟨rfl,rfl⟩|⟨rfl,rfl⟩|⟨rfl,rfl⟩|⟨rfl,rfl⟩|⟨rfl,rfl⟩
    ·exact IsiPair.str_str (n p)
    ·exact IsiPair.str_int (c p)
    ·exact IsiPair.str_tuple (c p)
    ·exact IsiPair.str_bool (c p)
    ·exact IsiPair.str_list (c p)
   ·cases r;let⟨@VP,s,⟨@m,i,k,W⟩,t⟩:=l.tuple VN;rcases VF with ⟨rfl,rfl⟩|⟨rfl,rfl⟩|⟨rfl,rfl⟩|⟨rfl,rfl⟩|⟨rfl,rfl⟩
    ·exact IsiPair.tuple_tuple i k (n p)
    ·exact IsiPair.tuple_int i k (c p)
    ·exact IsiPair.tuple_str i k (c p)
    ·exact IsiPair.tuple_bool i k (c p)
    ·exact IsiPair.tuple_list i k (c p)
   ·cases r;let⟨@VP,s,o,t⟩:=l.list VN;let⟨@m,i,k,W⟩:=o.isList;rcases VF with ⟨rfl,rfl⟩|⟨rfl,rfl⟩|⟨rfl,rfl⟩|⟨rfl,rfl⟩|⟨rfl,rfl⟩
    ·exact IsiPair.list_list i k (n p)
    ·exact IsiPair.list_int i k (c p)
    ·exact IsiPair.list_str i k (c p)
    ·exact IsiPair.list_bool i k (c p)
    ·exact IsiPair.list_tuple i k (c p)
def Pk:∀{E:List Bool}{VZ:List af},bY (E.map ar.aF) VZ->∀(b:Nat) (u:af),VZ[b]?=Z u->∃d,E[b]?=Z d/\u=af.bool d:=by
 intro E VZ r b u e;have a:=r.length;rw[bB]at a;have VF:b<E.length:=by rw[a];exact (fY.mp e).1
 let⟨@J,c,g⟩:=r.get (b:=b) (f:=ar.aF E[b]) (by simp[VF]);rw[e]at c;cases c;exact⟨E[b],by simp[VF],g⟩
def Qy(m:a.calm=V):eY a (.builtin "all") (λz j D=>∃M E,z=[.ref M]/\j M=Z (.lst<|List.map ar.aF E)/\D (.aF<|E.all id) j):=by
 intro G h x j z VZ D l r e;let⟨M,@E,rfl,n,p⟩:=e;let⟨@J,rfl,o⟩:=ih r;cases o;let@⟨i,⟨VP,@w,f,c⟩⟩:=l.aX M _ n;have g:h.heap.IsList M VP.toArray:=⟨_,c,rfl,w,rfl⟩;refine call_all_walk (wpAny_pyIter_list g ⟨h.heap.objs.size,[h.heap.objs.size,M],[h.heap.objs.size],VP.toArray.size,_,_,λb=>(E[b]?).getD V,rfl,lj.list (A:=a.A.in1) (l.ok.hd m) _ M (ef<|cg c) VP.toArray,
  ⟨⟨_,dr _ rfl,rfl,rfl⟩,g.push _⟩,λb u VE y B q k=>?_,λVB Wq s=>?_⟩)
 ·let⟨@d,t,rfl⟩:=Pk f b u ⇑q;simp only[t,rH]at k;exact kP k
 ·have v:VP.toArray.size=E.length:=by
   have:=f.length;rw[bB]at this;rw[cX,this]
  rw[v,LSm.range_all];exact⟨.aF _,j,l.kept<|LSm.kept_iter s,rfl,p⟩
def J1:d1 a (gn .Mult) (ql IntMulOk λb v=>.int<|b*v):=wQ λ_ W W W W W W c p=>mul_int p c
end
inductive ak where
 | im (s:ab)
 | dS
 | dE (B:List ab)
 | lst (B:List ab)
 | dR (VS:List (eR×ab))
 | aR (VS:List (List ab×ab))
 | hs (z:List ak)
 | qg (z:List ak)
 | ou (VS:List (List ab×ab))
 | dL (VS:List (List ab×List ab))
variable{m:Option ak}{Wr:List ak->Option ak}{N:ak->ak->Option ak}{s:ak}
abbrev a5:=List (Option ak)
variable{VW k:a5}{e:List ak->a5->Option a5}
abbrev e3{V6:Type}(j:aA):List (V6×ab)->List (V6×ar)->Prop:=eA λo p=>o.1=p.1/\cM j o.2 p.2
def e3.mono{V6:Type}{M:List (V6×ab)}{H:List (V6×ar)}(I:p3 j Q)(e:e3 j M H):e3 Q M H:=eA.vc e λ_ W i=>⟨i.1,i.2.mono I⟩
structure eU(j Q:aA):Prop where
 tup:p3 j Q
 dw:∀g m J,j g=Z (.dw m J)->Q g=Z (.dw m J)
def mv(j:aA):List (List ab×List ab)->List (List ab×ar)->List ae->Prop
 |[],a,S=>a=[]/\S=[]
 |o::r,a,S=>∃d z y b,a=(o.1,.ref d)::y/\j d=Z (.lst z)/\bN j o.2 z/\mv j r y b/\S=d::b
theorem mv.mono{j Q:aA}(I:eU j Q):∀{M:List (List ab×List ab)}{a:List (List ab×ar)}{S:List ae},mv j M a S->(∀g∈S,∀m,j g=Z m->Q g=Z m)->mv Q M a S
 |[],_,_,e,_=>e
 |o::r,a,S,e,q=>by
  let⟨d,z,y,@b,c,A,C,f,rfl⟩:=e;exact⟨d,z,y,b,c,q d (.head _) _ A,C.mono I.tup,mv.mono I f λg h=>q g<|.tail _ h,rfl⟩
mutual
def cJ(j:aA):ak->ar->List ae->Prop
 |.im s,u,O=>cM j s u/\O=[]
 |.dS,_,O=>O=[]
 |.dE B,u,O=>∃g z m,u=.ref g/\j g=Z (.dw m<|.lst z)/\bN j B z/\O=[]
 |.lst B,u,O=>∃g z,u=.ref g/\j g=Z (.lst z)/\bN j B z/\O=[g]
 |.dR VS,u,O=>∃g WK,u=.ref g/\j g=Z (.dR WK)/\e3 j VS WK/\O=[g]
 |.aR VS,u,O=>∃g WK,u=.ref g/\j g=Z (.aR WK)/\e3 j VS WK/\O=[g]
 |.hs B,u,O=>∃g z S,u=.ref g/\j g=Z (.lst z)/\ey j B z S/\O=g::S
 |.qg B,u,O=>∃g z,u=.ref g/\j g=Z (.tup z)/\ey j B z O
 |.ou VS,u,O=>∃g WK m,u=.ref g/\j g=Z (.dw m<|.aR WK)/\e3 j VS WK/\O=[]
 |.dL VS,u,O=>∃g WK S,u=.ref g/\j g=Z (.aR WK)/\mv j VS WK S/\O=g::S
def ey(j:aA):List ak->List ar->List ae->Prop
 |[],T,O=>T=[]/\O=[]
 |s::B,T,O=>∃u r VY V_,T=u::r/\cJ j s u VY/\ey j B r V_/\O=VY++V_
end
mutual
theorem cJ.mono{j Q:aA}(I:eU j Q):∀{s:ak}{u:ar}{O:List ae},cJ j s u O->(∀g∈O,∀m,j g=Z m->Q g=Z m)->cJ Q s u O
 |.im s,u,O,e,_=>⟨e.1.mono I.tup,e.2⟩
 |.dS,u,O,e,_=>e
 |.dE B,u,O,e,_=>by
  let⟨g,z,@m,rfl,A,C,rfl⟩:=e;exact⟨g,z,m,rfl,I.dw _ _ _ A,C.mono I.tup,rfl⟩
 |.lst B,u,O,e,q=>by
  let⟨g,@z,rfl,A,C,rfl⟩:=e;exact⟨g,z,rfl,q g (.head _) _ A,C.mono I.tup,rfl⟩
 |.dR VS,u,O,e,q=>by
  let⟨g,@z,rfl,A,C,rfl⟩:=e;exact⟨g,z,rfl,q g (.head _) _ A,C.mono I.tup,rfl⟩
 |.aR VS,u,O,e,q=>by
  let⟨g,@z,rfl,A,C,rfl⟩:=e;exact⟨g,z,rfl,q g (.head _) _ A,C.mono I.tup,rfl⟩
 |.hs B,u,O,e,q=>by
  let⟨g,z,@S,rfl,A,C,rfl⟩:=e;exact⟨g,z,S,rfl,q g (.head _) _ A,ey.mono I C λd a=>q d<|.tail _ a,rfl⟩
 |.qg B,u,O,e,q=>by
  let⟨g,@z,rfl,A,C⟩:=e;exact⟨g,z,rfl,I.tup g z A,ey.mono I C q⟩
 |.ou VS,u,O,e,_=>by
  let⟨g,z,@m,rfl,A,C,rfl⟩:=e;exact⟨g,z,m,rfl,I.dw _ _ _ A,C.mono I.tup,rfl⟩
 |.dL VS,u,O,e,q=>by
  let⟨g,WK,@S,rfl,A,C,rfl⟩:=e;exact⟨g,WK,S,rfl,q g (.head _) _ A,C.mono I λd a=>q d<|.tail _ a,rfl⟩
theorem ey.mono{j Q:aA}(I:eU j Q):∀{B:List ak}{T:List ar}{O:List ae},ey j B T O->(∀g∈O,∀m,j g=Z m->Q g=Z m)->ey Q B T O
 |[],T,O,e,_=>e
 |s::B,T,O,e,q=>by
  let⟨u,r,VY,@V_,rfl,A,C,rfl⟩:=e;exact⟨u,r,VY,V_,rfl,cJ.mono I A λg a=>q g<|eL _ a,ey.mono I C λg a=>q g<|ez _ a,rfl⟩
end
def fW(j:aA)(g:ae):Prop:=(∃m,j g=Z m/\(∀z,m≠.tup z)/\∀o J,m≠.dw o J)
theorem mv.chg{j:aA}:∀{M:List (List ab×List ab)}{b:List (List ab×ar)}{S:List ae},mv j M b S->∀g∈S,fW j g
 |[],_,S,e,g,a=>by rw[e.2]at a;cases a
 |o::r,b,S,e,g,a=>by
  let⟨d,z,y,@h,c,A,C,f,rfl⟩:=e;rcases bO.mp a with rfl|a
  ·exact⟨_,A,(λ_ c=>by cases c),(λ_ W c=>by cases c)⟩
  ·exact mv.chg f g a
mutual
theorem cJ.chg{j:aA}:∀{s:ak}{u:ar}{O:List ae},cJ j s u O->∀g∈O,fW j g
 |.im s,u,O,e,g,b=>by rw[e.2]at b;cases b
 |.dS,u,O,e,g,b=>by rw[show O=[] from e]at b;cases b
 |.dE B,u,O,e,d,a=>by
  let⟨g,z,@m,rfl,A,C,rfl⟩:=e;cases a
 |.lst B,u,O,e,d,a=>by
  let⟨g,@z,rfl,A,C,rfl⟩:=e;rw[cH.mp a];exact⟨_,A,(λ_ c=>by cases c),(λ_ W c=>by cases c)⟩
 |.dR VS,u,O,e,d,a=>by
  let⟨g,@z,rfl,A,C,rfl⟩:=e;rw[cH.mp a];exact⟨_,A,(λ_ c=>by cases c),(λ_ W c=>by cases c)⟩
 |.aR VS,u,O,e,d,a=>by
  let⟨g,@z,rfl,A,C,rfl⟩:=e;rw[cH.mp a];exact⟨_,A,(λ_ c=>by cases c),(λ_ W c=>by cases c)⟩
 |.hs B,u,O,e,d,a=>by
  let⟨g,z,@S,rfl,A,C,rfl⟩:=e;rcases bO.mp a with rfl|a
  ·exact⟨_,A,(λ_ c=>by cases c),(λ_ W c=>by cases c)⟩
  ·exact ey.chg C d a
 |.qg B,u,O,e,d,a=>by
  let⟨g,@z,rfl,A,C⟩:=e;exact ey.chg C d a
 |.ou VS,u,O,e,d,a=>by
  let⟨g,z,@m,rfl,A,C,rfl⟩:=e;cases a
 |.dL VS,u,O,e,d,a=>by
  let⟨g,WK,@S,rfl,A,C,rfl⟩:=e;rcases bO.mp a with rfl|a
  ·exact⟨_,A,(λ_ c=>by cases c),(λ_ W c=>by cases c)⟩
  ·exact C.chg d a
theorem ey.chg{j:aA}:∀{B:List ak}{T:List ar}{O:List ae},ey j B T O->∀g∈O,fW j g
 |[],T,O,e,g,a=>by rw[e.2]at a;cases a
 |s::B,T,O,e,g,a=>by
  let⟨u,r,VY,@V_,rfl,A,C,rfl⟩:=e;rcases dy.mp a with a|a
  ·exact cJ.chg A g a
  ·exact ey.chg C g a
end
theorem ey.length:∀{B:List ak}{T:List ar}{O:List ae},ey j B T O->B.length=T.length
 |[],T,O,e=>by rw[e.1];rfl
 |s::B,T,O,e=>by
  let⟨u,r,VY,@V_,rfl,A,C,rfl⟩:=e;rw[dV,dV,C.length]
theorem bN.length:∀{B:List ab}{T:List ar},bN j B T->B.length=T.length
 |[],T,e=>by rw[show T=[] from e];rfl
 |s::B,T,e=>by
  let⟨u,@r,rfl,A,C⟩:=e;rw[dV,dV,C.length]
def nV(j:aA):Option ak->Option ar->List ae->Prop
 |none,_,O=>O=[]
 |some s,f,O=>∃u,f=Z u/\cJ j s u O
def bD(j:aA):a5->a8->List ae->Prop
 |[],x,O=>x=[]/\O=[]
 |m::k,x,O=>∃f r VY V_,x=f::r/\nV j m f VY/\bD j k r V_/\O=VY++V_
structure bk(j:aA)(O:List ae)(Q:aA)(Wc:List ae):Prop where
 keep:∀g m,j g=Z m->g∉O->Q g=Z m
 sub:∀g∈Wc,g∈O\/j g=Y
 ah:Wc.Nodup
 tup:eU j Q
 grow:∀g m,j g=Z m->∃Wj,Q g=Z Wj
theorem nV.mono(I:eU j Q):∀{m:Option ak}{f:Option ar}{O:List ae},nV j m f O->(∀g∈O,∀m,j g=Z m->Q g=Z m)->nV Q m f O
 |none,_,_,e,_=>e
 |some s,f,O,e,q=>by
  let⟨@u,rfl,e⟩:=e;exact⟨u,rfl,e.mono I q⟩
theorem bD.mono{j Q:aA}(I:eU j Q):∀{k:a5}{x:a8}{O:List ae},bD j k x O->(∀g∈O,∀m,j g=Z m->Q g=Z m)->bD Q k x O
 |[],x,O,e,_=>e
 |m::k,x,O,e,q=>by
  let⟨f,r,VY,@V_,rfl,A,C,rfl⟩:=e;exact⟨f,r,VY,V_,rfl,A.mono I λg a=>q g<|eL _ a,bD.mono I C λg a=>q g<|ez _ a,rfl⟩
theorem nV.chg:∀{m:Option ak}{f:Option ar}{O:List ae},nV j m f O->∀g∈O,fW j g
 |none,_,O,e,g,a=>by rw[show O=[] from e]at a;cases a
 |some s,f,O,e,g,a=>by
  let⟨@u,rfl,e⟩:=e;exact e.chg g a
theorem bD.chg{j:aA}:∀{k:a5}{x:a8}{O:List ae},bD j k x O->∀g∈O,fW j g
 |[],x,O,e,g,a=>by rw[e.2]at a;cases a
 |m::k,x,O,e,g,a=>by
  let⟨f,r,VY,@V_,rfl,A,C,rfl⟩:=e;rcases dy.mp a with a|a
  ·exact A.chg g a
  ·exact bD.chg C g a
theorem bD.len{j:aA}:∀{k:a5}{x:a8}{O:List ae},bD j k x O->k.length=x.length
 |[],x,O,e=>by rw[e.1];rfl
 |m::k,x,O,e=>by
  let⟨f,r,VY,@V_,rfl,A,C,rfl⟩:=e;rw[dV,dV,bD.len C]
def ak.dH:ak->Bool
 |.im _=>V
 |.dE _=>V
 |.ou _=>V
 |_=>aq
def cJ.dH(e:cJ j s u O)(n:s.dH=V):O=[]:=by
 cases s with
 |im s=>exact e.2
 |dE B=>let⟨g,z,@m,rfl,A,C,rfl⟩:=e;rfl
 |ou B=>let⟨g,z,@m,rfl,A,C,rfl⟩:=e;rfl
 |_=>cases n
theorem bD.out{j:aA}:∀{k:a5}{x:a8}{O:List ae}{b:Nat}{s:ak},bD j k x O->k[b]?=Z (Z s)->∃u VY V_,x[b]?=Z (Z u)/\cJ j s u VY/\bD j (k.set b<|Z .dS) x V_/\(V_++VY).Perm O
 |[],x,O,b,s,e,c=>by simp at c
 |m::k,x,O,0,s,e,c=>by
  let⟨f,r,VY,@V_,rfl,A,C,rfl⟩:=e;simp at c;subst c;let⟨@u,rfl,A⟩:=A;exact⟨u,VY,V_,rfl,A,⟨Z u,r,[],V_,rfl,⟨u,rfl,rfl⟩,C,rfl⟩,dx⟩
 |m::k,x,O,b+1,s,e,c=>by
  let⟨f,r,VY,@V_,rfl,A,C,rfl⟩:=e;let⟨u,d,@a,g,h,i,l⟩:=bD.out (b:=b) C ⇑c;refine⟨u,d,VY++a,by simpa using g,h,⟨f,r,VY,a,rfl,A,i,rfl⟩,?_⟩;rw[bz];exact en _ l
theorem bD.put{j:aA}:∀{k:a5}{x:a8}{O:List ae}{b:Nat}{s:ak}{u:ar}{S:List ae},bD j k x O->cJ j s u S->b<k.length->∃VY V_,bD j (k.set b<|Z s) (x.set b<|Z u) VY/\(VY++V_).Perm (O++S)
 |[],x,O,b,s,u,S,e,y,M=>by simp at M
 |m::k,x,O,0,s,u,S,e,y,M=>by
  let⟨f,r,VY,@V_,rfl,A,C,rfl⟩:=e;refine⟨S++V_,VY,⟨Z u,r,S,V_,rfl,⟨u,rfl,y⟩,C,rfl⟩,?_⟩;refine dx.trans ?_;rw[bz];exact en _ dx
 |m::k,x,O,b+1,s,u,S,e,y,M=>by
  let⟨f,r,VY,@V_,rfl,A,C,rfl⟩:=e;let⟨a,@c,d,g⟩:=bD.put (b:=b) C y ⇑M;refine⟨VY++a,c,⟨f,_,VY,a,rfl,A,d,rfl⟩,?_⟩;rw[bz,bz];exact en _ g
def bD.dH{b:Nat}(e:bD j k x O)(c:k[b]?=Z (Z s))(n:s.dH=V):∃u,x[b]?=Z (Z u)/\cJ j s u []:=by
 let⟨u,VY,@V_,d,a,W⟩:=e.out c;obtain rfl:=a.dH n;exact⟨u,d,a⟩
def NR{b:Nat}(e:x[b]?=Z (Z u)):x.set b (Z u)=x:=by
 refine pK λv=>?_;by_cases c:b=v
 ·subst c;rw[e,vO (fY.mp e).1]
 ·rw[oR c]
def bD.back{b:Nat}(e:bD j k x O)(y:cJ j s u S)(a:x[b]?=Z (Z u)):∃VY V_,bD j (k.set b<|Z s) x VY/\(VY++V_).Perm (O++S):=by
 have M:b<k.length:=by rw[e.len];exact (fY.mp a).1
 let⟨VY,@V_,A,C⟩:=e.put (b:=b) y M;rw[NR a]at A;exact⟨VY,V_,A,C⟩
def eU.of(N:rL j Q)(L:∀g m J,j g=Z (.dw m J)->Q g=Z (.dw m J)):eU j Q:=⟨⟨N,L⟩,L⟩
def Av(j:aA):eU j j:=⟨⟨λ_ W c=>c,λ_ W W c=>c⟩,λ_ W W c=>c⟩
def eU.trans(g:eU j VL)(d:eU VL V0):eU j V0:=⟨⟨λf z c=>d.tup.t f z<|g.tup.t f z c,λf m J c=>d.dw f m J<|g.dw f m J c⟩,λf m J c=>d.dw f m J<|g.dw f m J c⟩
def bk.refl(e:Wc.Nodup)(h:∀g∈Wc,g∈O):bk j O j Wc:=⟨λ_ W c W=>c,λg a=>.inl<|h g a,e,Av j,λ_ m c=>⟨m,c⟩⟩
def bk.perm(e:O.Nodup)(o:Wc.Perm O):bk j O j Wc:=bk.refl ((o.nodup_iff).mpr e) λg a=>o.mem_iff.mp a
def bk.trans(g:bk j O VL (VY++VI))(d:bk VL VY V0 V_)(i:∀f∈VI,fW VL f):bk j O V0 (V_++VI):=by
 have ah:=dt.mp g.ah;have k:∀f∈V_,f∉VI:=λf a h=>by
  rcases d.sub f a with e|e
  ·exact ah.2.2 f e f h rfl
  ·let⟨@m,c,W⟩:=i f h;rw[c]at e;cases e
 refine⟨λf m c a=>?_,λf a=>?_,dt.mpr ⟨d.ah,ah.2.1,λf a t l c=>k f a<|c ▸ l⟩,g.tup.trans d.tup,λf m c=>let ⟨Wj,b⟩:=g.grow f m c;d.grow f Wj b⟩
 ·refine d.keep f m (g.keep f m c a) λA=>?_;rcases g.sub f (eL _ A) with e|e
  ·exact a e
  ·rw[c]at e;cases e
 ·rcases dy.mp a with a|a
  ·rcases d.sub f a with e|e
   ·exact g.sub f (eL _ e)
   ·refine .inr ?_;cases c:j f with
    |none=>rfl
    |some m=>
     let⟨@Wj,b⟩:=g.grow f m c;rw[b]at e;cases e
  ·exact g.sub f (ez _ a)
def c8.tupS(h:c8 j Q):eU j Q:=⟨⟨λg z c=>h g _ c,λg m J c=>h g _ c⟩,λg m J c=>h g _ c⟩
def Fq{g d:ae}{m J:gm}(c:j d=Z m)(e:j g=Y):L2.upd j g J d=Z m:=by rw[cZ (hT c e)];exact c
def c8.upd(h:c8 j Q){g:ae}{m:gm}(e:Q g=Y):c8 j (L2.upd Q g m):=λd J c=>Fq (h d J c) e
abbrev aC(V7:Type):=a5->Option (V7×a5)
variable{W0:aC ak}{WJ q:aC Bool}
inductive bI where
 | a6 (b:Nat)
 | cA (s:ak)
variable{Wx WD:aC bI}{L:aC (List bI)}
def cY(k:a5):bI->Option ak
 |.a6 b=>(k[b]?).getD Y
 |.cA s=>Z s
def i4(j:aA)(x:a8):bI->ar->List ae->Prop
 |.a6 b,u,VI=>x[b]?=Z (Z u)/\VI=[]
 |.cA s,u,VI=>cJ j s u VI
def nS(L:aC ak):cf:=(λx j D=>∃k O r VW,bD j k x O/\O.Nodup/\L k=Z (r,VW)/\∀u Q Wc VI,bD Q VW x Wc->cJ Q r u VI->bk j O Q (Wc++VI)->D u Q)
def nj(L:aC bI):cf:=(λx j D=>∃k O r VW,bD j k x O/\O.Nodup/\L k=Z (r,VW)/\∀u Q Wc VI,bD Q VW x Wc->i4 Q x r u VI->bk j O Q (Wc++VI)->D u Q)
def j2(L:aC Bool):eE:=(λx j D=>∃k O d VW,bD j k x O/\O.Nodup/\L k=Z (d,VW)/\∀Q Wc,bD Q VW x Wc->bk j O Q Wc->D d Q)
def cw(a:aK)(c:bt)(L:aC ak):Prop:=(∀ ⦃o⦄,yC a c (nS L) o)
def dC(a:aK)(c:bt)(L:aC bI):Prop:=(∀ ⦃o⦄,yC a c (nj L) o)
def hS(a:aK)(c:bt)(L:aC Bool):Prop:=(∀ ⦃o⦄,Dw a c (j2 L) o)
def eC{I We:cf}(e:bW a c I)(b:∀x j D,We x j D->I x j D):bW a c We:=λG h x j D l d=>e G h x j D l (b x j D d)
def u0{I:eE}(e:hO a c I)(b:∀x j D,We x j D->I x j D):hO a c We:=λG h x j D l d=>e G h x j D l (b x j D d)
def i4.mono{r:bI}(e:i4 j x r u VI)(I:eU j Q)(q:∀g∈VI,∀m,j g=Z m->Q g=Z m):i4 Q x r u VI:=by
 cases r with
 |a6 b=>exact e
 |cA s=>exact cJ.mono I e q
def i4.chg{r:bI}(e:i4 j x r u VI):∀g∈VI,fW j g:=by
 cases r with
 |a6 b=>intro g a;rw[e.2]at a;cases a
 |cA s=>exact cJ.chg e
def e6(j:aA)(s:ak)(u:ar):Prop:=(∃VI,cJ j s u VI)
def i4.read{r:bI}(e:i4 j x r u VI)(X:bD j k x O)(c:cY k r=Z s):e6 j s u:=by
 cases r with
 |cA g=>cases c;exact⟨VI,e⟩
 |a6 b=>
  have d:k[b]?=Z (Z s):=by
   have:(k[b]?).getD Y=Z s:=c;cases p:k[b]? with
   |none=>rw[p]at this;cases this
   |some m=>rw[p]at this;rw[show m=Z s from this]
  let⟨h,VY,@V_,a,f,W⟩:=X.out d;rw[e.1]at a;cases a;exact⟨VY,f⟩
@[simp] def fB(b:Nat):aC ak:=λk=>match k[b]? with
 |some (Z s)=>if s.dH=V then Z (s,k) else Z (s,k.set b<|Z .dS)
 |_=>Y
def au(s:ab):aC ak:=(λk=>Z (.im s,k))
@[simp] def ag(b:Nat):aC bI:=λk=>match k[b]? with
 |some (Z _)=>Z (.a6 b,k)
 |_=>Y
@[simp] def aa(L:aC ak):aC bI:=λk=>(L k).map λo=>(.cA o.1,o.2)
section
variable{a:aK}
variable{b:Nat}
def iM(e:bW a c (mI b)):cw a c (fB b):=by
 refine eC e λx j D f=>?_;let⟨k,O,r,@VW,X,ah,d,p⟩:=f;unfold fB at d;split at d
 ·rename_i s hd;split at d
  ·rename_i g;cases d;let⟨@u,A,C⟩:=X.dH hd g;exact⟨u,A,p u j O [] X C (by rw[cj];exact bk.perm ah (List.Perm.refl _))⟩
  ·cases d;let⟨u,VY,@V_,A,C,h,i⟩:=X.out hd;exact⟨u,A,p u j V_ VY h C<|bk.perm ah i⟩
 ·cases d
def JO(e:bW a c (mI b)):dC a c (ag b):=by
 refine eC e λx j D f=>?_;let⟨k,O,r,@VW,X,ah,d,p⟩:=f;unfold ag at d;split at d
 ·rename_i s hd;cases d;let⟨u,VY,@V_,A,C,g,h⟩:=X.out hd;exact⟨u,A,p u j O [] X ⟨A,rfl⟩ (by rw[cj];exact bk.perm ah (List.Perm.refl _))⟩
 ·cases d
def a0{L:aC ak}(e:cw a c L):dC a c (aa L):=by
 refine eC e λx j D d=>?_;let⟨k,O,r,@VW,X,ah,b,p⟩:=d;unfold aa at b;let⟨@⟨Wz,VK⟩,A,C⟩:=cv.mp b;cases C;exact⟨k,O,Wz,_,X,ah,A,p⟩
def tu{s:ab}(e:bW a c (n6 u))(hd:∀j,cM j s u):cw a c (au s):=by
 refine eC e λx j D b=>?_;let⟨k,O,r,@VW,X,ah,d,p⟩:=b;cases d;exact p u j O [] X ⟨hd j,rfl⟩ (by rw[cj];exact bk.perm ah (List.Perm.refl _))
def ie{b:Int}{v VT}:cw a (.Constant (.int b) v VT) (au<|.int b):=tu U8 λ_=>rfl
def jh{d:Bool}{v VT}:cw a (.Constant (.bool d) v VT) (au<|.aF d):=tu Mj λ_=>rfl
def two{VK Wf:a5}{f t:bI}{R:ar->ar->aA->Prop}(X:bD j k x O)(ah:O.Nodup)(b:WD k=Z (f,VK))(i:Wx VK=Z (t,Wf))(q:∀u J Q Wc a b3,bD Q Wf x Wc->i4 Q x f u a->i4 Q x t J b3->bk j O Q ((Wc++b3)++a)->R u J Q):nj WD x j λu VL=>nj Wx x VL λJ V0=>R u J V0:=by
 refine⟨k,O,f,VK,X,ah,b,λu VL VY a l V5 d=>⟨VK,VY,t,Wf,l,(dt.mp d.ah).1,i,λJ V0 V_ b3 n o h=>?_⟩⟩;refine q u J V0 V_ a b3 n (V5.mono h.tup λg b m c=>h.keep g m c λe=>?_) o (d.trans h V5.chg);exact (dt.mp d.ah).2.2 g e g b rfl
def bk.new{l:List ae}(g:bk j O VL (VY++VI))(h:c8 VL V0)(ah:l.Nodup)(d:∀f∈l,VL f=Y)(n:∀f∈VY,fW VL f):bk j O V0 (VY++l):=by
 refine⟨λf m c a=>h _ _<|g.keep f m c a,λf a=>?_,dt.mpr ⟨(dt.mp g.ah).1,ah,λf a t e c=>?_⟩,g.tup.trans h.tupS,λf m c=>let ⟨Wj,b⟩:=g.grow f m c;⟨Wj,h _ _ b⟩⟩
 ·rcases dy.mp a with a|a
  ·exact g.sub f (eL _ a)
  ·refine .inr ?_;cases c:j f with
   |none=>rfl
   |some m=>
    let⟨@Wj,b⟩:=g.grow f m c;rw[d f a]at b;cases b
 ·subst c;let⟨@m,c,W⟩:=n f a;rw[d f e]at c;cases c
def fm(a:aK)(N:af->af->eo af)(Wr:ak->ak->Option ak):Prop:=(
 d1 a N λf t j D=>∃Wb Wl s,e6 j Wb f/\e6 j Wl t/\Wr Wb Wl=Z s/\∀u Q VI,c8 j Q->cJ Q s u VI->VI.Nodup->(∀g∈VI,j g=Y)->D u Q)
@[simp] def av(Wr:ak->ak->Option ak)(WD Wx:aC bI):aC ak:=λk=>(WD k).bind λo=>(Wx o.2).bind λp=>(cY p.2 o.1).bind λWb=>(cY p.2 p.1).bind λWl=>(Wr Wb Wl).map λs=>(s,p.2)
def uj{Wr:ak->ak->Option ak}(e:nS (av Wr WD Wx) x j D):
  nj WD x j λf VL=>nj Wx x VL λt V0=>∃Wb Wl s,e6 V0 Wb f/\e6 V0 Wl t/\Wr Wb Wl=Z s/\∀u Q VI,c8 V0 Q->cJ Q s u VI->VI.Nodup->(∀g∈VI,V0 g=Y)->D u Q:=by
 let⟨k,O,r,@VW,X,ah,a,p⟩:=e;unfold av at a;let⟨@⟨f,VK⟩,i,a⟩:=bM.mp a;let⟨@⟨t,Wf⟩,l,a⟩:=bM.mp a;let⟨@Wb,A,a⟩:=bM.mp a;let⟨@Wl,C,a⟩:=bM.mp a;let⟨@s,n,a⟩:=cv.mp a;cases a;refine two X ah i l λu J V0 V_ B b3 b V5 o h=>⟨Wb,Wl,_,V5.read b A,o.read b C,n,λy q VI d v w z=>?_⟩;rw[bz]at h;exact p y q V_ VI (b.mono d.tupS λg W m c=>d g m c) v (h.new d w z b.chg)
def l6{Wr:y_}(b:fm a (gn Wr) N)(c:dC a g WD)(f:dC a d Wx):cw a (.BinOp g Wr d VT) (av N WD Wx):=
 eC (PU b c f) λ_ W W e=>uj e
variable{Wr:l9}
def mF(b:fm a (ea Wr) N)(c:dC a g WD)(f:dC a d Wx)(h:qc Wr d=aq):cw a (.Compare g [Wr] [d] VT) (av N WD Wx):=
 eC (Mw b c f h) λ_ W W e=>uj e
def jt(b:ij a (λf t j D=>∃Wb Wl s,e6 j Wb f/\e6 j Wl t/\N Wb Wl=Z s/\∀u Q VI,c8 j Q->cJ Q s u VI->VI.Nodup->(∀g∈VI,j g=Y)->D u Q))(c:dC a g WD)(h:dC a d Wx)(VN:uh d):cw a (.Subscript g d VT) (av N WD Wx):=
 eC (K6 b c h VN) λ_ W W e=>uj e
@[simp] def mU:ak->Option Bool
 |.im (.aF d)=>Z d
 |_=>Y
@[simp] def bJ(L:aC ak):aC Bool:=λk=>(L k).bind λo=>(mU o.1).map λd=>(d,o.2)
def rk{d:Bool}(e:mU s=Z d):s=.im (.aF d):=by
 unfold mU at e;split at e
 ·cases e;rfl
 ·cases e
def ft(c:fm a (ea Wr) N)(e:dC a g WD)(f:dC a d Wx)(i:qc Wr d=aq):hS a (.Compare g [Wr] [d] VT) (bJ<|av N WD Wx):=by
 refine u0 (Sa c e f i) λx j D l=>?_;let⟨k,O,n,@VW,X,ah,m,p⟩:=l;refine uj ⟨k,O,.im<|.aF n,VW,X,ah,?_,λu Q Wc VI q b h=>⟨n,b.1,p Q Wc q (by rw[b.2,cj]at h;exact h)⟩⟩;let⟨@o,A,C⟩:=bM.mp m;let⟨@t,r,s⟩:=cv.mp C;cases s;rw[A,<-rk r]
@[simp] def gi(L:aC Bool):aC Bool:=λk=>(L k).map λo=>(!o.1,o.2)
variable{L:aC Bool}
def mh(e:hS a g L):hS a (.UnaryOp .Not g VT) (gi L):=by
 refine u0 (Pa e) λx j D b=>?_;let⟨k,O,n,@VW,X,ah,c,p⟩:=b;let⟨@o,A,C⟩:=cv.mp c;cases C;exact⟨k,O,o.1,_,X,ah,A,p⟩
@[simp] def e1(L e:aC Bool):aC Bool:=λk=>(L k).bind λo=>if o.1=V then e o.2 else Z (aq,o.2)
@[simp] def jY(L e:aC Bool):aC Bool:=λk=>(L k).bind λo=>if o.1=V then Z (V,o.2) else e o.2
variable{D:Bool->aA->Prop}{e:aC Bool}
def D7(y:j2 (e1 L e) x j D):Hd (j2 L) (j2 e) x j D:=by
 let⟨k,O,n,@VW,X,ah,c,p⟩:=y;let⟨@⟨d,VK⟩,A,C⟩:=bM.mp c;refine⟨k,O,d,VK,X,ah,A,λVL VY b a=>?_⟩;cases d with
 |true=>
  rw[aJ rfl];rw[aJ rfl]at C;exact⟨VK,VY,n,VW,b,a.ah,C,λV0 V_ g h=>p V0 V_ g (by
   have:=bk.trans (VI:=[]) (by rw[cj];exact a) h (λf i=>nomatch i)
   rwa [cj]at this)⟩
 |false=>
  rw[aP eu]at C ⊢;cases C;exact p VL VY b a
def JC(y:j2 (jY L e) x j D):GG (j2 L) (j2 e) x j D:=by
 let⟨k,O,n,@VW,X,ah,c,p⟩:=y;let⟨@⟨d,VK⟩,A,C⟩:=bM.mp c;refine⟨k,O,d,VK,X,ah,A,λVL VY b a=>?_⟩;cases d with
 |false=>
  rw[aP eu]at C ⊢;exact⟨VK,VY,n,VW,b,a.ah,C,λV0 V_ g h=>p V0 V_ g (by
   have:=bk.trans (VI:=[]) (by rw[cj];exact a) h (λf i=>nomatch i)
   rwa [cj]at this)⟩
 |true=>
  rw[aJ rfl]at C ⊢;cases C;exact p VL VY b a
def hZ(a:aK)(c:bt)(L:aC Bool):Prop:=(∀ ⦃o⦄,DB a c (j2 L) o)
def Gn{I:eE}(e:ke a c I)(b:∀x j D,We x j D->I x j D):ke a c We:=λd G h x j D l f=>e d G h x j D l (b x j D f)
def B9(e:hS a g L):hZ a (.BoolOp .And [g] VT) L:=UW e
def qo(e:hS a g L):hZ a (.BoolOp .Or [g] VT) L:=Sz e
def vJ(e:hS a g L)(b:hZ a (.BoolOp .And (d::r) VT) q):hZ a (.BoolOp .And (g::d::r) VT) (e1 L q):=Gn (SD e b) λ_ W W y=>D7 y
def pF(e:hS a g L)(b:hZ a (.BoolOp .Or (d::r) VT) q):hZ a (.BoolOp .Or (g::d::r) VT) (jY L q):=Gn (KG e b) λ_ W W y=>JC y
def hZ.nQ(e:hZ a c L):hS a c L:=ke.pt e
@[simp] def ho(L:aC Bool):aC ak:=λk=>(L k).map λo=>(.im<|.aF o.1,o.2)
def yY(e:cw a c (ho L)):bW a c λx j D=>j2 L x j λd Q=>D (.aF d) Q:=by
 refine eC e λx j D f=>?_;let⟨k,O,n,@VW,X,ah,g,p⟩:=f;refine⟨k,O,.im<|.aF n,VW,X,ah,by unfold ho;rw[g];rfl,λu Q Wc VI i b h=>?_⟩;rw[show u=.aF n from b.1];exact p Q Wc i (by rw[b.2,cj]at h;exact h)
def BI(e:bW a c λx j D=>j2 L x j λd Q=>D (.aF d) Q):cw a c (ho L):=by
 refine eC e λx j D b=>?_;let⟨k,O,r,@VW,X,ah,f,p⟩:=b;let⟨@o,A,C⟩:=cv.mp f;cases C;exact⟨k,O,o.1,_,X,ah,A,λQ Wc g h=>p _ Q Wc [] g ⟨rfl,rfl⟩ (by rw[cj];exact h)⟩
def hJ{L:aC ak}(e:cw a c L):cw a c (ho<|bJ L):=by
 refine eC e λx j D b=>?_;let⟨k,O,r,@VW,X,ah,d,p⟩:=b;let⟨@o,A,C⟩:=cv.mp d;let⟨@f,g,h⟩:=bM.mp A;let⟨@n,i,l⟩:=cv.mp h;cases l;cases C;exact⟨k,O,f.1,_,X,ah,g,by rw[rk i];exact p⟩
def U3(e:cw a g (ho L)):cw a (.UnaryOp .Not g VT) (ho<|gi L):=by
 refine BI (eC (PI<|yY e) λx j D b=>?_);let⟨k,O,n,@VW,X,ah,c,p⟩:=b;let⟨@o,A,C⟩:=cv.mp c;cases C;exact⟨k,O,o.1,_,X,ah,A,λQ Wc d h=>⟨_,rfl,p Q Wc d h⟩⟩
def sg{Wr}{L:aC ak}(e:cw a g L):cw a (.BoolOp Wr [g] VT) L:=TR e
def lR(e:cw a g (ho L))(b:cw a (.BoolOp .And (d::r) VT) (ho q)):cw a (.BoolOp .And (g::d::r) VT) (ho<|e1 L q):=by
 refine BI (eC (O3 (yY e)<|yY b) λx j D y=>?_);have:=D7 y;let⟨k,O,n,@VW,X,ah,c,p⟩:=this;exact⟨k,O,n,VW,X,ah,c,λQ Wc f h=>⟨n,rfl,p Q Wc f h⟩⟩
@[simp] def pk(n:aC Bool)(g d:aC ak):aC ak:=λk=>(n k).bind λo=>if o.1=V then g o.2 else d o.2
def bk.seq(g:bk j O VL VY)(d:bk VL VY V0 V_):bk j O V0 V_:=by
 have:=bk.trans (VI:=[]) (by rw[cj];exact g) d (λf a=>nomatch a)
 rwa [cj]at this
def Pz{WD Wx:aC ak}(i:hS a n WJ)(l:cw a g WD)(m:cw a d Wx):cw a (.IfExp n g d VT) (pk WJ WD Wx):=by
 refine eC (SU i l m) λx j D o=>?_;let⟨k,O,r,@VW,X,ah,q,p⟩:=o;let⟨@⟨I,VK⟩,A,C⟩:=bM.mp q;refine⟨k,O,I,VK,X,ah,A,λVL VY h b=>?_⟩;cases I with
 |true=>
  rw[aJ rfl]at C ⊢;exact⟨VK,VY,r,VW,h,b.ah,C,λu V0 V_ VI c e f=>p u V0 V_ VI c e<|b.seq f⟩
 |false=>
  rw[aP eu]at C ⊢;exact⟨VK,VY,r,VW,h,b.ah,C,λu V0 V_ VI c e f=>p u V0 V_ VI c e<|b.seq f⟩
end
def k2(j:aA)(x:a8):List bI->List ar->List ae->Prop
 |[],T,VI=>T=[]/\VI=[]
 |m::VV,T,VI=>∃u r a b3,T=u::r/\i4 j x m u a/\k2 j x VV r b3/\VI=a++b3
def hx(L:aC (List bI)):fp:=(λx j D=>∃k O r VW,bD j k x O/\O.Nodup/\L k=Z (r,VW)/\∀T Q Wc VI,bD Q VW x Wc->k2 Q x r T VI->bk j O Q (Wc++VI)->D T Q)
def fD(a:aK)(U:List bt)(L:aC (List bI)):Prop:=(∀ ⦃o⦄,IY a U (hx L) o)
def F4{I We:fp}(e:hA a U I)(b:∀x j D,We x j D->I x j D):hA a U We:=λVT G h x j D l c=>e VT G h x j D l (b x j D c)
def ay:aC (List bI):=(λk=>Z ([],k))
@[simp] def aj(L:aC bI)(e:aC (List bI)):aC (List bI):=λk=>(L k).bind λo=>(e o.2).map λp=>(o.1::p.1,p.2)
def bk.jK(h:bk j O Q P)(o:P.Perm V3):bk j O Q V3:=⟨h.keep,λg a=>h.sub g<|o.mem_iff.mpr a,(o.nodup_iff).mp h.ah,h.tup,h.grow⟩
def bk.less(h:bk j O Q P)(o:(V3++aG).Perm P):bk j O Q V3:=
 ⟨h.keep,λg a=>h.sub g<|o.mem_iff.mp<|eL _ a,(dt.mp<|(o.nodup_iff).mpr h.ah).1,h.tup,h.grow⟩
section
variable{a:aK}
def l2:fD a [] ay:=by
 refine F4 zD λx j D b=>?_;let⟨k,O,r,@VW,X,ah,c,p⟩:=b;cases c;exact p [] j O [] X ⟨rfl,rfl⟩ (by rw[cj];exact bk.perm ah (List.Perm.refl _))
def nr{L:aC bI}{e:aC (List bI)}(i:dC a c L)(l:fD a U e)(VN:bP (c::U) a.env=(aq,b_ c a.env)::bP U a.env:=by rfl):fD a (c::U) (aj L e):=by
 refine F4 (w0 i l VN) λx j D n=>?_;let⟨k,O,r,@VW,X,ah,o,p⟩:=n;let⟨@⟨f,VK⟩,A,C⟩:=bM.mp o;let⟨@⟨VR,Wf⟩,q,s⟩:=cv.mp C;cases s;refine⟨k,O,f,VK,X,ah,A,λu VL VY h t V5 b=>⟨VK,VY,VR,_,t,(dt.mp b.ah).1,q,λT V0 V_ b3 v w d=>?_⟩⟩;refine p (u::T) V0 V_ (h++b3) v ⟨u,T,h,b3,rfl,V5.mono d.tup λg y m c=>d.keep g m c λe=>?_,w,rfl⟩ ((b.trans d V5.chg).jK ?_)
 ·exact (dt.mp b.ah).2.2 g e g y rfl
 ·rw[bz];exact en _ dx
end
def ir(k:a5):List bI->Option (List ak)
 |[]=>Z []
 |m::VV=>(cY k m).bind λs=>(ir k VV).map λB=>s::B
def nM(j:aA):List ak->List ar->Prop
 |[],T=>T=[]
 |s::B,T=>∃u r,T=u::r/\e6 j s u/\nM j B r
theorem k2.read{j:aA}{k:a5}{x:a8}{O:List ae}(X:bD j k x O):∀{VV:List bI}{T:List ar}{VI:List ae}{B:List ak},k2 j x VV T VI->ir k VV=Z B->nM j B T
 |[],_,_,_,e,c=>by cases c;exact e.1
 |m::VV,_,_,_,e,c=>by
  let⟨u,r,g,@b3,rfl,A,C,rfl⟩:=e;let⟨@s,a,b⟩:=bM.mp c;let⟨@B,d,f⟩:=cv.mp b;cases f;exact⟨u,r,rfl,A.read X a,k2.read X C d⟩
def ek:List bI->a5->Option (List ak×a5)
 |[],k=>Z ([],k)
 |.cA s::VV,k=>(ek VV k).map λo=>(s::o.1,o.2)
 |.a6 b::VV,k=>(fB b k).bind λo=>(ek VV o.2).map λp=>(o.1::p.1,p.2)
def IB{b:Nat}(X:bD j k x O)(e:fB b k=Z (s,VW)):∃u VY VI,x[b]?=Z (Z u)/\cJ j s u VI/\bD j VW x VY/\(VY++VI).Perm O:=by
 unfold fB at e;split at e
 ·rename_i c hd;split at e
  ·rename_i a;cases e;let⟨@u,A,C⟩:=X.dH hd a;exact⟨u,O,[],A,C,X,by rw[cj]⟩
  ·cases e;let⟨u,VY,@V_,A,C,d,f⟩:=X.out hd;exact⟨u,V_,VY,A,C,d,f⟩
 ·cases e
def lK:(P++(V3++aG)).Perm (V3++(P++aG)):=by
 rw[<-bz,<-bz];exact fw _ dx
theorem lV{j:aA}{x:a8}:∀{VV:List bI}{T:List ar}{VI O:List ae}{k VW:a5}{B:List ak},bD j k x O->k2 j x VV T VI->ek VV k=Z (B,VW)->∃VY a,bD j VW x VY/\ey j B T a/\(VY++a).Perm (O++VI)
 |[],_,_,O,_,_,_,X,e,c=>by
  cases c;exact⟨O,[],X,⟨e.1,rfl⟩,by rw[e.2]⟩
 |.cA s::VV,_,_,O,k,_,_,X,e,c=>by
  let⟨u,r,a,@b3,rfl,A,C,rfl⟩:=e;rw[ek]at c;let⟨@o,g,h⟩:=cv.mp c;cases h;let⟨VY,@d,f,i,l⟩:=lV (VW:=o.2) (B:=o.1) X C g;exact⟨VY,a++d,f,⟨u,r,a,d,rfl,A,i,rfl⟩,lK.trans<|(en _ l).trans lK⟩
 |.a6 b::VV,_,_,O,k,_,_,X,e,c=>by
  let⟨u,r,a,@b3,rfl,@⟨A,rfl⟩,C,rfl⟩:=e;rw[ek]at c;let⟨@⟨s,VK⟩,n,p⟩:=bM.mp c;let⟨@o,g,h⟩:=cv.mp p;cases h;let⟨v,VY,@d,f,i,l,q⟩:=IB X n;rw[A]at f;cases f;let⟨V_,@m,V8,Wd,t⟩:=lV (VW:=o.2) (B:=o.1) l C g;refine⟨V_,d++m,V8,⟨u,r,d,m,rfl,i,Wd,rfl⟩,lK.trans<|(en _ t).trans ?_⟩;rw[<-bz];exact fw _ (dx.trans q)
@[simp] def gV:List bI->List ak->a5->a5
 |.a6 b::VV,s::B,k=>gV VV B (match k[b]? with|some (Z .dS)=>k.set b (Z s)|_=>k)
 |.cA _::VV,_::B,k=>gV VV B k
 |_,_,k=>k
theorem uv{j W8:aA}{x:a8}:∀{VV:List bI}{B:List ak}{T:List ar}{VI O VU:List ae}{k:a5},bD j k x O->k2 W8 x VV T VU->ey j B T VI->∃VY a,bD j (gV VV B k) x VY/\(VY++a).Perm (O++VI)
 |[],B,_,VI,O,_,k,X,_,_=>⟨O,VI,by unfold gV;exact X,List.Perm.refl _⟩
 |.cA _::VV,[],_,VI,O,_,k,X,_,_=>⟨O,VI,by unfold gV;exact X,List.Perm.refl _⟩
 |.a6 _::VV,[],_,VI,O,_,k,X,_,_=>⟨O,VI,by unfold gV;exact X,List.Perm.refl _⟩
 |.cA _::VV,s::B,_,VI,O,_,k,X,e,y=>by
  let⟨u,r,h,@i,rfl,A,C,rfl⟩:=e;let⟨l,Wz,a,@b3,c,dD,du,rfl⟩:=y;cases c;let⟨VY,@d,f,g⟩:=uv (k:=k) X C du;refine⟨VY,a++d,by rw[gV];exact f,lK.trans<|(en _ g).trans lK⟩
 |.a6 b::VV,s::B,_,VI,O,_,k,X,e,y=>by
  let⟨u,r,h,@i,rfl,@⟨A,W⟩,C,rfl⟩:=e;let⟨l,Wz,a,@b3,c,dD,du,rfl⟩:=y;cases c;rw[gV];split
  ·let⟨VY,@S,f,g⟩:=X.back dD A;let⟨V_,@d,V8,Wd⟩:=uv f C du;refine⟨V_,d++S,V8,?_⟩;rw[<-bz,<-bz];refine (fw _ Wd).trans ?_;rw[bz];refine (en _ dx).trans ?_;rw[<-bz];exact fw _ g
  ·let⟨VY,@d,f,g⟩:=uv X C du;exact⟨VY,a++d,f,lK.trans<|(en _ g).trans lK⟩
def hF:List ak->Option (List ab)
 |[]=>Z []
 |.im s::B=>(hF B).map λr=>s::r
 |_::_=>Y
@[simp] def rt(B:List ak):ak:=match hF B with
 |some is=>.im (.tup is)
 |none=>.qg B
@[simp] def r_(B:List ak):ak:=match hF B with
 |some is=>.lst is
 |none=>.hs B
theorem zq{j:aA}:∀{B:List ak}{T:List ar}{VI:List ae}{is:List ab},ey j B T VI->hF B=Z is->bN j is T/\VI=[]
 |[],_,_,_,e,c=>by cases c;exact e
 |.im s::B,_,_,_,e,c=>by
  let⟨u,r,f,@b3,rfl,@⟨A,rfl⟩,C,rfl⟩:=e;rw[hF]at c;let⟨@o,a,b⟩:=cv.mp c;cases b;let@⟨d,rfl⟩:=zq C a;exact⟨⟨u,r,rfl,A,d⟩,rfl⟩
 |.dS::_,_,_,_,_,c=>by rw[hF]at c;cases c;all_goals (intro W i;cases i)
 |.dE _::_,_,_,_,_,c=>by rw[hF]at c;cases c;all_goals (intro W i;cases i)
 |.lst _::_,_,_,_,_,c=>by rw[hF]at c;cases c;all_goals (intro W i;cases i)
 |.dR _::_,_,_,_,_,c=>by rw[hF]at c;cases c;all_goals (intro W i;cases i)
 |.aR _::_,_,_,_,_,c=>by rw[hF]at c;cases c;all_goals (intro W i;cases i)
 |.hs _::_,_,_,_,_,c=>by rw[hF]at c;cases c;all_goals (intro W i;cases i)
 |.qg _::_,_,_,_,_,c=>by rw[hF]at c;cases c;all_goals (intro W i;cases i)
 |.ou _::_,_,_,_,_,c=>by rw[hF]at c;cases c;all_goals (intro W i;cases i)
 |.dL _::_,_,_,_,_,c=>by rw[hF]at c;cases c;all_goals (intro W i;cases i)
@[simp] def c0(L:aC (List bI)):aC ak:=λk=>(L k).bind λo=>(ek o.1 o.2).bind λp=>if p.1.length<=100000 then Z (rt p.1,p.2) else Y
@[simp] def eI(L:aC (List bI)):aC ak:=λk=>(L k).bind λo=>(ek o.1 o.2).bind λp=>if p.1.length<=100000 then Z (r_ p.1,p.2) else Y
def UI{B:List ak}{o:ae}(h:c8 j Q)(e:ey j B T VI)(c:Q o=Z (.tup T)):∃l,cJ Q (rt B) (.ref o) l/\l=VI:=by
 unfold rt;split
 ·rename_i is VF;let@⟨a,rfl⟩:=zq e VF;exact⟨[],⟨⟨o,T,rfl,c,a.mono h.tupS.tup⟩,rfl⟩,rfl⟩
 ·exact⟨VI,⟨o,T,rfl,c,e.mono h.tupS λg W m p=>h g m p⟩,rfl⟩
def JR{B:List ak}{o:ae}(h:c8 j Q)(e:ey j B T VI)(c:Q o=Z (.lst T)):cJ Q (r_ B) (.ref o) (o::VI):=by
 unfold r_;split
 ·rename_i is VF;let@⟨a,rfl⟩:=zq e VF;exact⟨o,T,rfl,c,a.mono h.tupS.tup,rfl⟩
 ·exact⟨o,T,VI,rfl,c,e.mono h.tupS λg W m p=>h g m p,rfl⟩
def ni(e:w<=100000):w<=sizeLine:=fv e ∅
def bk.add{j VL:aA}{O P:List ae}{o:ae}{m:gm}(g:bk j O VL P)(a:VL o=Y)(n:∀f∈P,fW VL f):bk j O (upd VL o m) (P++[o]):=by
 have h:c8 VL (upd VL o m):=(c8.refl VL).upd a;have:=bk.new (VI:=[]) (l:=[o]) (by rw[cj];exact g) h (fN _ _) (λf b=>by rw[cH.mp b];exact a) n;exact this
def bk.same(g:bk j O VL P)(h:c8 VL V0):bk j O V0 P:=
 ⟨λf m c a=>h _ _<|g.keep f m c a,g.sub,g.ah,g.tup.trans h.tupS,λf m c=>let ⟨Wj,b⟩:=g.grow f m c;⟨Wj,h _ _ b⟩⟩
section
variable{a:aK}
def jo{f}(e:fD a U L):cw a (.Tuple U f VT) (c0 L):=by
 refine eC (Oj e) λx j D i=>?_;let⟨k,O,r,@VW,X,ah,n,p⟩:=i;let⟨@⟨VV,VK⟩,A,C⟩:=bM.mp n;let⟨@⟨B,Wf⟩,q,b⟩:=bM.mp C;refine⟨k,O,VV,VK,X,ah,A,λT VL VY E s V5 t=>?_⟩;let⟨V_,@b3,u,d,Wa⟩:=lV s V5 q;split at b
 ·rename_i v;cases b;have w:T.length<=100000:=by rw[<-d.length];exact v
  refine⟨ni w,λo y=>?_⟩;have h:c8 VL (upd VL o<|.tup T):=(c8.refl VL).upd y;let⟨@l,z,rfl⟩:=UI h d eW;exact p _ _ V_ l (u.mono h.tupS λg W m c=>h g m c) z ((t.jK Wa.symm).same h)
 ·cases b
def hc(e:fD a U L):cw a (.List U VT) (eI L):=by
 refine eC (RJ e) λx j D q=>?_;let⟨k,O,r,@VW,X,ah,s,p⟩:=q;let⟨@⟨VV,VK⟩,A,C⟩:=bM.mp s;let⟨@⟨B,Wf⟩,t,d⟩:=bM.mp C;refine⟨k,O,VV,VK,X,ah,A,λT VL VY E u V5 v=>?_⟩;let⟨V_,@b3,l,i,Wa⟩:=lV u V5 t;split at d
 ·rename_i w;cases d;have y:T.length<=100000:=by rw[<-i.length];exact w
  refine⟨ni y,λo n=>?_⟩;have h:c8 VL (upd VL o<|.lst T):=(c8.refl VL).upd n;have z:=JR h i (o:=o) eW;refine p _ _ V_ (o::b3) (l.mono h.tupS λg W m c=>h g m c) z (((v.jK Wa.symm).add n λf b=>?_).jK ?_)
  ·rcases dy.mp b with b|b
   ·exact l.chg f b
   ·exact i.chg f b
  ·rw[bz];exact en _ dx
 ·cases d
def g5(a:aK)(N:af)(Wr:List ak->Option ak):Prop:=(
 eY a N λz j D=>∃B s,nM j B z/\Wr B=Z s/\∀u Q VI,c8 j Q->cJ Q s u VI->VI.Nodup->(∀g∈VI,j g=Y)->D u Q)
@[simp] def bV(Wr:List ak->Option ak)(L:aC (List bI)):aC ak:=λk=>(L k).bind λo=>(ir o.2 o.1).bind λB=>(Wr B).map λs=>(s,o.2)
def G8(e:nS (bV Wr L) x j D):
  hx L x j λz VL=>∃B s,nM VL B z/\Wr B=Z s/\∀u Q VI,c8 VL Q->cJ Q s u VI->VI.Nodup->(∀g∈VI,VL g=Y)->D u Q:=by
 let⟨k,O,r,@VW,X,ah,d,p⟩:=e;let⟨@⟨VV,VK⟩,A,C⟩:=bM.mp d;let⟨@B,f,h⟩:=bM.mp C;let⟨@s,i,l⟩:=cv.mp h;cases l;refine⟨k,O,VV,VK,X,ah,A,λT VL VY v a V5 n=>⟨B,_,V5.read a f,i,λu V0 VI b o q t=>?_⟩⟩;exact p u V0 VY VI (a.mono b.tupS λg W m c=>b g m c) o (n.new b q t a.chg)
def NI{id:String}(b:g5 a (.builtin id) Wr)(d:eG a f)(g:a.aB f=Y)(h:fR f=Z (.builtin id))(i:fD a (c::U) L)(j:f ≠ "__name__" := by decide)(k:(f==("__debug__" : aD))=aq:=by decide)(l:bP (c::U) a.env=(aq,b_ c a.env)::bP U a.env:=by rfl)(m:(fE VT<|bP U a.env).any (·.1)=aq:=by rfl):
  cw a (.Call (.Name f o) (c::U) [] VT) (bV Wr L):=eC (Ca b d g h i j k l m) λ_ W W e=>G8 e
def i6{F:String}(b:g5 a (.type F) Wr)(d:eG a f)(g:a.aB f=Y)(h:fR f=Z (.type F))(i:fD a (c::U) L)(j:f ≠ "__name__" := by decide)(k:(f==("__debug__" : aD))=aq:=by decide)(l:bP (c::U) a.env=(aq,b_ c a.env)::bP U a.env:=by rfl)(m:(fE VT<|bP U a.env).any (·.1)=aq:=by rfl):
  cw a (.Call (.Name f o) (c::U) [] VT) (bV Wr L):=eC (KP b d g h i j k l m) λ_ W W e=>G8 e
abbrev cU:=List ak->Option (ak×List ak)
def kj(w:Nat)(S:cU):kf:=(λT j D W=>T.length=w/\∃B O r i,ey j B T O/\O.Nodup/\S B=Z (r,i)/\∀u Q VI l,cJ Q r u VI->ey Q i T l->bk j O Q (VI++l)->D u Q)
@[simp] def bf(w:Nat)(S:cU)(L:aC (List bI)):aC ak:=λk=>(L k).bind λo=>if o.1.length=w then (ek o.1 o.2).bind λp=>(S p.1).map λr=>(r.1,gV o.1 r.2 p.2) else Y
theorem k2.length{j:aA}{x:a8}:∀{VV:List bI}{T:List ar}{VI:List ae},k2 j x VV T VI->VV.length=T.length
 |[],_,_,e=>by rw[e.1];rfl
 |m::VV,_,_,e=>by
  let⟨u,r,a,@b3,rfl,A,C,rfl⟩:=e;rw[dV,dV,k2.length C]
def EJ{S:cU}{VD:fV}(e:nS (bf w S L) x j D):zW (kj w S) [] VD (hx L) x j D:=by
 let⟨k,O,r,@VW,X,ah,n,p⟩:=e;let⟨@⟨VV,VK⟩,A,C⟩:=bM.mp n;split at C
 ·rename_i o;let⟨@⟨B,Wf⟩,q,s⟩:=bM.mp C;let⟨@⟨Wz,i⟩,t,v⟩:=cv.mp s;cases v;refine⟨k,O,VV,VK,X,ah,A,λT VL VY Q y V5 z=>?_⟩;let⟨V_,b3,f,E,Wa⟩:=lV y V5 q;have a:=z.jK (Wa.symm.trans dx);rw[cj];refine⟨by rw[<-V5.length];exact o,B,b3,_,i,E,(dt.mp a.ah).1,t,λu h VI l dD du b=>?_⟩;have F:=a.trans b f.chg;have G:∀g∈V_,g∉b3:=λg d H=>(dt.mp a.ah).2.2 g H g d rfl;have I:bD h Wf x V_:=f.mono b.tup λg d m c=>b.keep g m c (G g d);let⟨J,@M,N,P⟩:=uv I V5 du;refine p u h J VI N dD (F.less (aG:=M) ?_);refine List.Perm.trans ?_ dx;rw[bz];refine (en _ dx).trans ?_;rw[<-bz];refine (fw _ P).trans ?_;rw[bz];exact en _ dx
 ·cases C
variable{q:Nat}
def UT{S:cU}{N:ae}(O:hg a.prog a.w a.K a.aB a.base ik q N fd VQ (kj w S))(b:ep q a.A)(d:eG a f)(g:a.aB f=Z (.ref N))(h:Θ a.K (.ref N)=V)(i:iG a.K fd VQ [])(j:fD a (c::U) L)(k:(f==("__debug__" : aD))=aq:=by decide)(l:bP (c::U) a.env=(aq,b_ c a.env)::bP U a.env:=by rfl)(m:(fE VT<|bP U a.env).any (·.1)=aq:=by rfl):
  cw a (.Call (.Name f o) (c::U) [] VT) (bf w S L):=eC (RD O b d g h i .nil D2 j k l m) λ_ T T e=>EJ e
inductive n0 where
 | aI|cB (s:ak)|dO|cI
abbrev bo:=a5->Option (n0×a5)
def c_(V4:List Nat)(x a:a8):Prop:=(a.length=x.length/\∀b∈V4,a[b]?=x[b]?)
def c_.refl:c_ V4 x x:=⟨rfl,λ_ W=>rfl⟩
def c_.trans{a:a8}(g:c_ V4 x W4)(d:c_ V4 W4 a):c_ V4 x a:=⟨d.1.trans g.1,λb VF=>(d.2 b VF).trans<|g.2 b VF⟩
def c_.set{u:Option ar}(e:v∉V4):c_ V4 x (x.set v u):=⟨w3,λb VF=>oR λc=>e (by rw[c];exact VF)⟩
def sR(V4:List Nat)(VD:kM)(x:a8)(j:aA)(O:List ae)(VW:a5):n0->Prop
 |.aI=>∀a Q Wc,c_ V4 x a->bD Q VW a Wc->bk j O Q Wc->VD.aI a Q
 |.dO=>∀a Q Wc,c_ V4 x a->bD Q VW a Wc->bk j O Q Wc->VD.dO a Q
 |.cI=>∀a Q Wc,c_ V4 x a->bD Q VW a Wc->bk j O Q Wc->VD.cI a Q
 |.cB s=>∀u a Q Wc VI,c_ V4 x a->bD Q VW a Wc->cJ Q s u VI->bk j O Q (Wc++VI)->VD.cB u Q
def oX(V4:List Nat)(L:bo):eQ:=(λVD x j=>∃k O a3 VW,bD j k x O/\O.Nodup/\L k=Z (a3,VW)/\sR V4 VD x j O VW a3)
def gH(a:aK)(V4:List Nat)(X:bC)(L:bo):Prop:=(∀ ⦃o⦄,Iv a X (oX V4 L) o)
def hR(a:aK)(V4:List Nat)(c1:List bC)(L:bo):Prop:=(∀ ⦃o⦄,FT a c1 (oX V4 L) o)
variable{We:eQ}
def kb{X:bC}{I:eQ}(e:ht a X I)(b:∀VD x j,We VD x j->I VD x j):ht a X We:=λG h x j k l c=>e G h x j k l (b k x j c)
def oJ{X:List bC}{I:eQ}(e:gD a X I)(b:∀VD x j,We VD x j->I VD x j):gD a X We:=λG h x j k l c=>e G h x j k l (b k x j c)
def sR.on{a3:n0}(e:sR V4 VD x j O VW a3)(Ww:c_ V4 x W4)(h:bk j O VL VY):sR V4 VD W4 VL VY VW a3:=by
 cases a3 with
 |aI=>exact λa Q Wc N X VE=>e a Q Wc (Ww.trans N) X (h.seq VE)
 |dO=>exact λa Q Wc N X VE=>e a Q Wc (Ww.trans N) X (h.seq VE)
 |cI=>exact λa Q Wc N X VE=>e a Q Wc (Ww.trans N) X (h.seq VE)
 |cB s=>exact λu a Q Wc VI N X b VE=>e u a Q Wc VI (Ww.trans N) X b (h.seq VE)
def fa:bo:=(λk=>Z (.aI,k))
@[simp] def bL(L e:bo):bo:=λk=>(L k).bind λo=>match o.1 with
 |.aI=>e o.2
 |a3=>Z (a3,o.2)
def gK:hR a V4 [] fa:=by
 refine oJ OD λVD x j b=>?_;let⟨k,O,a3,@VW,X,ah,c,p⟩:=b;cases c;exact p x j O c_.refl X (bk.perm ah<|List.Perm.refl _)
variable{L:bo}
def b8{X:bC}(e:gH a V4 X L):hR a V4 [X] L:=S8 e
def Ls{e:bo}(y:oX V4 (bL L e) VD x j):Bb (oX V4 L) (oX V4 e) VD x j:=by
 let⟨k,O,a3,@VW,X,ah,a,p⟩:=y;let⟨@⟨b,VK⟩,A,C⟩:=bM.mp a;cases b with
 |aI=>exact⟨k,O,.aI,VK,X,ah,A,λd Q Wc Ww c h=>⟨VK,Wc,a3,VW,c,h.ah,C,p.on Ww h⟩⟩
 |dO=>cases C;exact⟨k,O,.dO,VK,X,ah,A,p⟩
 |cI=>cases C;exact⟨k,O,.cI,VK,X,ah,A,p⟩
 |cB s=>cases C;exact⟨k,O,.cB s,VK,X,ah,A,p⟩
def b1{X:bC}{c1:List bC}{e:bo}(A:gH a V4 X L)(C:hR a V4 c1 e):hR a V4 (X::c1) (bL L e):=oJ (td A C) λ_ W W y=>Ls y
def Hm:bo:=(λ_=>Y)
def TO{X:bC}:gH a V4 X Hm:=kb OH λ_ _ _ ⟨_,_,_,_,_,_,e,_⟩=>by cases e
@[simp] def hn(L:aC ak):bo:=λk=>(L k).map λo=>(.aI,o.2)
variable{L:aC ak}
def kV(e:cw a c L)(VN:mz c Y VT.line a.env=pure aq:=by rfl):gH a V4 (.Expr c VT) (hn L):=by
 refine kb (T4 e VN) λVD x j b=>?_;let⟨k,O,a3,@VW,X,ah,d,p⟩:=b;let⟨@⟨r,VK⟩,A,C⟩:=cv.mp d;cases C;exact⟨k,O,r,_,X,ah,A,λu Q Wc VI f g h=>p x Q Wc c_.refl f<|h.less<|List.Perm.refl _⟩
@[simp] def cG(L:aC ak):bo:=λk=>(L k).map λo=>(.cB o.1,o.2)
def c7(e:cw a c L):gH a V4 (.Return (Z c) VT) (cG L):=by
 refine kb (LZ e) λVD x j b=>?_;let⟨k,O,a3,@VW,X,ah,d,p⟩:=b;let⟨@⟨r,VK⟩,A,C⟩:=cv.mp d;cases C;exact⟨k,O,r,_,X,ah,A,λu Q Wc VI f g h=>p u x Q Wc VI c_.refl f g h⟩
@[simp] def ee(n:aC Bool)(g d:bo):bo:=λk=>(n k).bind λo=>if o.1=V then g o.2 else d o.2
variable{Wx:bo}
def gL{g d:List bC}{WD:bo}(e:hS a n WJ)(f:hR a V4 g WD)(h:hR a V4 d Wx):gH a V4 (.If n g d VT) (ee WJ WD Wx):=by
 refine kb (Eg e f h) λVD x j i=>?_;let⟨k,O,a3,@VW,X,ah,l,p⟩:=i;let⟨@⟨I,VK⟩,A,C⟩:=bM.mp l;refine⟨k,O,I,VK,X,ah,A,λVL VY c b=>?_⟩;cases I with
 |true=>
  rw[aJ rfl]at C ⊢;exact⟨VK,VY,a3,VW,c,b.ah,C,p.on c_.refl b⟩
 |false=>
  rw[aP eu]at C ⊢;exact⟨VK,VY,a3,VW,c,b.ah,C,p.on c_.refl b⟩
@[simp] def cn(b:Nat)(L:aC ak):bo:=λk=>(L k).bind λo=>if b<o.2.length then Z (.aI,o.2.set b<|Z o.1) else Y
variable{b:Nat}
def sj{WW:Pos}(d:a.N.Nodup)(VF:a.N[b]?=Z f)(e:i_ a.env.scope f)(g:cw a c L)(h:b∉V4)(VN:mz c (Z<|.Name f WW) VT.line a.env=pure aq:=by rfl)(i:a.fn f=V\/a.env.scope.names.lookup f=Z .local:=by first|exact .inl rfl|exact .inr rfl|assumption):gH a V4 (.Assign [.Name f WW] c VT) (cn b L):=by
 refine kb (FF d VF e g VN i) λVD x j l=>?_;let⟨k,O,a3,@VW,X,ah,m,p⟩:=l;let⟨@⟨r,VK⟩,A,C⟩:=bM.mp m;split at C
 ·rename_i n;cases C;refine⟨k,O,r,_,X,ah,A,λu VL VY VI o q s=>?_⟩;let⟨V_,@b3,t,Wa⟩:=o.put (b:=b) q n;exact p _ VL V_ (c_.set h) t (s.less Wa)
 ·cases C
abbrev fs:=ak->a5->Option a5
def xE(V4:List Nat)(L:fs):g6:=(λu x j D=>∃k O s VI VW,bD j k x O/\cJ j s u VI/\(O++VI).Nodup/\L s k=Z VW/\∀a Q Wc,c_ V4 x a->bD Q VW a Wc->bk j (O++VI) Q Wc->D a Q)
def h6(a:aK)(V4:List Nat)(c:bt)(L:fs):Prop:=(∀ ⦃o⦄,Gx a c (xE V4 L) o)
def A2{I We:g6}(e:ks a c I)(b:∀u x j D,We u x j D->I u x j D):ks a c We:=λG h x j f u D l r d=>e G h x j f u D l r (b f x j D d)
@[simp] def br(b:Nat):fs:=λs k=>if b<k.length then Z (k.set b<|Z s) else Y
def oc(d:a.N.Nodup)(VF:a.N[b]?=Z f)(e:i_ a.env.scope f)(g:b∉V4)(h:a.fn f=V\/a.env.scope.names.lookup f=Z .local:=by first|exact .inl rfl|exact .inr rfl|assumption):h6 a V4 (.Name f VT) (br b):=by
 refine A2 (Km d VF e h) λu x j D i=>?_;let⟨k,O,s,VI,@VW,X,l,ah,c,p⟩:=i;unfold br at c;split at c
 ·rename_i m;cases c;let⟨V_,@b3,n,Wa⟩:=X.put (b:=b) l m;exact p _ j V_ (c_.set g) n ((bk.perm ah<|List.Perm.refl _).less Wa)
 ·cases c
def MM(V4:List Nat)(L:List ak->a5->Option a5):k1:=(λT x j D=>∃k O B VI VW,bD j k x O/\ey j B T VI/\(O++VI).Nodup/\L B k=Z VW/\∀a Q Wc,c_ V4 x a->bD Q VW a Wc->bk j (O++VI) Q Wc->D a Q)
def vC(a:aK)(V4:List Nat)(U:List bt)(L:List ak->a5->Option a5):Prop:=(∀ ⦃o⦄,HG a U (MM V4 L) o)
@[simp] def fj:List ak->a5->Option a5
 |[],k=>Z k
 |_,_=>Y
@[simp] def c3(L:fs)(e:List ak->a5->Option a5):List ak->a5->Option a5
 |s::B,k=>(L s k).bind (e B)
 |_,_=>Y
def By{I We:k1}(e:p5 a U I)(b:∀u x j D,We u x j D->I u x j D):p5 a U We:=λG h x j z T D l r c=>e G h x j z T D l r (b z x j D c)
def Np:vC a V4 [] fj:=by
 refine By LM λT x j D c=>?_;let⟨k,O,B,VI,@VW,X,d,ah,b,p⟩:=c;cases B with
 |cons s B=>cases b
 |nil=>
  cases b;exact⟨d.1,p x j O c_.refl X<|(bk.perm ah<|List.Perm.refl _).less<|List.Perm.refl _⟩
def C0{L:fs}(A:h6 a V4 c L)(C:vC a V4 U e)(VN:(hr (c::U) a.env).map (·.2)=jd c a.env::(hr U a.env).map (·.2):=by rfl):vC a V4 (c::U) (c3 L e):=by
 refine By (Uy A C VN) λT x j D t=>?_;let⟨k,O,B,VI,@VW,X,v,ah,n,p⟩:=t;cases B with
 |nil=>cases n
 |cons s B=>
  let⟨u,r,h,@b3,rfl,dD,du,rfl⟩:=v;let⟨@VK,w,y⟩:=bM.mp (show (L s k).bind (e B)=Z VW from n);have l:((O++h)++b3).Nodup:=by rw[bz];exact ah
  refine⟨u,r,rfl,k,O,s,h,VK,X,dD,(dt.mp l).1,w,λW4 VL VY Ww z f=>?_⟩;have o:∀g∈b3,g∉O++h:=λg b i=>(dt.mp l).2.2 g i g b rfl;have E:ey VL B r b3:=du.mono f.tup λg b m c=>f.keep g m c (o g b);have q:bk j (O++(h++b3)) VL (VY++b3):=by
   refine⟨λg m c b=>f.keep g m c λe=>b ?_,λg b=>?_,dt.mpr ⟨f.ah,(dt.mp l).2.1,λg b d i c=>?_⟩,f.tup,f.grow⟩
   ·rw[<-bz];exact eL _ e
   ·rcases dy.mp b with b|b
    ·rcases f.sub g b with e|e
     ·left;rw[<-bz];exact eL _ e
     ·exact .inr e
    ·left;rw[<-bz];exact ez _ b
   ·subst c;rcases f.sub g b with e|e
    ·exact o g i e
    ·let⟨@m,c,W⟩:=du.chg g i;rw[c]at e;cases e
  exact⟨VK,VY,B,b3,VW,z,E,q.ah,y,λF V0 V_ G H I=>p F V0 V_ (Ww.trans G) H<|q.seq I⟩
@[simp] def e_(w:Nat)(e:List ak->a5->Option a5):fs:=λs k=>match s with
 |.im (.tup is)=>if is.length=w then e (is.map .im) k else Y
 |.qg B=>if B.length=w then e B k else Y
 |_=>Y
theorem DH{j:aA}:∀{is:List ab}{T:List ar},bN j is T->ey j (is.map .im) T []
 |[],T,e=>⟨e,rfl⟩
 |s::is,T,e=>by
  let⟨u,@r,rfl,A,C⟩:=e;exact⟨u,r,[],[],rfl,⟨A,rfl⟩,DH C,rfl⟩
def Lq(f:a.calm=V)(VN:vC a V4 U e)(h:(hr U a.env).length=w:=by rfl)(i:(hr U a.env).findIdx? (·.1)=Y:=by rfl):h6 a V4 (.Tuple U q VT) (e_ w e):=by
 refine A2 (Ud f VN h i) λu x j D l=>?_;let⟨k,O,s,VI,@VW,X,d,ah,b,p⟩:=l;unfold e_ at b;split at b
 ·rename_i is;split at b
  ·rename_i c;let@⟨⟨g,@z,rfl,A,C⟩,rfl⟩:=d;exact⟨g,z,rfl,cu.of A,by rw[<-C.length];exact c,k,O,_,[],VW,X,DH C,ah,b,p⟩
  ·cases b
 ·rename_i B;split at b
  ·rename_i c;let⟨g,@z,rfl,A,C⟩:=d;exact⟨g,z,rfl,cu.of A,by rw[<-C.length];exact c,k,O,_,VI,VW,X,C,ah,b,p⟩
  ·cases b
 ·cases b
@[simp] def fP(L:aC ak)(e:fs):bo:=λk=>(L k).bind λo=>(e o.1 o.2).map λVW=>(.aI,VW)
def jw{e:fs}(d:cw a c L)(f:h6 a V4 Wh e)(VN:uH [Wh] c VT.line a.env=pure aq:=by rfl)(g:vu [Wh] c a.env=pure Y:=by rfl)(A:(hr [Wh] a.env).map (·.2)=[jd Wh a.env]:=by rfl):gH a V4 (.Assign [Wh] c VT) (fP L e):=by
 refine kb (JP d f VN g A) λVD x j h=>?_;let⟨k,O,a3,@VW,X,ah,i,p⟩:=h;let⟨@⟨r,VK⟩,g1,g2⟩:=bM.mp i;let⟨@Wf,l,m⟩:=cv.mp g2;cases m;exact⟨k,O,r,VK,X,ah,g1,λu VL VY VI n o b=>⟨VK,VY,r,VI,_,n,o,b.ah,l,λq Q Wc Ww s t=>p q Q Wc Ww s<|b.seq t⟩⟩
@[simp] def p0(b v:Nat)(L:aC (List bI)):bo:=λk=>(L k).bind λo=>(ek o.1 o.2).bind λp=>match p.1 with
 |[Wb,Wl]=>if b<p.2.length/\v<p.2.length then Z (.aI,(p.2.set b<|Z Wb).set v<|Z Wl) else Y
 |_=>Y
def GJ{t:aD}{L:aC (List bI)}{jH h pt VT:Pos}{Wy Wd i}(n:a.calm=V)(o:a.N.Nodup)(VF:a.N[b]?=Z f)(q:a.N[v]?=Z t)(s:b≠v)(w:a.env.scope.names.lookup f=Z .local)(y:a.env.scope.names.lookup t=Z .local)(z:fD a [g,d] L)(D:b∉V4)(E:v∉V4)(F:vu [.Tuple [.Name f jH,.Name t h] Wy pt] (.Tuple [g,d] Wd i) a.env=pure (Z [f,t]))(VN:uH [.Tuple [.Name f jH,.Name t h] Wy pt] (.Tuple [g,d] Wd i) VT.line a.env=pure aq:=by rfl):
  gH a V4 (.Assign [.Tuple [.Name f jH,.Name t h] Wy pt] (.Tuple [g,d] Wd i) VT) (p0 b v L):=by
 refine kb (LD n o VF q s w y z F VN) λVD x j G=>?_;let⟨k,O,a3,@VW,X,ah,H,p⟩:=G;let⟨@⟨VV,VK⟩,A,C⟩:=bM.mp H;let⟨@⟨B,Wf⟩,I,e⟩:=bM.mp C;refine⟨k,O,VV,VK,X,ah,A,λT VL VY a2 M V5 Q=>?_⟩;let⟨V_,@b3,R,S,Wa⟩:=lV M V5 I;dsimp only at e;split at e
 ·rename_i Wb Wl c;split at e
  ·rename_i l;cases e;let⟨u,r,P,@V3,rfl,dD,du,rfl⟩:=S;let⟨J,Wz,bd,@be,rfl,fA,@⟨rfl,rfl⟩,rfl⟩:=du;let⟨U,@m,al,am⟩:=R.put (b:=b) dD l.1;let⟨an,@ap,as,a1⟩:=al.put (b:=v) fA (by rw[w3];exact l.2);refine⟨u,J,rfl,p _ VL an ((c_.set D).trans<|c_.set E) as<|(Q.jK Wa.symm).less (aG:=ap++m) ?_⟩;rw[<-bz,cj,<-bz];refine (fw m a1).trans ?_;rw[bz];refine (en U dx).trans ?_;rw[<-bz];exact fw _ am
  ·cases e
 ·cases e
def j_(n:aC Bool)(d:bo):Nat->bo
 |0=>λ_=>Y
 |w+1=>λk=>(n k).bind λo=>if o.1=V then (d o.2).bind λp=>match p.1 with
  |.aI=>j_ n d w p.2
  |.cI=>j_ n d w p.2
  |.dO=>Z (.aI,p.2)
  |.cB s=>Z (.cB s,p.2) else Z (.aI,o.2)
def Am(w:Nat)(m:pZ (aW a.prog a.w) a.A a.env a.cQ)(o:hS a n WJ)(q:hR a V4 WU Wx):gH a V4 (.While n WU [] VT) (j_ WJ Wx w):=by
 refine kb (PB m o q) λVD x j r=>?_;let⟨k,O,a3,@VW,X,ah,t,p⟩:=r;refine⟨λH b Q=>∃g Wc,bD Q g b Wc/\c_ V4 x b/\bk j O Q Wc/\j_ WJ Wx H g=Z (a3,VW),⟨w,k,O,X,c_.refl,bk.perm ah<|List.Perm.refl _,t⟩,?_⟩;rintro H W4 VL ⟨VK,VY,v,h,d,y⟩;cases H with
 |zero=>cases y
 |succ H=>
  rw[j_]at y;let⟨@⟨I,Wf⟩,dD,du⟩:=bM.mp y;refine⟨VK,VY,I,Wf,v,d.ah,dD,λV0 V_ l f=>?_⟩;cases I with
  |false=>
   rw[aP eu]at du ⊢;cases du;exact p W4 V0 V_ h l (d.seq f)
  |true=>
   rw[aJ rfl]at du ⊢;let⟨@⟨N,F⟩,fA,i⟩:=bM.mp du;refine⟨λb Q=>∃g Wc,bD Q g b Wc/\c_ V4 x b/\bk j O Q Wc/\j_ WJ Wx H g=Z (a3,VW),λb Q e=>⟨H,sO H,e⟩,Wf,V_,N,F,l,f.ah,fA,?_⟩;cases N with
   |aI=>exact λb Q Wc Ww c VE=>⟨F,Wc,c,h.trans Ww,(d.seq f).seq VE,i⟩
   |cI=>exact λb Q Wc Ww c VE=>⟨F,Wc,c,h.trans Ww,(d.seq f).seq VE,i⟩
   |dO=>
    cases i;exact λb Q Wc Ww c VE=>p b Q Wc (h.trans Ww) c ((d.seq f).seq VE)
   |cB s=>
    cases i;exact λu b Q Wc VI Ww c z VE=>p u b Q Wc VI (h.trans Ww) c z ((d.seq f).seq VE)
structure lr(Wk:fq)(j:aA)(VI:List ae)(B:List ab):Prop where
 go:∀Q,eU j Q->(∀g∈VI,∀m,j g=Z m->Q g=Z m)->∀(b:Nat) (s:ab),B[b]?=Z s->Wk.go b Q/\∀f xQ,Wk.pR b Q f xQ->c8 Q xQ/\cM xQ s f
 stop:∀Q,eU j Q->(∀g∈VI,∀m,j g=Z m->Q g=Z m)->Wk.stop B.length Q
def sz(j:aA)(x:a8)(VI:List ae):Option (Nat×ak)->Prop
 |none=>True
 |some (b,s)=>∃u,x[b]?=Z (Z u)/\cJ j s u VI
def zw(L:aC (List ab×Option (Nat×ak))):b2:=(λx j a=>∃k O r VW,bD j k x O/\O.Nodup/\L k=Z (r,VW)/\∀Wk Q Wc VI,bD Q VW x Wc->lr Wk Q VI r.1->sz Q x VI r.2->(∀g∈VI,fW Q g)->bk j O Q (Wc++VI)->a Wk Q)
def mX(a:aK)(Wh WG:bt)(L:aC (List ab×Option (Nat×ak))):Prop:=(∀ ⦃o⦄,Hb a Wh WG (zw L) o)
def vb{I We:b2}(e:lq a Wh WG I)(b:∀x j VI,We x j VI->I x j VI):lq a Wh WG We:=λG h x j VI l c=>e G h x j VI l (b x j VI c)
def ed(Wh:fs)(d:bo):List ab->bo
 |[]=>λk=>Z (.aI,k)
 |f::r=>λk=>(Wh (.im f) k).bind λVK=>(d VK).bind λp=>match p.1 with
  |.aI=>ed Wh d r p.2
  |.cI=>ed Wh d r p.2
  |.dO=>Z (.aI,p.2)
  |.cB s=>Z (.cB s,p.2)
@[simp] def l8:Option (Nat×ak)->a5->a5
 |none,k=>k
 |some (b,s),k=>match k[b]? with
  |some (Z .dS)=>k.set b (Z s)
  |_=>k
@[simp] def g0(L:aC (List ab×Option (Nat×ak)))(Wh:fs)(d:bo):bo:=λk=>(L k).bind λo=>(ed Wh d o.1.1 o.2).map λp=>(p.1,l8 o.1.2 p.2)
def xl{m:Option (Nat×ak)}(X:bD j k x O)(e:sz j x VI m):∃VY S,bD j (l8 m k) x VY/\(VY++S).Perm (O++VI):=by
 cases m with
 |none=>exact⟨O,VI,X,List.Perm.refl _⟩
 |some o=>
  let⟨b,s⟩:=o;let⟨@u,A,C⟩:=e;unfold l8;dsimp only;split
  ·exact X.back C A
  ·exact⟨O,VI,X,List.Perm.refl _⟩
def og(Ww:List Nat):Option (Nat×ak)->Prop
 |none=>True
 |some (b,_)=>b∈Ww
def Sn{L:aC (List ab×Option (Nat×ak))}{t:fs}(gt:pZ (aW a.prog a.w) a.A a.env a.cQ)(g1:a.calm=V)(VF:mX a Wh WG L)(g2:h6 a Ww Wh t)(g3:hR a Ww WU Wx)(cl:∀b∈V4,b∈Ww)(VN:∀k r VW,L k=Z (r,VW)->og Ww r.2)(co:ht a (.For Wh WG WU [] VT) (Jp (zw L) (xE Ww t)<|oX Ww Wx)):gH a V4 (.For Wh WG WU [] VT) (g0 L t Wx):=by
 refine kb co λVD x j cr=>?_;let⟨k,O,a3,@VW,X,ah,cs,p⟩:=cr;let⟨@⟨⟨B,m⟩,VK⟩,A,C⟩:=bM.mp cs;let⟨@⟨N,Wf⟩,db,ds⟩:=cv.mp C;cases ds;refine⟨k,O,(B,m),VK,X,ah,A,λWk VL VY VI dL VH eq bd al=>?_⟩;have ev:og Ww m:=VN k _ _ A;have be:=dt.mp al.ah;have am:∀{V0:aA}{V_:List ae},bk VL VY V0 V_->∀g∈VI,∀J,VL g=Z J->V0 g=Z J:=λh g ex J c=>h.keep g J c λe=>be.2.2 g e g ex rfl;have bi:∀{V0:aA}{V_:List ae}{d:a8},bk VL VY V0 V_->c_ Ww x d->sz V0 d VI m:=λ{V0 V_ d} h N=>by
  cases m with
  |none=>trivial
  |some o=>
   let⟨b,s⟩:=o;let⟨@u,fd,fn⟩:=eq;exact⟨u,(N.2 b ev).trans fd,fn.mono h.tup<|am h⟩
 have bm:∀{d:a8},c_ Ww x d->c_ V4 x d:=λN=>⟨N.1,λb VF=>N.2 b<|cl b VF⟩;have bn:∀{d:a8}{V0:aA}{V_:List ae}{Wf:a5},sR V4 VD x j O (l8 m Wf) .aI->c_ Ww x d->bD V0 Wf d V_->bk VL VY V0 V_->VD.aI d V0:=λ{d V0 V_ Wf} p N an v=>by
  let⟨G,@S,ap,Wa⟩:=xl an (bi v N);exact p d V0 G (bm N) ap ((al.trans v bd).less Wa)
 refine⟨λb H as Q=>H+b=B.length/\∃i Wc,c_ Ww x as/\bD Q i as Wc/\bk VL VY Q Wc/\ed t Wx (B.drop b) i=Z (N,Wf),⟨B.length,rfl,VK,VY,c_.refl,dL,bk.perm be.1<|List.Perm.refl _,db⟩,?_⟩;rintro b H as Q ⟨hd,i,Wc,z,bs,VE,I⟩;by_cases bv:b<B.length
 ·let@⟨fr,f0⟩:=VH.go Q VE.tup (am VE) b B[b] (by simp[bv]);rw[jZ bv,ed]at I;let⟨@F,dD,du⟩:=bM.mp I;let⟨@⟨ca,a1⟩,fA,M⟩:=bM.mp du;refine .inr ⟨fr,λd V0=>(H-1)+(b+1)=B.length/\∃i Wc,c_ Ww x d/\bD V0 i d Wc/\bk VL VY V0 Wc/\ed t Wx (B.drop<|b+1) i=Z (N,Wf),λd V0 e=>⟨H-1,⋯,e⟩,λf V0 f1=>?_⟩;let@⟨a2,f2⟩:=f0 f V0 f1;have an:=bs.mono a2.tupS λg W m c=>a2 g m c;have v:=VE.same a2;refine⟨i,Wc,.im B[b],[],F,an,⟨f2,rfl⟩,by rw[cj];exact v.ah,dD,λhe f4 G R ap iX=>?_⟩;have D:bk VL VY f4 G:=v.seq (by rw[cj]at iX;exact iX);refine⟨F,G,ca,a1,ap,D.ah,fA,?_⟩;cases ca with
  |aI=>exact λT U E l n q=>⟨⋯,a1,E,(z.trans R).trans l,n,D.seq q,M⟩
  |cI=>exact λT U E l n q=>⟨⋯,a1,E,(z.trans R).trans l,n,D.seq q,M⟩
  |dO=>
   cases M;exact λT U E l n q=>bn p ((z.trans R).trans l) n (D.seq q)
  |cB s=>
   cases M;intro u T U E cd l n f8 q;have ce:=D.seq q;have ch:=(z.trans R).trans l;let⟨ci,@ga,ge,gl⟩:=xl (VI:=VI) n (bi ce ch);refine p u T U ci cd (bm ch) ge f8 ((al.trans ce bd).less (aG:=ga) ?_);rw[bz];refine (en ci dx).trans ?_;rw[<-bz];refine (fw cd gl).trans ?_;rw[bz,bz];exact en _ dx
 ·have VF:b=B.length:=⋯
  subst VF;refine .inl ⟨VH.stop Q VE.tup<|am VE,?_⟩;rw[m3 (bT _)]at I;cases I;exact bn p z bs VE
end
section
variable{a:aK}
variable{t:fs}
def kv{L:aC (List ab×Option (Nat×ak))}{Wx:bo}(c:pZ (aW a.prog a.w) a.A a.env a.cQ)(d:a.calm=V)(VF:mX a Wh WG L)(e:h6 a Ww Wh t)(g:hR a Ww WU Wx)(h:∀b∈V4,b∈Ww)(VN:∀k r VW,L k=Z (r,VW)->og Ww r.2)(i:∀f,mQ WG a.env f=pure f:=by intro W;rfl):gH a V4 (.For Wh WG WU [] VT) (g0 L t Wx):=
 Sn c d VF e g h VN (BU c d VF e g i)
def Oc(R:Φ)(W5:cf):b2:=(λx j VI=>W5 x j λf VL=>∃g,f=.ref g/\(((∃z,dv R VL g z)/\VI (r5 R g) VL)\/((∃z,cu R VL g z)/\VI (t4 R g) VL)))
variable{M:bt}
def IH{W5:cf}(q:bW a M W5):lq a Wh M (Oc a.K W5):=by
 intro G h x j VI l e;refine b0 (q G h x j _ l e) λu b r=>?_;let⟨f,@VL,i,s,t⟩:=r;let⟨@g,c,p⟩:=t;subst c;cases s;rcases p with ⟨⟨z,k⟩,p⟩|⟨⟨z,k⟩,p⟩
 ·let⟨@VP,v,o,w⟩:=i.list k;refine wpAny_pyIter_list o.isList ?_;refine⟨b.heap.objs.size,[b.heap.objs.size],_,_,VL,rfl,i.kept (We:=b.toks) λd m c=>b4 _ c,TX g _,⟨_,dr _ rfl,rfl,rfl⟩,λd n=>?_,p⟩;have c:d=b.heap.objs.size:=by simpa using n
  subst c;exact i.rV (bT _) (i.aX.fresh<|bT _)
 ·let⟨@VP,v,o,w⟩:=i.tuple k;refine wpAny_pyIter_tuple (show b.heap.IsTuple g VP.toArray from o) ?_;refine⟨b.heap.objs.size,[b.heap.objs.size],_,_,VL,rfl,i.kept (We:=b.toks) λd m c=>b4 _ c,QE g _,⟨_,dr _ rfl,rfl,rfl⟩,λd n=>?_,p⟩;have c:d=b.heap.objs.size:=by simpa using n
  subst c;exact i.rV (bT _) (i.aX.fresh<|bT _)
theorem bN.get{j:aA}:∀{B:List ab}{T:List ar}{b:Nat}{s:ab},bN j B T->B[b]?=Z s->∃u,T[b]?=Z u/\cM j s u
 |[],_,_,_,_,c=>by simp at c
 |s::B,_,0,_,e,c=>by
  let⟨u,@r,rfl,A,C⟩:=e;simp at c;subst c;exact⟨u,rfl,A⟩
 |s::B,_,b+1,_,e,c=>by
  let⟨u,@r,rfl,A,C⟩:=e;let⟨@J,a,d⟩:=bN.get (b:=b) C ⇑c;exact⟨J,by simpa using a,d⟩
variable{g:ae}
theorem xJ(e:j g=Z (.lst z))(hd:bN j B z):lr (r5 R g) j [g] B where
 go:=λQ I q b s c=>by
  let⟨@u,a,d⟩:=hd.get c;have VB:=dv.of (R:=R) (q g (.head _) _ e);refine⟨⟨z,u,VB,a⟩,λf k ⟨h,i⟩=>?_⟩;subst h;rw[i z VB]at a;cases a;exact⟨c8.refl _,d.mono I.tup⟩
 stop:=λQ I q=>⟨z,dv.of<|q g (.head _) _ e,by rw[<-hd.length];exact bT _⟩
theorem SQ{m:bc}(e:j g=Z (.dw m<|.lst z))(hd:bN j B z):lr (r5 R g) j [] B where
 go:=λQ I q b s c=>by
  let⟨@u,a,d⟩:=hd.get c;have VB:dv R Q g z:=.inl (.inr ⟨m,I.dw _ _ _ e⟩);refine⟨⟨z,u,VB,a⟩,λf k ⟨h,i⟩=>?_⟩;subst h;rw[i z VB]at a;cases a;exact⟨c8.refl _,d.mono I.tup⟩
 stop:=λQ I q=>⟨z,.inl<|.inr ⟨m,I.dw _ _ _ e⟩,by rw[<-hd.length];exact bT _⟩
theorem Nt(e:j g=Z (.tup z))(hd:bN j B z):lr (t4 R g) j [] B where
 go:=λQ I q b s c=>by
  let⟨@u,a,d⟩:=hd.get c;have VB:=cu.of (R:=R) (I.tup g _ e);refine⟨⟨z,u,VB,a⟩,λf k ⟨h,i⟩=>?_⟩;subst h;rw[i z VB]at a;cases a;exact⟨c8.refl _,d.mono I.tup⟩
 stop:=λQ I q=>⟨z,cu.of<|I.tup g _ e,by rw[<-hd.length];exact bT _⟩
abbrev jr:=aC (List ab×Option (Nat×ak))
@[simp] def gG(s:ak):Option (List ab):=match s with
 |.im (.tup B)=>Z B
 |.lst B=>Z B
 |.dE B=>Z B
 |_=>Y
@[simp] def dn(L:aC bI):jr:=λk=>(L k).bind λo=>match o.1 with
 |.cA s=>(gG s).map λB=>((B,Y),o.2)
 |.a6 b=>(fB b o.2).bind λp=>(gG p.1).map λB=>((B,if p.1.dH=V then Y else Z (b,p.1)),p.2)
def CV(y:cJ j s u VI)(c:gG s=Z B):
  ∃g,u=.ref g/\(((∃z,dv R j g z)/\lr (r5 R g) j VI B)\/((∃z,cu R j g z)/\lr (t4 R g) j VI B)):=by
 unfold gG at c;split at c
 ·cases c;let@⟨⟨g,@z,rfl,A,C⟩,rfl⟩:=y;exact⟨g,rfl,.inr ⟨⟨z,cu.of A⟩,Nt A C⟩⟩
 ·cases c;let⟨g,@z,rfl,A,C,rfl⟩:=y;exact⟨g,rfl,.inl ⟨⟨z,dv.of A⟩,xJ A C⟩⟩
 ·cases c;let⟨g,z,@m,rfl,A,C,rfl⟩:=y;exact⟨g,rfl,.inl ⟨⟨z,.inl<|.inr ⟨m,A⟩⟩,SQ A C⟩⟩
 ·cases c
def gc{L:aC bI}(e:dC a M L):mX a Wh M (dn L):=by
 refine vb (IH e) λx j F w=>?_;let⟨k,O,r,@VW,X,ah,y,p⟩:=w;let⟨@⟨f,VK⟩,A,C⟩:=bM.mp y;refine⟨k,O,f,VK,X,ah,A,λu VL VY VI i V5 d=>?_⟩;cases f with
 |cA s=>
  let⟨@B,l,m⟩:=cv.mp C;cases m;let⟨@g,rfl,n⟩:=CV (R:=a.K) V5 l;refine⟨g,rfl,?_⟩;rcases n with ⟨c,VH⟩|⟨c,VH⟩
  ·exact .inl ⟨c,p _ VL VY VI i VH trivial (cJ.chg V5) d⟩
  ·exact .inr ⟨c,p _ VL VY VI i VH trivial (cJ.chg V5) d⟩
 |a6 b=>
  let⟨@⟨s,Wf⟩,l,m⟩:=bM.mp C;let⟨@B,z,D⟩:=cv.mp m;cases D;let⟨G,V_,@b3,o,h,q,E⟩:=IB i l;let@⟨V5,rfl⟩:=V5;rw[V5]at o;cases o;rw[cj]at d;have t:=d.jK E.symm;let⟨@g,rfl,n⟩:=CV (R:=a.K) h z;have v:sz VL x b3 (if s.dH=V then Y else Z (b,s)):=by
   split
   ·trivial
   ·exact⟨_,V5,h⟩
  refine⟨g,rfl,?_⟩;rcases n with ⟨c,VH⟩|⟨c,VH⟩
  ·exact .inl ⟨c,p _ VL V_ b3 q VH v h.chg t⟩
  ·exact .inr ⟨c,p _ VL V_ b3 q VH v h.chg t⟩
def TN{L:aC ak}:∀k r VW,dn (aa L) k=Z (r,VW)->og Ww r.2:=by
 intro k r VW e;let⟨@⟨f,VK⟩,A,C⟩:=bM.mp e;unfold aa at A;let⟨@o,c,a⟩:=cv.mp A;cases a;let⟨@B,d,b⟩:=cv.mp C;cases b
 trivial
variable{b:Nat}
def o7(VF:b∈Ww):∀k r VW,dn (ag b) k=Z (r,VW)->og Ww r.2:=by
 intro k r VW e;let⟨@⟨f,VK⟩,A,C⟩:=bM.mp e;unfold ag at A;split at A
 ·cases A;let⟨@⟨s,Wf⟩,d,a⟩:=bM.mp C;let⟨@B,g,c⟩:=cv.mp a;cases c;show og Ww (if s.dH=V then Y else Z (b,s));split
  ·trivial
  ·exact VF
 ·cases A
def iD(E:Int)(w:Nat):List ab:=((range w).map λ(q:Nat)=>ab.int (E+(q:Int)))
theorem S_{E:Int}:lr (uC E w) j [] (iD E w) where
 go:=λQ I q b s c=>by
  have VF:b<w:=by
   have:=(fY.mp c).1
   rwa [iD,bB,ky]at this
  refine⟨VF,λf e ⟨a,d⟩=>?_⟩;subst a;rw[iD,hb,EU VF]at c;cases c;exact⟨c8.refl _,d⟩
 stop:=λQ I q=>by
  show w<=_;rw[iD,bB,ky];exact bT _
def sI(b:Int):Prop :=( -1000000<=b/\b<=1000000)
noncomputable instance (b:Int):Decidable (sI b):=inferInstanceAs (Decidable<|_/\_)
@[simp] def mM(L:aC (List bI)):jr:=λk=>(L k).bind λo=>(ir o.2 o.1).bind λB=>match B with
 |[.im (.int v)]=>if sI v then Z ((iD 0 v.toNat,Y),o.2) else Y
 |_=>Y
def Jt{s:ab}(e:nM j [.im s] T):∃u,T=[u]/\cM j s u:=by
 let⟨u,@r,rfl,⟨@VI,A,W⟩,C⟩:=e;cases (show r=[] from C);exact⟨u,rfl,A⟩
def zJ{s c:ab}(e:nM j [.im s,.im c] T):∃u J,T=[u,J]/\cM j s u/\cM j c J:=by
 let⟨u,@r,rfl,⟨@VI,A,W⟩,C⟩:=e;let⟨@J,rfl,a⟩:=Jt C;exact⟨u,J,rfl,A,a⟩
def yr{g:bt}(h:eG a "range")(i:a.aB "range" = Y)(d:fD a [g] L)(VN:bP [g] a.env=[(aq,b_ g a.env)]:=by rfl):mX a Wh (.Call (.Name "range" o) [g] [] VT) (mM L):=by
 refine vb (SM h i d VN) λx j t l=>?_;let⟨k,O,r,@VW,X,ah,m,p⟩:=l;let⟨@⟨VV,VK⟩,A,C⟩:=bM.mp m;let⟨@B,n,b⟩:=bM.mp C;refine⟨k,O,VV,VK,X,ah,A,λT VL VY w e V5 q=>?_⟩;have s:=V5.read e n;split at b
 ·rename_i v;split at b
  ·rename_i f;cases b;let⟨@u,rfl,c⟩:=Jt s;cases (show u=.int v from c);exact⟨v,rfl,by have:=f.1;lia,by have:=f.2;lia,p _ VL VY [] e S_ trivial (λg d=>nomatch d) (by rw[cj];exact q.less (List.Perm.refl _))⟩
  ·cases b
 ·cases b
def A0:∀k r VW,mM L k=Z (r,VW)->og Ww r.2:=by
 intro k r VW e;let⟨@⟨VV,VK⟩,A,C⟩:=bM.mp e;let⟨@B,b,a⟩:=bM.mp C;split at a
 ·split at a
  ·cases a;trivial
  ·cases a
 ·cases a
def uK(a:aK)(WV:List bt)(L:aC Bool):Prop:=(∀ ⦃o⦄,I_ a WV (j2 L) o)
def d8:aC Bool:=(λk=>Z (V,k))
def xx:uK a [] d8:=by
 intro G h x j D l b;let⟨k,O,d,@VW,X,ah,c,p⟩:=b;cases c;exact Qj G h x j D l (p j O X<|bk.perm ah<|List.Perm.refl _)
def zF{L:aC Bool}(e:hS a n L):uK a [n] L:=Nx e
@[simp] def kX(Wi:List Nat)(k:a5):a5:=Wi.map λb=>k.getD b Y
def k9:List Nat->a5->a5
 |[],k=>k
 |b::r,k=>k9 r (match k[b]? with|some (Z _)=>k.set b (Z .dS)|_=>k)
@[simp] def jq:List Nat->a5->a5->a5
 |b::r,m::aG,k=>jq r aG (k.set b m)
 |_,_,k=>k
def h8(own:Nat)(Wh:fs)(n:aC Bool)(c:aC ak): List ab -> List ab -> a5 -> Option (List ab × a5)
  |[],a,aG => Z (a,aG)
  |f :: r,a,aG => (Wh (.im f)<|replicate own Y ++ aG).bind λVK => (n VK).bind λo => if o.1=V then (c o.2).bind λp => match p.1 with
      |.im s => if a.length<100000 then h8 own Wh n c r (a ++ [s]) (p.2.drop own) else Y
      |_ => Y
    else h8 own Wh n c r a (o.2.drop own)
@[simp] def dg(own:Nat)(Wi:List Nat)(E:jr)(Wh:fs)(n:aC Bool)(c:aC ak):aC ak:=λk=>(E k).bind λo=>(h8 own Wh n c o.1.1 []<|kX Wi o.2).map λp=>(.lst p.1,l8 o.1.2<|jq Wi p.2 o.2)
def qu(own w:Nat):List Nat:=((range w).map (·+own))
def Kv(e:k[b]?=Z m):k.getD b Y=m:=by rw[cR,e];rfl
def bD.void(X:bD j k x O)(b:Nat):∃VY V_,bD j (match k[b]? with|some (Z _)=>k.set b (Z .dS)|_=>k) x VY/\nV j (k.getD b Y) (x.getD b Y) V_/\(VY++V_).Perm O:=by
 split
 ·rename_i s hd;let⟨u,VY,@V_,A,C,a,d⟩:=X.out hd;refine⟨V_,VY,a,?_,d⟩;rw[Kv hd,cR,A];exact⟨u,rfl,C⟩
 ·rename_i e;refine⟨O,[],X,?_,by rw[cj]⟩;have:k.getD b Y=Y:=by
   rw[cR];cases c:k[b]? with
   |none=>rfl
   |some m=>
    cases m with
    |none=>rfl
    |some s=>exact absurd c (e s)
  rw[this];exact rfl
theorem Jk{j:aA}{x:a8}:∀{Wi:List Nat}{k:a5}{O:List ae},Wi.Nodup->bD j k x O->∃VY V_,bD j (k9 Wi k) x VY/\bD j (kX Wi k) (Wi.map λb=>x.getD b Y) V_/\(VY++V_).Perm O
 |[],k,O,_,X=>⟨O,[],X,⟨rfl,rfl⟩,by rw[cj]⟩
 |b::r,k,O,ah,X=>by
  let⟨VY,@V_,A,C,f⟩:=X.void b;have a:=hN.mp ah;let⟨g,@d,h,e,i⟩:=Jk (Wi:=r) a.2 A;refine⟨g,V_++d,h,⟨_,_,V_,d,rfl,C,?_,rfl⟩,lK.trans<|(en _ i).trans<|dx.trans f⟩;have c:kX r (match k[b]? with|some (Z _)=>k.set b (Z .dS)|_=>k)=kX r k:=by
   unfold kX;refine oE λv l=>?_;split
   ·rw[cR,cR,oR];rintro rfl;exact a.1 l
   ·rfl
  rw[c]at e;exact e
def bD.Tg(X:bD j k x O)(e:nV j m (x.getD b Y) S):∃VY V_,bD j (k.set b m) x VY/\(VY++V_).Perm (O++S):=by
 cases m with
 |some s=>
  let⟨@u,c,y⟩:=e;refine X.back y ?_;rw[cR]at c;cases p:x[b]? with
  |none=>rw[p]at c;cases c
  |some f=>rw[p]at c;rw[show f=Z u from c]
 |none=>
  cases (show S=[] from e);rw[cj];by_cases VF:b<k.length
  ·cases p:k[b]? with
   |none=>exact absurd (List.getElem?_eq_none_iff.mp p) ⋯
   |some f=>
    cases f with
    |none=>
     refine⟨O,[],?_,by rw[cj]⟩;have:k.set b Y=k:=by
      refine pK λv=>?_;by_cases c:b=v
      ·subst c;rw[p,vO VF]
      ·rw[oR c]
     rw[this];exact X
    |some s=>
     let⟨u,VY,@V_,A,C,l,n⟩:=X.out p;have gen:∀{k:a5}{x:a8}{O:List ae}{b:Nat},bD j k x O->∃VY V_,bD j (k.set b Y) x VY/\(VY++V_).Perm O:=by
      intro k;induction k with
      |nil=>intro x O b X;exact⟨O,[],by simpa using X,by rw[cj]⟩
      |cons m k d=>
       intro x O b X;let⟨f,r,P,@V3,rfl,g,a,rfl⟩:=X;cases b with
       |zero=>exact⟨V3,P,⟨f,r,[],V3,rfl,rfl,a,rfl⟩,dx⟩
       |succ b=>
        let⟨aG,@VD,h,i⟩:=d (b:=b) a;refine⟨P++aG,VD,⟨f,r,P,aG,rfl,g,h,rfl⟩,?_⟩;rw[bz];exact en _ i
     exact gen X
  ·refine⟨O,[],?_,by rw[cj]⟩;rw[List.set_eq_of_length_le ⋯];exact X
theorem DX{j:aA}{x:a8}:∀{Wi:List Nat}{aG k:a5}{O S:List ae},bD j k x O->bD j aG (Wi.map λb=>x.getD b Y) S->∃VY V_,bD j (jq Wi aG k) x VY/\(VY++V_).Perm (O++S)
 |[],aG,k,O,S,X,_=>⟨O,S,by cases aG<;>exact X,List.Perm.refl _⟩
 |b::r,[],k,O,S,X,e=>⟨O,S,X,List.Perm.refl _⟩
 |b::r,m::aG,k,O,S,X,e=>by
  let⟨f,I,g,@h,c,A,C,rfl⟩:=e;cases c;let⟨VY,@P,a,d⟩:=X.Tg A;let⟨V_,@V3,V8,Wd⟩:=DX (Wi:=r) (aG:=aG) a C;refine⟨V_,V3++P,V8,?_⟩;rw[<-bz,<-bz];refine (fw P Wd).trans ?_;rw[bz];refine (en VY dx).trans ?_;rw[<-bz];exact fw _ d
def Rz:∀{Wi:List Nat}{aG k:a5},Wi.length=aG.length->Wi.Nodup->jq Wi aG (k9 Wi k)=jq Wi aG k:=by
 have l:∀{r:List Nat}{aG k:a5}{b:Nat}{m:Option ak},b∉r->jq r aG (k.set b m)=(jq r aG k).set b m:=by
  intro r;induction r with
  |nil=>intro aG k b m W;cases aG<;>rfl
  |cons v r a=>
   intro aG k b m e;cases aG with
   |nil=>rfl
   |cons n aG=>
    have f:b≠v:=λc=>e (by rw[c];exact .head _);show jq r aG ((k.set b m).set v n)=(jq r aG<|k.set v n).set b m;rw[yE _ _ f,a λi=>e<|.tail _ i]
 have g:∀{r:List Nat}{k:a5}{b:Nat}{m:Option ak},b∉r->k9 r (k.set b m)=(k9 r k).set b m:=by
  intro r;induction r with
  |nil=>intro k b m W;rfl
  |cons v r a=>
   intro k b m e;have f:b≠v:=λc=>e (by rw[c];exact .head _);show k9 r (match (k.set b m)[v]? with|some (Z _)=>(k.set b m).set v (Z .dS)|_=>k.set b m)=(k9 r (match k[v]? with|some (Z _)=>k.set v (Z .dS)|_=>k)).set b m;rw[oR f];cases k[v]? with
   |none=>exact a λi=>e (.tail _ i)
   |some p=>
    cases p with
    |none=>exact a λi=>e (.tail _ i)
    |some s=>
     show k9 r ((k.set b m).set v<|Z .dS)=_;rw[yE _ _ f];exact a λi=>e (.tail _ i)
 intro Wi;induction Wi with
 |nil=>intro aG k W W;cases aG<;>rfl
 |cons b r a=>
  intro aG k h ah;have d:=hN.mp ah;cases aG with
  |nil=>cases h
  |cons n aG=>
   have j:r.length=aG.length:=by simpa using h
   show jq r aG ((k9 r (match k[b]? with|some (Z _)=>k.set b (Z .dS)|_=>k)).set b n)=jq r aG (k.set b n);split
   ·rw[g d.1,An,<-g d.1,a j d.2]
   ·rw[<-g d.1,a j d.2]
theorem D9{j:aA}{k:a5}{r:a8}{O:List ae}(e:bD j k r O):∀{own:List aD},bD j (replicate own.length Y++k) (own.map (λ_=>Y)++r) O
 |[]=>e
 |f::own=>⟨Y,_,[],O,rfl,rfl,D9 e (own:=own),rfl⟩
theorem xY{j:aA}:∀{w:Nat}{k:a5}{x:a8}{O:List ae},bD j k x O->∃VY V_,bD j (k.drop w) (x.drop w) VY/\(VY++V_).Perm O
 |0,k,x,O,e=>⟨O,[],e,by rw[cj]⟩
 |w+1,[],x,O,e=>by
  cases e.1;exact⟨[],O,⟨rfl,rfl⟩,List.Perm.refl _⟩
 |w+1,m::k,x,O,e=>by
  let⟨f,r,P,@V3,rfl,A,C,rfl⟩:=e;let⟨VY,@V_,a,b⟩:=xY (w:=w) C;exact⟨VY,V_++P,a,by rw[<-bz];exact (fw P b).trans dx⟩
def bk.both(g:bk j O VL (VY++VI)):bk j O VL VY:=g.less (List.Perm.refl _)
theorem bN.snoc:∀{B:List ab}{T:List ar}{s:ab}{u:ar},bN j B T->cM j s u->bN j (B++[s]) (T++[u])
 |[],T,s,u,e,y=>by cases (show T=[] from e);exact⟨u,[],rfl,y,rfl⟩
 |c::B,T,s,u,e,y=>by
  let⟨J,@r,rfl,A,C⟩:=e;exact⟨J,r++[u],rfl,A,C.snoc y⟩
variable{E:jr}
def C1(ah:Wi.Nodup)(e:nS (dg own.length Wi E t WJ W0) x j D):
  vY own Wi (zw E) (λ_=>xE (qu own.length Wi.length) t) (λ_=>j2 WJ) (λ_=>nS W0) x j D:=by
 let⟨k,O,r,@VW,X,fr,f0,p⟩:=e;let⟨@⟨⟨z,m⟩,VK⟩,A,C⟩:=bM.mp f0;let⟨@⟨B,bn⟩,f1,f2⟩:=cv.mp C;cases f2;refine⟨k,O,(z,m),VK,X,fr,A,λWk VL VY VI f4 VH f8 ga ge lf=>?_⟩;let⟨hh,@M,bs,l,Wa⟩:=Jk ah f4;have bv:bk j O VL (M++(hh++VI)):=ge.jK (by
  refine (fw VI Wa.symm).trans ?_;rw[bz];exact lK)
 have ca:=dt.mp bv.ah;have gl:∀f∈hh++VI,fW VL f:=λf I=>by
  rcases dy.mp I with I|I
  ·exact bs.chg f I
  ·exact ga f I
 have U:∀{V0:aA}{V_:List ae},bk VL M V0 V_->∀g∈hh++VI,∀J,VL g=Z J->V0 g=Z J:=λh g a J c=>h.keep g J c λe=>ca.2.2 g e g a rfl;refine⟨λb H VR Q=>H+b=z.length/\∃q aG L,bD Q aG (Wi.map λb=>x.getD b Y) L/\aG.length=Wi.length/\bk VL M Q L/\bN Q q VR/\h8 own.length t WJ W0 (z.drop b) q aG=Z (B,bn),
  ⟨z.length,rfl,[],kX Wi VK,M,l,by rw[kX,bB],bk.perm ca.1<|List.Perm.refl _,rfl,f1⟩,?_⟩;rintro b H VR Q ⟨al,q,aG,L,cd,gt,VE,ce,am⟩;by_cases ch:b<z.length
 ·let@⟨g1,g2⟩:=VH.go Q VE.tup (λg a=>U VE g<|ez _ a) b z[b] (by simp[ch]);rw[jZ ch,h8]at am;let⟨@F,dD,du⟩:=bM.mp am;let⟨@⟨d,as⟩,fA,R⟩:=bM.mp du;refine .inr ⟨g1,λci V0=>(H-1)+(b+1)=z.length/\∃q aG L,bD V0 aG (Wi.map λb=>x.getD b Y) L/\aG.length=Wi.length/\bk VL M V0 L/\bN V0 q ci/\h8 own.length t WJ W0 (z.drop<|b+1) q aG=Z (B,bn),λci V0 e=>⟨H-1,⋯,e⟩,λf V0 I=>?_⟩;let@⟨y,g3⟩:=g2 f V0 I;have hd:=cd.mono y.tupS λg W m c=>y g m c;have cl:=VE.same y;have an:=ce.mono y.tupS.tup;refine⟨replicate own.length Y++aG,L,.im z[b],[],F,D9 hd,⟨g3,rfl⟩,by rw[cj];exact cl.ah,dD,λa1 he co ap cr iX=>⟨λv u n=>?_,?_⟩⟩
  ·
   have li:own.length<=v:=by
    by_cases hf:v<own.length
    ·rw[kn,pl ⇑hf,hb]at n;cases c:own[v]? with
     |none=>rw[c]at n;cases n
     |some i=>rw[c]at n;cases n
    ·lia
   have lm:v<own.length+Wi.length:=by
    have:=(fY.mp n).1
    rwa [kn,d7,bB,bB]at this
   have al:v∈qu own.length Wi.length:=dK.mpr ⟨v-own.length,i8.mpr ⋯,⋯⟩;exact (ap.2 v al).trans n
  ·have cs:bk VL M he co:=cl.seq (by rw[cj]at iX;exact iX);have an:=an.mono iX.tup.tup;have db:a1.drop own.length=Wi.map λb=>x.getD b Y:=by
    have ln:=cr.len;refine pK λv=>?_;by_cases n:v<Wi.length
    ·have al:v+own.length∈qu own.length Wi.length:=dK.mpr ⟨v,i8.mpr n,rfl⟩;have:=ap.2 _ al;rw[nC,wt,this,kn,q3 ↥0,bB,Nat.add_sub_cancel]
    ·have ls:a1.length<=own.length+Wi.length:=by
      rw[ap.1,kn,d7,bB,bB];exact bT _
     rw[ye (by rw[gQ];lia),ye (by rw[bB];lia)]
   have ds:a1.length=own.length+Wi.length:=by rw[ap.1,kn,d7,bB,bB]
   refine⟨F,co,d,as,cr,cs.ah,fA,λlv a2 N bd=>?_⟩;have S:=cs.seq bd;dsimp only at R ⊢;cases d with
   |false=>
    rw[aP eu]at R ⊢;let⟨T,@dL,G,be⟩:=xY (w:=own.length) N;rw[db]at G;exact⟨⋯,q,as.drop own.length,T,G,by rw[gQ,N.len,ds];lia,S.less be,an.mono bd.tup.tup,R⟩
   |true=>
    rw[aJ rfl]at R ⊢;let⟨@⟨u,eq⟩,hm,P⟩:=bM.mp R;dsimp only at P;split at P
    ·rename_i s;split at P
     ·rename_i lw;refine⟨as,a2,.im s,eq,N,S.ah,hm,λJ mb T mo G hw bi=>?_⟩;let@⟨h0,rfl⟩:=hw;rw[cj]at bi;have ev:=(an.mono bd.tup.tup).mono bi.tup.tup;refine⟨HC (show VR.length<=100000 by rw[<-ev.length];lia) ∅,?_⟩;let⟨ii,@ms,ex,io⟩:=xY (w:=own.length) G;rw[db]at ex;exact⟨⋯,q++[s],eq.drop own.length,ii,ex,by rw[gQ,G.len,ds];lia,(S.seq bi).less io,ev.snoc h0,P⟩
     ·cases P
    ·cases P
 ·have VF:b=z.length:=⋯
  subst VF;refine .inl ⟨VH.stop Q VE.tup<|λg a=>U VE g<|ez _ a,λbm fd=>?_⟩;rw[m3 (bT _),h8]at am;cases am;have it:bD Q (k9 Wi VK) x hh:=bs.mono VE.tup λg a=>U VE g (eL _ a);let⟨a2,@fn,N,jp⟩:=DX it cd;rw[Rz (by rw[gt]) ah]at N;have kt:sz Q x VI m:=by
   cases m with
   |none=>trivial
   |some o=>
    let⟨b,s⟩:=o;let⟨@u,kw,lc⟩:=f8;exact⟨u,kw,lc.mono VE.tup λg a=>U VE g<|ez _ a⟩
  let⟨T,@dL,G,be⟩:=xl (VI:=VI) N kt;have y:c8 Q (upd Q bm<|.lst VR):=(c8.refl Q).upd fd;have S:bk j O Q T:=(bv.trans VE gl).less (aG:=dL++fn) (by
   rw[<-bz];refine (fw fn be).trans ?_;rw[bz];refine (en a2 dx).trans ?_;rw[<-bz];refine (fw VI jp).trans ?_;rw[bz];exact lK)
  exact p _ _ T [bm] (G.mono y.tupS λg W m c=>y g m c) ⟨bm,VR,rfl,eW,ce.mono y.tupS.tup,rfl⟩ (S.add fd G.chg)
def wF{WX:bt}{WV:List bt}{V1:hp}(c:a.calm=V)(VU:iK a V1 own Wi)(ah:Wi.Nodup)(VF:mX a Wh WG E)(d:∀b,h6 (a.gd (f7 a own Wi) V1 b) (qu own.length Wi.length) Wh t)(g:∀b,uK (a.gd (f7 a own Wi) V1 b) WV WJ)(h:∀b,cw (a.gd (f7 a own Wi) V1 b) WX W0)(VN:∀f,mQ WG a.env f=pure f:=by intro W;rfl):cw a (.ListComp WX [⟨Wh,WG,WV,0⟩] V1 VT) (dg own.length Wi E t WJ W0):=
 eC (T5 c VU VF d g h VN) λx j D e=>C1 ah e
end
@[simp] def j4(V4:List Nat):List ak->a5->Nat->List ak
 |s::B,m::k,v=>(if s.dH=V then s else if v∈V4 then m.getD .dS else .dS)::j4 V4 B k (v+1)
 |s::B,[],v=>(if s.dH=V then s else .dS)::j4 V4 B [] (v+1)
 |[],_,_=>[]
@[simp] def c6(w H:Nat)(V4:List Nat)(L:bo):cU:=λB=>if B.length=w then match L (B.map Z++replicate (H-w) Y) with
 |some (.cB r,k)=>Z (r,j4 V4 B k 0)
 |some (.aI,k)=>Z (.im .aS,j4 V4 B k 0)
 |_=>Y else Y
theorem xc{j:aA}:∀{B:List ak}{T:List ar}{O:List ae}{H:Nat},ey j B T O->bD j (B.map Z++replicate H Y) (T.map Z++replicate H Y) O
 |[],T,O,H,e=>by
  let@⟨rfl,rfl⟩:=e;show bD j (replicate H Y) (replicate H Y) [];induction H with
  |zero=>exact⟨rfl,rfl⟩
  |succ H a=>exact⟨Y,_,[],[],rfl,rfl,a,rfl⟩
 |s::B,T,O,H,e=>by
  let⟨u,r,VY,@V_,rfl,A,C,rfl⟩:=e;exact⟨Z u,_,VY,V_,rfl,⟨u,rfl,A⟩,xc C,rfl⟩
theorem ze{j Q:aA}{V4:List Nat}(I:eU j Q):∀{B:List ak}{T:List ar}{n:List ae}{k:a5}{x:a8}{O:List ae}{a:Nat},ey j B T n->bD Q k x O->(∀(v:Nat) (u:ar),(a+v)∈V4->T[v]?=Z u->x[v]?=Z (Z u))->
  ∃VI S,ey Q (j4 V4 B k a) T VI/\(VI++S).Perm O
 |[],T,n,k,x,O,a,e,X,_=>⟨[],O,by unfold j4;exact⟨e.1,rfl⟩,List.Perm.refl _⟩
 |s::B,T,n,[],x,O,a,e,X,q=>by
  let⟨u,r,P,@V3,rfl,A,C,rfl⟩:=e;let@⟨rfl,rfl⟩:=X;let⟨VI,@S,b,d⟩:=ze (k:=[]) (x:=[]) (O:=[]) (a:=a+1) I C ⟨rfl,rfl⟩ λv u o p=>by
   have:=q (v+1) u (by rw[show a+(v+1)=a+1+v by lia];exact o) ⇑p;simp at this
  rw[j4];refine⟨VI,S,⟨u,r,[],VI,rfl,?_,b,rfl⟩,d⟩;split
  ·rename_i i;have:=A.mono I λg l=>by rw[A.dH i]at l;cases l
   rw[A.dH i]at this;exact this
  ·exact rfl
 |s::B,T,n,m::k,x,O,a,e,X,q=>by
  let⟨u,r,P,@V3,rfl,A,C,rfl⟩:=e;let⟨f,h,aG,@VD,rfl,w,z,rfl⟩:=X;let⟨VI,@S,b,d⟩:=ze (k:=k) (x:=h) (a:=a+1) I C z λv u o p=>by
   have:=q (v+1) u (by rw[show a+(v+1)=a+1+v by lia];exact o) ⇑p;simpa using this
  rw[j4];split
  ·rename_i i;have t:=A.mono I λg l=>by rw[A.dH i]at l;cases l
   rw[A.dH i]at t;refine⟨VI,S++aG,⟨u,r,[],VI,rfl,t,b,rfl⟩,?_⟩;rw[<-bz];exact (fw aG d).trans dx
  ·split
   ·rename_i D;have E:f=Z u:=by
     have:=q 0 u D rfl;simpa using this
    subst E;cases m with
    |none=>
     refine⟨VI,S++aG,⟨u,r,[],VI,rfl,rfl,b,rfl⟩,?_⟩;rw[<-bz];exact (fw aG d).trans dx
    |some c=>
     let⟨@G,F,y⟩:=w;cases F;refine⟨aG++VI,S,⟨u,r,aG,VI,rfl,y,b,rfl⟩,?_⟩;rw[bz];exact en _ d
   ·refine⟨VI,S++aG,⟨u,r,[],VI,rfl,rfl,b,rfl⟩,?_⟩;rw[<-bz];exact (fw aG d).trans dx
section
variable{VJ:bF}{y:bj}{R:Φ}{aB:aD->Option af}{VM:aY}
def L3{WH:aD}{X:bC}{N:ae}{VX:List aD}{q:Nat}{L:bo}(O:gS R f WH X N fd)(VU:kU VX VQ (dZ X))(x:VQ.length=w)(G:∀b∈V4,b<w)(z:∀(Wm:af) (P:bE) (Wg:List eg) (h:ao) (j:aA) (VD:fV),ep q (P.deeper<|iT WH (dZ X) h.heap.objs.size N Wm)->hR (iS ik VJ y R aB VM VX WH (dZ X) N Wm P Wg h j VD).oS V4 (gX X) L):
  hg VJ y R aB VM ik (q+1) N fd VQ (kj w<|c6 w VX.length V4 L):=by
 refine O.ok VU (λT j D VD e=>e.1.trans x.symm) (λWm P Wg h j T D VD A e=>⟨_,z Wm P Wg h j VD A,?_⟩);let@⟨m,⟨B,k,r,@i,l,ah,a,p⟩⟩:=e;have C:B.length=w:=l.length.trans m;unfold c6 at a;rw[aJ C]at a;have X:=xc (H:=VX.length-w) l;have U:start VX T=T.map Z++replicate (VX.length-w) Y:=by unfold start;rw[m]
 rw[U];have fin:∀{d:a8}{Q:aA}{Wc:List ae}{VW:a5}{u:ar}{VI:List ae},j4 V4 B VW 0=i->c_ V4 (T.map Z++replicate (VX.length-w) Y) d->bD Q VW d Wc->cJ Q r u VI->bk j k Q (Wc++VI)->D u Q:=λ{d Q Wc VW u VI} E Ww g t VE=>by
  let⟨b3,@S,n,F⟩:=ze (V4:=V4) (a:=0) VE.tup l g λv u o s=>by
   rw[I0]at o;rw[Ww.2 v o,pl (by rw[bB];exact (fY.mp s).1),hb,s];rfl
  rw[E]at n;refine p u Q VI b3 t n (VE.less (aG:=S) ?_);rw[bz];exact (en VI F).trans dx
 split at a
 ·rename_i Wz VW c;cases a;exact⟨_,k,.cB r,VW,X,ah,c,λu d Q Wc VI Ww g t VE=>fin rfl Ww g t VE⟩
 ·rename_i VW c;cases a;exact⟨_,k,.aI,VW,X,ah,c,λd Q Wc Ww g VE=>fin rfl Ww g ⟨rfl,rfl⟩ (by rw[cj];exact VE)⟩
 ·cases a
end
def cb(j:aA)(s:ak)(D:cN):Prop:=(∀u Q VI,c8 j Q->cJ Q s u VI->VI.Nodup->(∀g∈VI,j g=Y)->D u Q)
def cb.BF{s:ab}(p:cb j (.im s) D)(h:c8 j Q)(e:cM Q s u):D u Q:=p u Q [] h ⟨e,rfl⟩ mA (λg a=>nomatch a)
def cb.i{j:aA}{s:ab}{D:cN}{u:ar}(p:cb j (.im s) D)(e:cM j s u):D u j:=p.BF (c8.refl j) e
def cb.l{j:aA}{B:List ab}{z:List ar}{D:cN}{o:ae}(p:cb j (.lst B) D)(a:j o=Y)(e:bN j B z):D (.ref o) (upd j o<|.lst z):=by
 have h:c8 j (upd j o<|.lst z):=(c8.refl j).upd a;exact p _ _ [o] h ⟨o,z,rfl,eW,e.mono h.tupS.tup,rfl⟩ (fN _ _) λg b=>by rw[cH.mp b];exact a
def cb.t{j:aA}{B:List ab}{z:List ar}{D:cN}{o:ae}(p:cb j (.im<|.tup B) D)(a:j o=Y)(e:bN j B z):D (.ref o) (upd j o<|.tup z):=by
 have h:c8 j (upd j o<|.tup z):=(c8.refl j).upd a;exact p.BF h ⟨o,z,rfl,eW,e.mono h.tupS.tup⟩
section
variable{a:aK}
def d1.imp{N:af->af->eo af}{r:b3}(e:d1 a N r)(b:∀f t j D,Wz f t j D->r f t j D):d1 a N Wz:=λG h x j f t u J D l c d g=>e G h x j f t u J D l c d (b f t j D g)
def eY.imp{N:af}{r Wz:List ar->aA->cN->Prop}(e:eY a N r)(b:∀z j D,Wz z j D->r z j D):eY a N Wz:=λG h x j z VZ D l c d=>e G h x j z VZ D l c (b z j D d)
def ij.imp{r:b3}(e:ij a r)(b:∀f t j D,Wz f t j D->r f t j D):ij a Wz:=λc d G h x j f t u J D l g i k=>e c d G h x j f t u J D l g i (b f t j D k)
def e6.i{j:aA}{s:ab}{u:ar}(e:e6 j (.im s) u):cM j s u:=e.elim λ_ y=>y.1
end
abbrev fO:=ak->ak->Option ak
@[simp] def jx(aG:Int->Int->Bool)(L:Int->Int->ab):fO:=λg d=>match g,d with
 |.im (.int b),.im (.int v)=>if aG b v=V then Z (.im<|L b v) else Y
 |_,_=>Y
def Ep{aG:Int->Int->Bool}{L:Int->Int->ab}{g d:ak}(e:jx aG L g d=Z s):∃b v,g=.im (.int b)/\d=.im (.int v)/\aG b v=V/\s=.im (L b v):=by
 unfold jx at e;split at e
 ·rename_i b v;split at e
  ·rename_i a;cases e;exact⟨b,v,rfl,rfl,a,rfl⟩
  ·cases e
 ·cases e
section
variable{a:aK}
variable{N:af->af->eo af}{L:Int->Int->ar}{e:Int->Int->ab}
def w2{aG:Int->Int->Prop}{V3:Int->Int->Bool}(m:d1 a N (ql aG L))(d:∀b v,V3 b v=V->aG b v)(g:∀j b v,cM j (e b v)<|L b v):fm a N (jx V3 e):=
 m.imp λf t j D ⟨Wb,Wl,s,h,k,c,p⟩=>by
  let⟨b,@v,rfl,rfl,l,rfl⟩:=Ep c;exact⟨b,v,h.i,k.i,d b v l,cb.i p<|g j b v⟩
def r4(m:d1 a N (mL L))(d:∀j b v,cM j (e b v)<|L b v):fm a N (jx (λ_ W=>V) e):=
 m.imp λf t j D ⟨Wb,Wl,s,g,h,c,p⟩=>by
  let⟨b,@v,rfl,rfl,k,rfl⟩:=Ep c;exact⟨b,v,g.i,h.i,cb.i p<|d j b v⟩
@[simp] def hH:fO:=jx (λ_ W=>V) λb v=>.int (b-v)
def gC(b v:Int):Bool:=(!(decide (bx.Int.intBits b>uX)&&decide (bx.Int.intBits v>uX)&&bx.Int.intTooBig (bx.Int.intBits b+bx.Int.intBits v)))
@[simp] def et:fO:=jx gC λb v=>.int (b*v)
@[simp] def oA:fO:=jx (λ_ v=>decide (0<v/\v<1073741824)) λb v=>.int (b/v)
@[simp] def f3:fO:=jx (λ_ v=>decide (0<v)) λb v=>.int (b%v)
@[simp] def nX:fO:=jx (λb v=>decide (0<=v/\v<=1000000/\b.natAbs<2^64)) λb v=>.int (b^v.toNat)
@[simp] def n1:fO:=jx (λ_ W=>V) λb v=>.aF (decide (b<v))
@[simp] def fc:fO:=jx (λ_ W=>V) λb v=>.aF (decide (b<=v))
@[simp] def qH:fO:=jx (λ_ W=>V) λb v=>.aF (decide (v<b))
@[simp] def Et:fO:=jx (λ_ W=>V) λb v=>.aF (decide (v<=b))
def jB:fm a (gn .Sub) hH:=r4 M7 λ_ W W=>rfl
def hP:fm a (gn .Mult) et:=w2 J1 (λb v e=>by unfold gC at e;unfold IntMulOk;rw[vR]at e;rw[e];exact eu) λ_ W W=>rfl
def Fc:fm a (gn .FloorDiv) oA:=w2 Pc (λb v e=>show 0<v/\v<1073741824 from e9 e) λ_ W W=>rfl
def ma:fm a (gn .Mod) f3:=w2 Tb (λb v e=>e9 e) λ_ W W=>rfl
def wh:fm a (gn .Pow) nX:=w2 Ob (λb v e=>show 0<=v/\v<=1000000/\b.natAbs<2^64 from e9 e) λ_ W W=>rfl
def zj:fm a (ea .Lt) n1:=r4 Q3 λ_ W W=>rfl
def nJ:fm a (ea .LtE) fc:=r4 U6 λ_ W W=>rfl
def PL:fm a (ea .Gt) qH:=r4 MZ λ_ W W=>rfl
def Td:fm a (ea .GtE) Et:=r4 M3 λ_ W W=>rfl
def Ov:d1 a (gn .Add) (λf t j D=>∃g d VR,f=.ref g/\t=.ref d/\cu a.K j g []/\cu a.K j d VR/\D (.ref d) j):=by
 intro G h x j f t u J D l o q e;let⟨g,d,@VR,rfl,rfl,r,s,p⟩:=e;cases o;cases q;let⟨@VP,v,y,W⟩:=l.tuple r;let⟨@E,F,Wo,W⟩:=l.tuple s;have c:VP=[]:=v.wc.mpr rfl;subst c;let⟨@⟨cls,z,data,a6⟩,b,i,⟨@w,hd⟩⟩:=id y;let⟨@⟨H,A,data2,B⟩,k,m,⟨@C,n⟩⟩:=id Wo;simp only at i hd m n;subst i hd m n;exact yA ⟨_,b,rfl⟩ ⟨_,k,rfl⟩ zG Ag AV xn (Ae _ _) (tuple_addW0 g d _ _ w C z A a6 B rfl) ⟨b,k,.ref d,j,l,rfl,p⟩
@[simp] def dp:fO:=λg d=>match g,d with
 |.im (.int b),.im (.int v)=>Z (.im<|.int<|b+v)
 |.im (.tup f),.im (.tup t)=>if f.length+t.length<=100000 then Z (.im<|.tup<|f++t) else Y
 |.lst f,.lst t=>if f.length+t.length<=100000 then Z (.lst<|f++t) else Y
 |.im (.str f),.im (.str t)=>if f.length+t.length<=100000 then Z (.im<|.str<|f++t) else Y
 |_,_=>Y
theorem bN.app:∀{g d:List ab}{f t:List ar},bN j g f->bN j d t->bN j (g++d) (f++t)
 |[],d,f,t,e,q=>by cases (show f=[] from e);exact q
 |s::g,d,f,t,e,q=>by
  let⟨u,@r,rfl,A,C⟩:=e;exact⟨u,r++t,rfl,A,C.app q⟩
def bN.nil{j:aA}{g:List ab}(e:bN j g []):g=[]:=by
 cases g with
 |nil=>rfl
 |cons s g=>let⟨W,@W,c,W⟩:=e;cases c
def fS:fm a (gn .Add) dp:=by
 refine (NN.or<|Ov.or<|Uv.or<|NW.or OG).imp λf t j D x=>?_;let⟨Wb,Wl,@s,n,q,c,p⟩:=x;unfold dp at c;split at c
 ·cases c;exact .inl ⟨_,_,n.i,q.i,cb.i p rfl⟩
 ·rename_i g d;split at c
  ·rename_i h;cases c;let⟨o,@z,rfl,A,C⟩:=n.i;let⟨k,@VR,rfl,m,e⟩:=q.i;refine .inr ?_;by_cases u:z=[]
   ·subst u;cases C.nil;exact .inl ⟨o,k,VR,rfl,rfl,cu.of A,cu.of m,cb.i p ⟨k,VR,rfl,m,e⟩⟩
   ·refine .inr (.inl ⟨o,k,z,VR,rfl,rfl,cu.of A,cu.of m,u,ni (by rw[<-C.length,<-e.length];exact h),λv=>?_,λv w r=>cb.t p r<|C.app e⟩);subst v;cases e.nil;rw[cj]at p;exact cb.i p ⟨o,z,rfl,A,C⟩
  ·cases c
 ·rename_i g d;split at c
  ·rename_i h;cases c;let⟨W,o,@z,rfl,A,C,W⟩:=n;let⟨W,k,@VR,rfl,m,e,W⟩:=q;exact .inr (.inr (.inr (.inl ⟨o,k,z,VR,rfl,rfl,A,m,ni (by rw[<-C.length,<-e.length];exact h),λw r=>cb.l p r<|C.app e⟩)))
  ·cases c
 ·rename_i g d;split at c
  ·rename_i h;cases c;exact .inr (.inr<|.inr<|.inr ⟨g,d,n.i,q.i,ni h,cb.i p rfl⟩)
  ·cases c
 ·cases c
def R3(w:Nat){P:bE}{f t:ab}{J u:af}(k:ab.bA w f=V)(bg:ab.bA w t=V)(R:P.units+w+2<b9)(l:dB h.heap f J)(a:dB h.heap t u):SeqAt.RcAt P h J u (cz f t):=by
 cases f with
 |aS=>
  cases (show J=.none from l);cases t with
  |aS=>cases (show u=.none from a);exact K8
  |aF d=>cases (show u=.bool d from a);exact OQ d
  |int v=>let⟨@I,rfl⟩:=a;exact JT v I
  |str i=>let⟨@I,rfl⟩:=a;exact Th i I
  |tup B=>let⟨g,m,V9,@H,rfl,A,C,j,W⟩:=a;exact O6 ⟨m,A,C,H,j⟩ ⋯
  |fn g=>cases w<;>cases bg
  |a3 g=>cases w<;>cases bg
  |fd=>cases w<;>cases bg
 |aF d=>
  cases (show J=.bool d from l);cases t with
  |aS=>cases (show u=.none from a);exact Lm d
  |aF n=>cases (show u=.bool n from a);exact Ke d n
  |int v=>let⟨@I,rfl⟩:=a;exact Lb d v I
  |str i=>let⟨@I,rfl⟩:=a;exact NT d i I
  |tup B=>let⟨g,m,V9,@H,rfl,A,C,j,W⟩:=a;exact SE d ⟨m,A,C,H,j⟩ ⋯
  |fn g=>cases w<;>cases bg
  |a3 g=>cases w<;>cases bg
  |fd=>cases w<;>cases bg
 |int b=>
  let⟨@e,rfl⟩:=l;cases t with
  |aS=>cases (show u=.none from a);exact OY b e
  |aF n=>cases (show u=.bool n from a);exact O0 b e n
  |int v=>let⟨@I,rfl⟩:=a;exact MJ b e v I
  |str i=>let⟨@I,rfl⟩:=a;exact TP b e i I
  |tup B=>let⟨g,m,V9,@H,rfl,A,C,j,W⟩:=a;exact LC b e ⟨m,A,C,H,j⟩ ⋯
  |fn g=>cases w<;>cases bg
  |a3 g=>cases w<;>cases bg
  |fd=>cases w<;>cases bg
 |str b=>
  let⟨@e,rfl⟩:=l;cases t with
  |aS=>cases (show u=.none from a);exact Rx b e
  |aF n=>cases (show u=.bool n from a);exact Pd b e n
  |int v=>let⟨@I,rfl⟩:=a;exact R0 b e v I
  |str i=>let⟨@I,rfl⟩:=a;exact P5 b e i I
  |tup B=>let⟨g,m,V9,@H,rfl,A,C,j,W⟩:=a;exact Sv b e ⟨m,A,C,H,j⟩ ⋯
  |fn g=>cases w<;>cases bg
  |a3 g=>cases w<;>cases bg
  |fd=>cases w<;>cases bg
 |fn g=>cases w<;>cases k
 |a3 g=>cases w<;>cases k
 |fd=>cases w<;>cases k
 |tup B=>
  cases w with
  |zero=>cases k
  |succ w=>
  let⟨g,m,V9,@H,rfl,A,C,j,q⟩:=l;have Wu:h.heap.IsTuple g V9:=⟨m,A,C,H,j⟩;cases t with
  |aS=>cases (show u=.none from a);exact Mk Wu ⋯
  |aF n=>cases (show u=.bool n from a);exact UC n Wu ⋯
  |int v=>let⟨@I,rfl⟩:=a;exact JI v I Wu ⋯
  |str i=>let⟨@I,rfl⟩:=a;exact KV i I Wu ⋯
  |fn g=>cases bg
  |a3 g=>cases bg
  |fd=>cases bg
  |tup U=>
   let⟨d,Wj,o,@D,rfl,E,F,G,r⟩:=a;have a_:h.heap.IsTuple d o:=⟨Wj,E,F,D,G⟩;have s:=q.length;have x:=r.length;have L:V9.toList.length=V9.size:=by simp
   have M:o.toList.length=o.size:=by simp
   rw[L]at s;rw[M]at x;have p:=Ga (A:=P) (e:=λv=>cz (B.getD v .aS)<|U.getD v .aS) Wu a_ ⋯ λv bK N=>by
    let⟨@Wb,y,O⟩:=q.get (v:=v) (u:=V9[v]) (by rw[hq];simp[bK]);let⟨@Wl,z,Q⟩:=r.get (v:=v) (u:=o[v]) (by rw[hq];simp[N]);rw[cR,y,cR,z];exact iP w (kF k y) (kF bg z) (by show P.units+1+w+1<b9;lia) O Q
   rw[<-s,<-x,sN (B:=B) (U:=U) (λv f t g d=>by rw[cR,g,cR,d];rfl)]at p;rw[cz];exact p
@[simp] def eN:fO:=λg d=>match g,d with
 |.im f,.im t=>if (ab.bA 8 f&&ab.bA 8 t)=V then Z (.im<|.aF<|cz f t) else Y
 |.lst f,.lst t=>if (ab.cO 8 f&&ab.cO 8 t)=V then Z (.im<|.aF<|fg f t) else Y
 |_,_=>Y
theorem zh:∀{f t:List ab},f.length≠t.length->fg f t=aq
 |[],[],e=>absurd rfl e
 |[],_::_,_=>rfl
 |_::_,[],_=>rfl
 |g::f,d::t,e=>by
  rw[fg,zh (λc=>e (by rw[dV,dV,c])),F0]
def qw{G:List (ae×bc)}(l:aH a G x j h){g:ae}{z:List ar}{B:List ab}(A:j g=Z (.lst z))(C:bN j B z):∃VP:List af,h.heap.IsList g VP.toArray/\eb h.heap B VP/\VP.length=B.length:=by
 let@⟨i,⟨VP,@w,b,c⟩⟩:=l.aX g _ A;have:=C.e8 l.aX b;exact⟨VP,⟨_,c,rfl,w,rfl⟩,this,this.length.symm⟩
def kE(ap:a.A.units+20<b9):fm a (ea .Eq) eN:=by
 intro G h x j f t u J D l r E Q;let⟨Wb,Wl,@s,k,m,c,p⟩:=Q;unfold eN at c;split at c
 ·rename_i g d;split at c
  ·rename_i e;cases c;rw[cV]at e;exact R3 8 e.1 e.2 ⋯ (k.i.e8 l.aX r) (m.i.e8 l.aX E) a.prog a.w _ _ ⟨.aF _,j,l,rfl,cb.i p rfl⟩
  ·cases c
 ·rename_i g d;split at c
  ·rename_i e;cases c;rw[cV]at e;let⟨W,o,@z,rfl,A,C,W⟩:=k;let⟨W,as,@VR,rfl,R,S,W⟩:=m;cases r;cases E;let⟨@T,F,al,q⟩:=qw l A C;let⟨@am,H,an,I⟩:=qw l R S;by_cases n:g.length=d.length
   ·have:=MA (A:=a.A) (e:=λv=>cz (g.getD v .aS)<|d.getD v .aS) F H (by rw[cX,cX,q,I];exact n) ⋯ λv bK L=>by
     let⟨@Wb,M,k⟩:=al.get (v:=v) (u:=T.toArray[v]) (by simp at bK;simp[bK]);let⟨@Wl,N,m⟩:=an.get (v:=v) (u:=am.toArray[v]) (by simp at L;simp[L]);rw[cR,M,cR,N];exact iP 8 (kF e.1 M) (kF e.2 N) (by show a.A.units+1+8+1<b9;lia) k m
    refine this a.prog a.w _ _ ⟨.aF _,j,l,rfl,?_⟩;have O:=sN (B:=g) (U:=d) (c:=λv=>cz (g.getD v .aS)<|d.getD v .aS) (λv f t g d=>by rw[cR,g,cR,d];rfl);rw[<-n,Fs,lh,AD]at O;rw[cX,q,O];exact cb.i p rfl
   ·refine R1 (A:=a.A) F H (by rw[cX,cX,q,I];simpa using n) ⋯ a.prog a.w _ _ ⟨.aF _,j,l,rfl,?_⟩;rw[zh n]at p;exact cb.i p rfl
  ·cases c
 ·cases c
end
section
variable{a:aK}
def Lu(w:Nat){P:bE}{f t:ab}{J u:af}(k:ab.bA w f=V)(bg:ab.bA w t=V)(R:P.units+w+2<b9)(l:dB h.heap f J)(a:dB h.heap t u):SeqAt.RcNeAt P h J u (!cz f t):=by
 cases f with
 |aS=>
  cases (show J=.none from l);cases t with
  |aS=>cases (show u=.none from a);exact O7
  |aF d=>cases (show u=.bool d from a);exact T3 d
  |int v=>let⟨@I,rfl⟩:=a;exact Kx v I
  |str i=>let⟨@I,rfl⟩:=a;exact OE i I
  |tup B=>let⟨g,m,V9,@H,rfl,A,C,j,W⟩:=a;exact Sl ⟨m,A,C,H,j⟩ ⋯
  |fn g=>cases w<;>cases bg
  |a3 g=>cases w<;>cases bg
  |fd=>cases w<;>cases bg
 |aF d=>
  cases (show J=.bool d from l);cases t with
  |aS=>cases (show u=.none from a);exact OO d
  |aF n=>cases (show u=.bool n from a);exact J3 d n
  |int v=>let⟨@I,rfl⟩:=a;exact Qp d v I
  |str i=>let⟨@I,rfl⟩:=a;exact SO d i I
  |tup B=>let⟨g,m,V9,@H,rfl,A,C,j,W⟩:=a;exact L0 d ⟨m,A,C,H,j⟩ ⋯
  |fn g=>cases w<;>cases bg
  |a3 g=>cases w<;>cases bg
  |fd=>cases w<;>cases bg
 |int b=>
  let⟨@e,rfl⟩:=l;cases t with
  |aS=>cases (show u=.none from a);exact Nh b e
  |aF n=>cases (show u=.bool n from a);exact RA b e n
  |int v=>let⟨@I,rfl⟩:=a;exact NZ b e v I
  |str i=>let⟨@I,rfl⟩:=a;exact Rm b e i I
  |tup B=>let⟨g,m,V9,@H,rfl,A,C,j,W⟩:=a;exact OK b e ⟨m,A,C,H,j⟩ ⋯
  |fn g=>cases w<;>cases bg
  |a3 g=>cases w<;>cases bg
  |fd=>cases w<;>cases bg
 |str b=>
  let⟨@e,rfl⟩:=l;cases t with
  |aS=>cases (show u=.none from a);exact LY b e
  |aF n=>cases (show u=.bool n from a);exact Ln b e n
  |int v=>let⟨@I,rfl⟩:=a;exact Kp b e v I
  |str i=>let⟨@I,rfl⟩:=a;exact QC b e i I
  |tup B=>let⟨g,m,V9,@H,rfl,A,C,j,W⟩:=a;exact SK b e ⟨m,A,C,H,j⟩ ⋯
  |fn g=>cases w<;>cases bg
  |a3 g=>cases w<;>cases bg
  |fd=>cases w<;>cases bg
 |fn g=>cases w<;>cases k
 |a3 g=>cases w<;>cases k
 |fd=>cases w<;>cases k
 |tup B=>
  cases w with
  |zero=>cases k
  |succ w=>
  let⟨g,m,V9,@H,rfl,A,C,j,q⟩:=l;have Wu:h.heap.IsTuple g V9:=⟨m,A,C,H,j⟩;cases t with
  |aS=>cases (show u=.none from a);exact So Wu ⋯
  |aF n=>cases (show u=.bool n from a);exact JS n Wu ⋯
  |int v=>let⟨@I,rfl⟩:=a;exact K9 v I Wu ⋯
  |str i=>let⟨@I,rfl⟩:=a;exact PS i I Wu ⋯
  |fn g=>cases bg
  |a3 g=>cases bg
  |fd=>cases bg
  |tup U=>
   let⟨d,Wj,o,@D,rfl,E,F,G,r⟩:=a;have a_:h.heap.IsTuple d o:=⟨Wj,E,F,D,G⟩;have s:=q.length;have x:=r.length;have L:V9.toList.length=V9.size:=by simp
   have M:o.toList.length=o.size:=by simp
   rw[L]at s;rw[M]at x;have p:=QY (A:=P) (e:=λv=>cz (B.getD v .aS)<|U.getD v .aS) Wu a_ ⋯ λv bK N=>by
    let⟨@Wb,y,O⟩:=q.get (v:=v) (u:=V9[v]) (by rw[hq];simp[bK]);let⟨@Wl,z,Q⟩:=r.get (v:=v) (u:=o[v]) (by rw[hq];simp[N]);rw[cR,y,cR,z];exact iP w (kF k y) (kF bg z) (by show P.units+1+w+1<b9;lia) O Q
   rw[<-s,<-x,sN (B:=B) (U:=U) (λv f t g d=>by rw[cR,g,cR,d];rfl)]at p;rw[cz];exact p
@[simp] def gj:fO:=λg d=>match g,d with
 |.im f,.im t=>if (ab.bA 8 f&&ab.bA 8 t)=V then Z (.im<|.aF<|!cz f t) else Y
 |.lst f,.lst t=>if (ab.cO 8 f&&ab.cO 8 t)=V then Z (.im<|.aF<|!fg f t) else Y
 |_,_=>Y
def nE(ap:a.A.units+20<b9):fm a (ea .NotEq) gj:=by
 intro G h x j f t u J D l r E Q;let⟨Wb,Wl,@s,k,m,c,p⟩:=Q;unfold gj at c;split at c
 ·rename_i g d;split at c
  ·rename_i e;cases c;rw[cV]at e;exact Lu 8 e.1 e.2 ⋯ (k.i.e8 l.aX r) (m.i.e8 l.aX E) a.prog a.w _ _ ⟨.aF _,j,l,rfl,cb.i p rfl⟩
  ·cases c
 ·rename_i g d;split at c
  ·rename_i e;cases c;rw[cV]at e;let⟨W,o,@z,rfl,A,C,W⟩:=k;let⟨W,as,@VR,rfl,R,S,W⟩:=m;cases r;cases E;let⟨@T,F,al,q⟩:=qw l A C;let⟨@am,H,an,I⟩:=qw l R S;by_cases n:g.length=d.length
   ·have:=Sr (A:=a.A) (e:=λv=>cz (g.getD v .aS)<|d.getD v .aS) F H (by rw[cX,cX,q,I];exact n) ⋯ λv bK L=>by
     let⟨@Wb,M,k⟩:=al.get (v:=v) (u:=T.toArray[v]) (by simp at bK;simp[bK]);let⟨@Wl,N,m⟩:=an.get (v:=v) (u:=am.toArray[v]) (by simp at L;simp[L]);rw[cR,M,cR,N];exact iP 8 (kF e.1 M) (kF e.2 N) (by show a.A.units+1+8+1<b9;lia) k m
    refine this a.prog a.w _ _ ⟨.aF _,j,l,rfl,?_⟩;have O:=sN (B:=g) (U:=d) (c:=λv=>cz (g.getD v .aS)<|d.getD v .aS) (λv f t g d=>by rw[cR,g,cR,d];rfl);rw[<-n,Fs,lh,AD]at O;rw[cX,q,O];exact cb.i p rfl
   ·refine PC (A:=a.A) F H (by rw[cX,cX,q,I];simpa using n) ⋯ a.prog a.w _ _ ⟨.aF _,j,l,rfl,?_⟩;rw[zh n]at p;exact cb.i p rfl
  ·cases c
 ·cases c
@[simp] def wN(w:Bool):fO:=λg d=>match g,d with
 |.im f,.im .aS=>Z (.im<|.aF<|w != decide (f=.aS))
 |.im (.aF f),.im (.aF t)=>Z (.im<|.aF<|w != (f==t))
 |_,_=>Y
def Mm{s:ab}(e:cM j s u):decide (u=.aS)=decide (s=.aS):=by
 cases s with
 |aS=>cases (show u=.aS from e);rfl
 |aF d=>cases (show u=.aF d from e);rfl
 |int d=>cases (show u=.int d from e);rfl
 |str d=>cases (show u=.str d from e);rfl
 |fn d=>cases (show u=.ref d from e);rfl
 |tup B=>let⟨g,@z,rfl,W⟩:=e;rfl
 |a3 B=>let⟨g,z,@m,rfl,W⟩:=e;rfl
 |fd=>let⟨g,@m,rfl,W⟩:=e;rfl
def Ny:d1 a (ea .IsNot) (λf t j D=>∃g d,f=.aF g/\t=.aF d/\D (.aF<|!(g==d)) j):=by
 intro G h x j f t u J D l b c e;let⟨g,@d,i,k,p⟩:=e;subst i k;cases b;cases c;refine wpAny_isNot_plain (by cases g<;>cases d<;>rfl) ⟨.aF<|!(g==d),j,l,?_,p⟩;cases g<;>cases d<;>rfl
def Ku:fm a (ea .IsNot) (wN V):=by
 refine (UL.or Ny).imp λf t j D h=>?_;let⟨Wb,Wl,@s,d,e,c,p⟩:=h;unfold wN at c;split at c
 ·rename_i g;cases c;refine .inl ⟨e.i,?_⟩;rw[Mm d.i];refine cb.i p ?_;show _=_;rw[D3]
 ·cases c;refine .inr ⟨_,_,d.i,e.i,cb.i p ?_⟩;show _=_;rw[D3]
 ·cases c
def eZ{V6:Type}[DecidableEq V6](VS:List (V6×ab))(q:V6):Option ab:=((VS.find? λo=>decide (o.1=q)).map (·.2))
theorem pg{V6:Type}[DecidableEq V6]{j:aA}{q:V6}:∀{VS:List (V6×ab)}{WK:List (V6×ar)},e3 j VS WK->(∀s,eZ VS q=Z s->∃u,iB WK q=Z u/\cM j s u)/\(eZ VS q=Y->iB WK q=Y)
 |_,_,.nil=>⟨(λs c=>by cases c),(λ_=>rfl)⟩
 |_,_,.cons (a:=o) (b:=p) e I=>by
  let@⟨A,C⟩:=pg (q:=q) I;by_cases c:o.1=q
  ·have a:p.1=q:=e.1.symm.trans c;refine⟨λs hd=>?_,λb=>?_⟩
   ·have:∀r,eZ (o::r) q=Z o.2:=λr=>by simp[eZ,jb,c]
    rw[this]at hd;cases hd;exact⟨p.2,uJ a,e.2⟩
   ·have:∀r,eZ (o::r) q=Z o.2:=λr=>by simp[eZ,jb,c]
    rw[this]at b;cases b
  ·have a:¬ p.1=q:=λi=>c (e.1.trans i);have:∀r,eZ (o::r) q=eZ r q:=λr=>by simp[eZ,jb,c]
   rw[this,ub a];exact⟨A,C⟩
@[simp] def a9:fO:=λg d=>match g,d with
 |.im (.tup B),.im (.int b)=>(e5 B b).map .im
 |.lst B,.im (.int b)=>(e5 B b).map .im
 |.dE B,.im (.int b)=>(e5 B b).map .im
 |.aR VS,.im (.tup q)=>if ab.keys 7 q=V then (eZ VS q).map .im else Y
 |.dR VS,.im (.int b)=>(eZ VS<|.inl b).map .im
 |.dR VS,.im (.str b)=>(eZ VS<|.inr b).map .im
 |.ou VS,.im (.tup q)=>if ab.keys 7 q=V then (eZ VS q).map .im else Y
 |_,_=>Y
def Pl(b:a.A.units+20<b9):ij a (λf t j D=>∃g u,f=.ref g/\g7 j g t (Z u)/\D u j):=by
 intro E n G h x j f t u J D l d e ⟨g,i,c,L,p⟩ VN;subst c;cases d;exact yF (M0 l L) Jw.lookup (Rf b l L e λo q k m=>⟨i,j,k,m,p⟩) VN
def vg{b:Int}{s:ab}(e:bN j B z)(c:e5 B b=Z s):∃u,e5 z b=Z u/\cM j s u:=by
 unfold e5 at c ⊢;rw[<-e.length];let⟨@v,a,d⟩:=bM.mp c;let⟨@u,f,g⟩:=e.get d;exact⟨u,by rw[a];exact f,g⟩
def G4(y:a.A.units+20<b9):ij a (λf t j D=>∃Wb Wl s,e6 j Wb f/\e6 j Wl t/\a9 Wb Wl=Z s/\∀u Q VI,c8 j Q->cJ Q s u VI->VI.Nodup->(∀g∈VI,j g=Y)->D u Q):=by
 refine (Na.or<|H_.or<|Pl y).imp λf t j D B=>?_;let⟨Wb,Wl,@s,v,w,c,p⟩:=B;unfold a9 at c;split at c
 ·let⟨@r,e,h⟩:=cv.mp c;cases h;let⟨o,@z,rfl,A,C⟩:=v.i;let⟨@u,l,n⟩:=vg C e;exact .inr (.inl ⟨o,z,_,u,rfl,w.i,cu.of A,l,cb.i p n⟩)
 ·let⟨@r,e,h⟩:=cv.mp c;cases h;let⟨W,o,@z,rfl,A,C,W⟩:=v;let⟨@u,l,n⟩:=vg C e;exact .inl ⟨o,z,_,u,rfl,w.i,dv.of A,l,cb.i p n⟩
 ·let⟨@r,e,h⟩:=cv.mp c;cases h;let⟨W,o,z,@m,rfl,A,C,W⟩:=v;let⟨@u,l,n⟩:=vg C e;exact .inl ⟨o,z,_,u,rfl,w.i,.inl<|.inr ⟨m,A⟩,l,cb.i p n⟩
 ·rename_i VS q;split at c
  ·rename_i x;let⟨@r,e,h⟩:=cv.mp c;cases h;let⟨W,o,@WK,rfl,A,C,W⟩:=v;let⟨@u,l,n⟩:=(pg C).1 r e;let⟨d,@z,rfl,V8,Wd⟩:=w.i;exact .inr (.inr ⟨o,u,rfl,by rw[<-l];exact g7.t A ⟨x,d,z,rfl,V8,Wd⟩,cb.i p n⟩)
  ·cases c
 ·rename_i VS b;let⟨@r,e,h⟩:=cv.mp c;cases h;let⟨W,o,@WK,rfl,A,C,W⟩:=v;let⟨@u,l,n⟩:=(pg C).1 r e;refine .inr (.inr ⟨o,u,rfl,?_,cb.i p n⟩);rw[show t=cT (.inl b) from w.i,<-l];exact g7.k A
 ·rename_i VS b;let⟨@r,e,h⟩:=cv.mp c;cases h;let⟨W,o,@WK,rfl,A,C,W⟩:=v;let⟨@u,l,n⟩:=(pg C).1 r e;refine .inr (.inr ⟨o,u,rfl,?_,cb.i p n⟩);rw[show t=cT (.inr b) from w.i,<-l];exact g7.k A
 ·rename_i VS q;split at c
  ·rename_i x;let⟨@r,e,h⟩:=cv.mp c;cases h;let⟨W,o,WK,@WA,rfl,A,C,W⟩:=v;let⟨@u,l,n⟩:=(pg C).1 r e;let⟨d,@z,rfl,V8,Wd⟩:=w.i;exact .inr (.inr ⟨o,u,rfl,.inr ⟨WK,q,d,.inr ⟨WA,A⟩,rfl,⟨x,d,z,rfl,V8,Wd⟩,l.symm⟩,cb.i p n⟩)
  ·cases c
 ·cases c
end
end L2
namespace dz
open Spec PyProof.Rows
section
variable{VO:bF}{y:bj}{P:bE}{VD:af->ao->Prop}{h:ao}
def TZ{I a6:ae}{VP:Array af}{cA i:af}{E VF:Option Int}{D:af->ao->Prop}(o:o9 h.heap I VP)(VN:h.heap.IsSliceOf a6 cA i .none)(bA:lD cA E)(a:lD i VF)(WE:cy VP.size 0 E=0)(A:cy VP.size VP.size VF=VP.size)(p:D (.ref I) h):wpAny (aW VO y) P (nT (.ref I)<|.ref a6) D VD h:=by
 let⟨@VV,b,c,hd⟩:=id VN;have ty:h.TypeIs (.ref a6) "slice" := ⟨VV,b,c⟩;unfold nT;try with_reducible refine h1 ?_
 first|refine ax (ba ?_)|skip
 refine ax (Bu o.typeIs ∅ ?_);refine ax (kz (name:=aD.ofString "__getitem__") o.typeIs qU<|iW qU o.typeIs Jb ?_<|Cz _ _);show wpAny _ _ (bx.Tuple.tupleItemsOf (.ref I) >>= _) _ _ h;refine ax (Gz o ?_);refine ax (rN ty ?_);rw[aJ ∅];refine ax (Dl VN bA a ?_);rw[WE,A];show wpAny _ _ (if (((0:Nat):Int)==0&&(1:Int)==1&&(VP.size-0)==VP.size)=V then _ else _) _ _ h;rw[aJ ↥0];refine ax (m:=bx.Tuple.tupleIsExact _) (ax<|rN o.typeIs<|ba ?_);show wpAny _ _ (if (af.type "tuple" == af.type "tuple")=V then _ else _) _ _ h;rw[aJ ∅];exact ax (iu<|ba ⟨_,rfl,ba p⟩)
end
end dz
namespace L2
open Spec PyProof.Rows
section
variable{a:aK}
@[simp] def lb(L:aC ak):aC ak:=λk=>(L k).bind λo=>match o.1 with
 |.im (.int b)=>Z (.im<|.int<|-b,o.2)
 |_=>Y
variable{L:aC ak}{VT:Pos}
def vK{g:bt}(e:cw a g L):cw a (.UnaryOp .USub g VT) (lb L):=by
 refine eC (Le Uk e) λx j D c=>?_;let⟨k,O,r,@VW,X,ah,d,p⟩:=c;let⟨@⟨f,VK⟩,A,C⟩:=bM.mp d;refine⟨k,O,f,VK,X,ah,A,λu VL VY VI h i l=>?_⟩;dsimp only at C;split at C
 ·rename_i b;cases C;exact⟨b,i.1,p _ VL VY [] h ⟨rfl,rfl⟩ (by rw[cj];exact l.both)⟩
 ·cases C
def Oy(L:aC (Option Int)):bQ:=(λx j D=>∃k O M VW,bD j k x O/\O.Nodup/\L k=Z (M,VW)/\∀Q Wc,bD Q VW x Wc->bk j O Q Wc->D M Q)
def ug(a:aK)(c:Option bt)(L:aC (Option Int)):Prop:=(∀ ⦃o⦄,A9 a c (Oy L) o)
def CA{c:Option bt}{I We:bQ}(e:qd a c I)(b:∀x j D,We x j D->I x j D):qd a c We:=λG h x j D l d=>e G h x j D l (b x j D d)
def jl:aC (Option Int):=(λk=>Z (Y,k))
@[simp] def jL(L:aC ak):aC (Option Int):=λk=>(L k).bind λo=>match o.1 with
 |.im (.int b)=>Z (Z b,o.2)
 |_=>Y
def oo:ug a Y jl:=by
 refine CA K7 λx j D b=>?_;let⟨k,O,r,@VW,X,ah,c,p⟩:=b;cases c;exact p j O X (bk.perm ah<|List.Perm.refl _)
variable{c:bt}
def n8(e:cw a c L):ug a (Z c) (jL L):=by
 refine CA (Mh e) λx j D d=>?_;let⟨k,O,r,@VW,X,ah,g,p⟩:=d;let⟨@⟨f,VK⟩,A,C⟩:=bM.mp g;refine⟨k,O,f,VK,X,ah,A,λu VL VY VI h i l=>?_⟩;dsimp only at C;split at C
 ·rename_i b;cases C;exact⟨b,i.1,p VL VY h l.both⟩
 ·cases C
def gh{V7:Type}(z:List V7)(E VF:Option Int):List V7:=((z.drop<|dz.cy z.length 0 E).take (dz.cy z.length z.length VF-dz.cy z.length 0 E))
variable{j:aA}
theorem bN.drop:∀{B:List ab}{z:List ar} (w:Nat),bN j B z->bN j (B.drop w) (z.drop w)
 |B,z,0,e=>e
 |[],z,w+1,e=>by cases (show z=[] from e);exact rfl
 |s::B,z,w+1,e=>by
  let⟨u,@r,rfl,A,C⟩:=e;exact C.drop w
theorem bN.take:∀{B:List ab}{z:List ar} (w:Nat),bN j B z->bN j (B.take w) (z.take w)
 |B,z,0,e=>rfl
 |[],z,w+1,e=>by cases (show z=[] from e);exact rfl
 |s::B,z,w+1,e=>by
  let⟨u,@r,rfl,A,C⟩:=e;exact⟨u,_,rfl,A,C.take w⟩
def bN.cut{B:List ab}{z:List ar}(E VF:Option Int)(e:bN j B z):bN j (gh B E VF) (nY z E VF):=by
 unfold gh nY;rw[e.length];exact (e.drop _).take _
@[simp] def kH(s:ak)(E VF:Option Int):Option ak:=match s with
 |.im (.tup B)=>Z (.im<|.tup<|gh B E VF)
 |.lst B=>Z (.lst<|gh B E VF)
 |.dE B=>Z (.lst<|gh B E VF)
 |_=>Y
def R8(R:Φ):ar->Option Int->Option Int->aA->cN->Prop:=(λf E VF j D=>∃g z,f=.ref g/\cu R j g z/\dz.cy z.length 0 E=0/\dz.cy z.length z.length VF=z.length/\D (.ref g) j)
def Tf:tm a (λf E VF j D=>∃s r,e6 j s f/\kH s E VF=Z r/\cb j r D):=by
 have all:tm a (R8 a.K):=by
  intro G h x j f u cA i E VF a6 D l d VN bA k e;let⟨g,@z,rfl,H,WE,A,p⟩:=e;cases d;let⟨@VP,r,y,L⟩:=l.tuple H;have F:VP.toArray.size=z.length:=by rw[cX];exact r.length.symm
  exact⟨"tuple",_,qU.lookup,y.typeIs,dz.TZ y VN bA k (by rw[F];exact WE) (by rw[F];exact A) ⟨.ref g,j,l,rfl,p⟩⟩
 intro G h x j f u cA i E VF a6 D l d VN bA k J;let⟨s,@r,v,c,p⟩:=J;unfold kH at c;split at c
 ·rename_i B;cases c;let⟨o,@z,rfl,A,C⟩:=v.i;by_cases n:dz.cy z.length 0 E=0/\dz.cy z.length z.length VF=z.length
  ·refine all G h x j _ u cA i E VF a6 D l d VN bA k ⟨o,z,rfl,cu.of A,n.1,n.2,cb.i p ⟨o,z,rfl,A,?_⟩⟩;have:gh B E VF=B:=by
    unfold gh;rw[C.length,n.1,n.2,mC,AI,<-C.length,qO]
   rw[this];exact C
  ·exact Ta G h x j _ u cA i E VF a6 D l d VN bA k ⟨o,z,rfl,cu.of A,n,λw q=>cb.t p q<|C.cut E VF⟩
 ·cases c;let⟨W,o,@z,rfl,A,C,W⟩:=v;exact Gg G h x j _ u cA i E VF a6 D l d VN bA k ⟨o,z,rfl,dv.of A,λw q=>cb.l p q<|C.cut E VF⟩
 ·cases c;let⟨W,o,z,@m,rfl,A,C,W⟩:=v;exact Gg G h x j _ u cA i E VF a6 D l d VN bA k ⟨o,z,rfl,.inl<|.inr ⟨m,A⟩,λw q=>cb.l p q<|C.cut E VF⟩
 ·cases c
@[simp] def iE(L:aC bI)(M e:aC (Option Int)):aC ak:=λk=>(L k).bind λo=>(M o.2).bind λp=>(e p.2).bind λr=>(cY r.2 o.1).bind λs=>(kH s p.1 r.1).map λa=>(a,r.2)
def oQ{E VF:Option bt}{L:aC bI}{l n:aC (Option Int)}{Wo:Pos}(q:dC a c L)(t:ug a E l)(v:ug a VF n):cw a (.Subscript c (.Slice E VF Y Wo) VT) (iE L l n):=by
 refine eC (Md Tf q t v) λx j D w=>?_;let⟨k,O,r,@VW,X,ah,z,p⟩:=w;let⟨@⟨f,VK⟩,A,C⟩:=bM.mp z;let⟨@⟨M,Wf⟩,B,G⟩:=bM.mp C;let⟨@⟨J,F⟩,H,I⟩:=bM.mp G;let⟨@s,N,P⟩:=bM.mp I;let⟨@bm,Q,R⟩:=cv.mp P;cases R;refine⟨k,O,f,VK,X,ah,A,λu VL VY VI S V5 b=>⟨VK,VY,M,Wf,S,(dt.mp b.ah).1,B,λV0 V_ T o=>⟨Wf,V_,J,F,T,o.ah,H,λU al d am=>?_⟩⟩⟩;have h:=o.seq am;have an:i4 U x f u VI:=V5.mono h.tup λg ap m c=>h.keep g m c λe=>(dt.mp b.ah).2.2 g e g ap rfl;have as:=b.trans h V5.chg;exact⟨s,_,an.read d N,Q,λy a1 a2 i bd be bi=>p y a1 al a2 (d.mono i.tupS λg W m c=>i g m c) bd<|as.new i be bi d.chg⟩
abbrev hE:=List ak->Option ak
@[simp] def eO:hE:=λB=>match B with
 |[.im (.tup f)]=>Z (.im<|.int f.length)
 |[.lst f]=>Z (.im<|.int f.length)
 |[.dE f]=>Z (.im<|.int f.length)
 |[.hs f]=>Z (.im<|.int f.length)
 |[.dR f]=>Z (.im<|.int f.length)
 |[.im (.str f)]=>if f.length<=100000 then Z (.im<|.int f.length) else Y
 |_=>Y
variable{T:List ar}
def gv{s:ak}(e:nM j [s] T):∃u,T=[u]/\e6 j s u:=by
 let⟨u,@r,rfl,A,C⟩:=e;cases (show r=[] from C);exact⟨u,rfl,A⟩
def Ic{s c:ak}(e:nM j [s,c] T):∃u J,T=[u,J]/\e6 j s u/\e6 j c J:=by
 let⟨u,@r,rfl,A,C⟩:=e;let⟨@J,rfl,a⟩:=gv C;exact⟨u,J,rfl,A,a⟩
def e3.length{V6:Type}{M:List (V6×ab)}{H:List (V6×ar)}(e:e3 j M H):M.length=H.length:=eA.length e
def iI:g5 a (.builtin "len") eO:=by
 refine (TM.or<|PA.or RZ).imp λz j D f=>?_;let⟨B,@s,d,c,p⟩:=f;unfold eO at c;split at c
 ·cases c;let⟨@u,rfl,e⟩:=gv d;let⟨o,@z,rfl,A,C⟩:=e.i;exact .inl ⟨o,z,rfl,.inr<|cu.of A,by rw[<-C.length];exact cb.i p rfl⟩
 ·cases c;let⟨@u,rfl,⟨W,o,@z,rfl,A,C,W⟩⟩:=gv d;exact .inl ⟨o,z,rfl,.inl<|dv.of A,by rw[<-C.length];exact cb.i p rfl⟩
 ·cases c;let⟨@u,rfl,⟨W,o,z,@m,rfl,A,C,W⟩⟩:=gv d;exact .inl ⟨o,z,rfl,.inl<|.inl<|.inr ⟨m,A⟩,by rw[<-C.length];exact cb.i p rfl⟩
 ·cases c;let⟨@u,rfl,⟨W,o,z,@S,rfl,A,C,W⟩⟩:=gv d;exact .inl ⟨o,z,rfl,.inl<|dv.of A,by rw[<-C.length];exact cb.i p rfl⟩
 ·cases c;let⟨@u,rfl,⟨W,o,@WK,rfl,A,C,W⟩⟩:=gv d;exact .inr (.inr ⟨o,WK,rfl,A,by rw[<-C.length];exact cb.i p rfl⟩)
 ·split at c
  ·rename_i g;cases c;let⟨@u,rfl,e⟩:=gv d;cases (show u=_ from e.i);exact .inr (.inl ⟨_,rfl,ni g,cb.i p rfl⟩)
  ·cases c
 ·cases c
@[simp] def iH:hE:=λB=>match B with
 |[s]=>(gG s).map λf=>.im (.tup f)
 |_=>Y
@[simp] def Ai:hE:=λB=>match B with
 |[s]=>(gG s).map .lst
 |_=>Y
def k0:g5 a (.type "tuple") iH:=by
 refine Ti.imp λz j D h=>?_;let⟨B,@s,k,c,p⟩:=h;unfold iH at c;split at c
 ·let⟨@f,d,l⟩:=cv.mp c;cases l;let⟨@u,rfl,e⟩:=gv k;unfold gG at d;split at d
  ·cases d;let⟨o,@z,rfl,A,C⟩:=e.i;exact⟨o,z,rfl,.inr ⟨cu.of A,cb.i p ⟨o,z,rfl,A,C⟩⟩⟩
  ·cases d;let⟨W,o,@z,rfl,A,C,W⟩:=e;exact⟨o,z,rfl,.inl ⟨dv.of A,λM g=>cb.t p g C⟩⟩
  ·cases d;let⟨W,o,z,@m,rfl,A,C,W⟩:=e;exact⟨o,z,rfl,.inl ⟨.inl<|.inr ⟨m,A⟩,λM g=>cb.t p g C⟩⟩
  ·cases d
 ·cases c
def Sd:g5 a (.type "list") Ai:=by
 refine LB.imp λz j D h=>?_;let⟨B,@s,k,c,p⟩:=h;unfold Ai at c;split at c
 ·let⟨@f,d,n⟩:=cv.mp c;cases n;let⟨@u,rfl,e⟩:=gv k;unfold gG at d;split at d
  ·cases d;let⟨o,@z,rfl,A,C⟩:=e.i;exact⟨o,z,rfl,.inr<|cu.of A,λM g=>cb.l p g C⟩
  ·cases d;let⟨W,o,@z,rfl,A,C,W⟩:=e;exact⟨o,z,rfl,.inl<|dv.of A,λM g=>cb.l p g C⟩
  ·cases d;let⟨W,o,z,@m,rfl,A,C,W⟩:=e;exact⟨o,z,rfl,.inl<|.inl<|.inr ⟨m,A⟩,λM g=>cb.l p g C⟩
  ·cases d
 ·cases c
@[simp] def vInt:hE:=λB=>match B with
 |[.im (.int b)]=>Z (.im<|.int b)
 |[.im (.aF d)]=>Z (.im<|.int<|if d then 1 else 0)
 |_=>Y
def Q6:g5 a (.type "int") vInt:=by
 refine Pq.imp λz j D f=>?_;let⟨B,@s,d,c,p⟩:=f;unfold vInt at c;split at c
 ·cases c;let⟨@u,rfl,e⟩:=gv d;cases (show u=_ from e.i);exact .inl ⟨_,rfl,cb.i p rfl⟩
 ·cases c;let⟨@u,rfl,e⟩:=gv d;cases (show u=_ from e.i);exact .inr ⟨_,rfl,cb.i p rfl⟩
 ·cases c
@[simp] def rf:hE:=λB=>match B with
 |[.im (.int b),.im<|.int v]=>Z (.im<|.int<|if v>b then v else b)
 |_=>Y
@[simp] def sA:hE:=λB=>match B with
 |[.im (.int b),.im<|.int v]=>Z (.im<|.int<|if v<b then v else b)
 |_=>Y
def BL(d:a.calm=V):g5 a (.builtin "max") rf:=by
 refine (Ml d).imp λz j D f=>?_;let⟨B,@s,g,c,p⟩:=f;unfold rf at c;split at c
 ·cases c;let⟨u,@J,rfl,e,q⟩:=Ic g;cases (show u=_ from e.i);cases (show J=_ from q.i);exact⟨_,_,rfl,cb.i p rfl⟩
 ·cases c
def Bh(d:a.calm=V):g5 a (.builtin "min") sA:=by
 refine (O1 d).imp λz j D f=>?_;let⟨B,@s,g,c,p⟩:=f;unfold sA at c;split at c
 ·cases c;let⟨u,@J,rfl,e,q⟩:=Ic g;cases (show u=_ from e.i);cases (show J=_ from q.i);exact⟨_,_,rfl,cb.i p rfl⟩
 ·cases c
@[simp] def oa:List ab->Option (List Bool)
 |[]=>Z []
 |.aF d::B=>(oa B).map λr=>d::r
 |_::_=>Y
theorem HU{j:aA}:∀{B:List ab}{z:List ar}{E:List Bool},bN j B z->oa B=Z E->z=E.map ar.aF
 |[],z,E,e,c=>by cases c;exact e
 |.aF d::B,z,E,e,c=>by
  let⟨u,@r,rfl,A,C⟩:=e;rw[oa]at c;let⟨@o,a,b⟩:=cv.mp c;cases b;cases (show u=.aF d from A);rw[HU C a];rfl
 |.aS::_,_,_,_,c=>by cases c
 |.int _::_,_,_,_,c=>by cases c
 |.str _::_,_,_,_,c=>by cases c
 |.tup _::_,_,_,_,c=>by cases c
 |.fn _::_,_,_,_,c=>by cases c
 |.a3 _::_,_,_,_,c=>by cases c
 |.fd::_,_,_,_,c=>by cases c
@[simp] def kx:hE:=λB=>match B with
 |[.lst f]=>(oa f).map λE=>.im (.aF<|E.all id)
 |_=>Y
def rC(d:a.calm=V):g5 a (.builtin "all") kx:=by
 refine (Qy d).imp λz j D e=>?_;let⟨B,@s,g,c,p⟩:=e;unfold kx at c;split at c
 ·let⟨@f,h,k⟩:=cv.mp c;cases k;let⟨@u,rfl,⟨W,o,@z,rfl,A,C,W⟩⟩:=gv g;rw[HU C h]at A;exact⟨o,f,rfl,A,cb.i p rfl⟩
 ·cases c
end
section
variable{a:aK}
def xF:ak->Option Nat
 |.im (.int _)=>Z 0
 |.im (.aF _)=>Z 1
 |.im (.str _)=>Z 2
 |.im (.tup _)=>Z 3
 |.im .aS=>Z 4
 |.lst _=>Z 4
 |.im (.a3 _)=>Z 4
 |.im .fd=>Z 4
 |.aR _=>Z 4
 |.dR _=>Z 4
 |_=>Y
@[simp] def z_(F:String)(s:ak):Option Bool:=
 (xF s).bind λq=>if F = "int" then Z (q==0 || q==1) else if F = "bool" then Z (q==1) else if F = "str" then Z (q==2) else if F = "tuple" then Z (q==3) else Y
variable{F:String}{d:Bool}
def Sg{s:ak}(e:z_ F s=Z d):∃q,xF s=Z q/\((F = "int" /\ d=(q==0 || q==1))\/(F = "bool" /\ d=(q==1))\/(F = "str" /\ d=(q==2))\/(F = "tuple" /\ d=(q==3))):=by
 let⟨@q,c,e⟩:=bM.mp e;refine⟨q,c,?_⟩;by_cases A:F = "int"
 ·rw[aJ A]at e;cases e;exact .inl ⟨A,rfl⟩
 rw[aP A]at e;by_cases C:F = "bool"
 ·rw[aJ C]at e;cases e;exact .inr (.inl ⟨C,rfl⟩)
 rw[aP C]at e;by_cases a:F = "str"
 ·rw[aJ a]at e;cases e;exact .inr (.inr<|.inl ⟨a,rfl⟩)
 rw[aP a]at e;by_cases b:F = "tuple"
 ·rw[aJ b]at e;cases e;exact .inr (.inr<|.inr ⟨b,rfl⟩)
 rw[aP b]at e;cases e
def oZ{P V3 aG k VJ:Prop}(e:P\/V3\/aG\/k)(g:P->VJ)(d:V3->VJ)(n:aG->VJ)(s:k->VJ):VJ:=e.elim g λe=>e.elim d λe=>e.elim n s
variable{G:List (ae×bc)}{j:aA}{h:ao}
def Jh{x:a8}(l:aH a G x j h){g:ae}(e:(∃q,j g=Z (.aR q))\/∃q,j g=Z (.dR q)):∃m,h.heap.get? g=Z m/\m.cls=.type "dict" := by
 rcases e with ⟨q,e⟩|⟨q,e⟩
 ·let@⟨_,_,⟨@z,_,⟨m,U,@WB,A,C,_⟩⟩⟩:=(show fx a.prog a.w j h.heap g (.aR q) from l.aX g _ e);exact⟨m,A,C.1⟩
 ·let@⟨_,_,⟨@T,_,⟨m,U,@WB,A,C,_⟩⟩⟩:=(show fx a.prog a.w j h.heap g (.dR q) from l.aX g _ e);exact⟨m,A,C.1⟩
def Rj{x:a8}(l:aH a G x j h){g:ae}{o:bc}(e:j g=Z (.dw o<|.aR [])):∃m,h.heap.get? g=Z m/\m.cls=.type "dict" := by
 let@⟨_,_,_,⟨@z,_,⟨m,U,@WB,A,C,_⟩⟩⟩:=(show fx a.prog a.w j h.heap g (.dw o<|.aR []) from l.aX g _ e);exact⟨m,A,C.1⟩
def Su:eY a (.builtin "isinstance") (λz j D=>∃f F s d,z=[f,.ty F]/\e6 j s f/\z_ F s=Z d/\D (.aF d) j):=by
 intro G h x j z VZ D l r e;let⟨f,F,s,@d,rfl,n,VF,p⟩:=e;have M:=r;cases r with
 |cons r H=>
  cases H with
  |cons Wz H=>
   cases H;cases Wz;have o:∀{d:Bool},D (.aF d) j->eP a G x D (.bool d) {h with toks:=h.toks+1}:=λ{d} p=>⟨.aF d,j,l.tok _,rfl,p⟩;let⟨@q,k,u⟩:=Sg VF;have t:d=aq->D (.aF aq) j:=λc=>c ▸ p;have I:∀{g:ae},q=4->(∃m,h.heap.get? g=Z m/\m.cls=.type "dict")->wpAny (aW a.prog a.w) a.A (call (.builtin "isinstance") [.ref g,.type F]) (eP a G x D) a.cQ h:=by
    rintro g rfl ⟨m,B,E⟩;refine oZ u (λ⟨c,N⟩=>c ▸ IsiPair.dict_int B E (o<|t N)) (λ⟨c,N⟩=>c ▸ IsiPair.dict_bool B E (o<|t N)) (λ⟨c,N⟩=>c ▸ IsiPair.dict_str B E (o<|t N)) λJ=>?_;let@⟨c,N⟩:=J;exact c ▸ IsiPair.dict_tuple B E (o<|t N)
   have v:Jv a.K j f F d->wpAny (aW a.prog a.w) a.A (call (.builtin "isinstance") [_,.type F]) (eP a G x D) a.cQ h:=λO=>UA G h x j _ _ D l M ⟨f,F,d,rfl,O,p⟩;have L:∀{g:ae}{z:List ar},q=4->f=.ref g->dv a.K j g z->wpAny (aW a.prog a.w) a.A (call (.builtin "isinstance") [_,.type F]) (eP a G x D) a.cQ h:=λ{g z} k c i=>by
    subst k;exact v (.inr<|.inr<|.inr<|.inr ⟨g,z,c,i,oZ u (λe=>.inr<|.inl e) (λe=>.inr<|.inr<|.inr<|.inl e) (λe=>.inr<|.inr<|.inl e) λe=>.inr<|.inr<|.inr<|.inr e⟩)
   unfold xF at k;split at k
   ·cases k;exact v (.inl ⟨_,n.i,oZ u .inl (λe=>.inr<|.inr<|.inr<|.inl e) (λe=>.inr<|.inr<|.inl e) λe=>.inr<|.inl e⟩)
   ·cases k;exact v (.inr<|.inl ⟨_,n.i,oZ u (λe=>.inr<|.inl e) .inl (λe=>.inr<|.inr<|.inr<|.inl e) λe=>.inr<|.inr<|.inl e⟩)
   ·cases k;exact v (.inr<|.inr<|.inl ⟨_,n.i,oZ u (λe=>.inr<|.inl e) (λe=>.inr<|.inr<|.inr<|.inl e) .inl λe=>.inr<|.inr<|.inl e⟩)
   ·cases k;let⟨g,@z,c,A,C⟩:=n.i;exact v (.inr<|.inr<|.inr<|.inl ⟨g,z,c,cu.of A,oZ u (λe=>.inr<|.inl e) (λe=>.inr<|.inr<|.inr<|.inl e) (λe=>.inr<|.inr<|.inl e) .inl⟩)
   ·cases k;cases (show f=.aS from n.i);cases r;refine oZ u (λ⟨c,N⟩=>c ▸ IsiPair.NoneType_int (o<|t N)) (λ⟨c,N⟩=>c ▸ IsiPair.NoneType_bool (o<|t N)) (λ⟨c,N⟩=>c ▸ IsiPair.NoneType_str (o<|t N)) λJ=>?_;let@⟨c,N⟩:=J;exact c ▸ IsiPair.NoneType_tuple (o<|t N)
   ·cases k;let⟨W,g,@z,c,A,C,W⟩:=n;exact L rfl c (dv.of A)
   ·cases k;let⟨g,z,@m,c,A,C⟩:=n.i;exact L rfl c (.inl<|.inr ⟨m,A⟩)
   ·cases k;let⟨g,@m,rfl,A⟩:=n.i;cases r;exact I rfl (Rj l A)
   ·cases k;let⟨W,g,@z,rfl,A,C,W⟩:=n;cases r;exact I rfl (Jh l<|.inl ⟨_,A⟩)
   ·cases k;let⟨W,g,@z,rfl,A,C,W⟩:=n;cases r;exact I rfl (Jh l<|.inr ⟨_,A⟩)
   ·cases k
@[simp] def n7(F:String)(L:aC bI):aC ak:=λk=>(L k).bind λo=>(cY o.2 o.1).bind λs=>(z_ F s).map λd=>(.im<|.aF d,o.2)
variable{f:aD}{c:bt}{L:aC bI}{VT:Pos}
def qC{o Wo:Pos}(h:eG a "isinstance")(i:a.aB "isinstance" = Y)(l:fR "isinstance" = Z (.builtin "isinstance"))(n:eG a f)(q:a.aB f=Y)(t:fR f=Z (.type F))(e:dC a c L)(v:f ≠ "__name__" := by decide)(hd:(f==("__debug__" : aD))=aq:=by decide)(b:bP [c,.Name f Wo] a.env=(aq,b_ c a.env)::bP [.Name f Wo] a.env:=by rfl)(w:bP [.Name f Wo] a.env=(aq,b_ (.Name f Wo) a.env)::bP [] a.env:=by rfl)(y:(fE VT<|bP [.Name f Wo] a.env).any (·.1)=aq:=by rfl):cw a (.Call (.Name "isinstance" o) [c,.Name f Wo] [] VT) (n7 F L):=by
 refine eC (Ca Su h i l (w0 e (w0 (Mq (u:=.ty F) n q t rfl v hd) zD w) b) ∅ ∅ b y) λx j D z=>?_;let⟨k,O,r,@VW,X,ah,B,p⟩:=z;let⟨@⟨m,VK⟩,A,C⟩:=bM.mp B;let⟨@s,E,G⟩:=bM.mp C;let⟨@d,H,I⟩:=cv.mp G;cases I;exact⟨k,O,m,VK,X,ah,A,λu VL VY VI g V5 J=>⟨u,F,s,d,rfl,V5.read g E,H,p _ VL VY [] g ⟨rfl,rfl⟩ (by rw[cj];exact J.both)⟩⟩
@[simp] def pN:ak->Option Bool
 |.im .aS=>Z aq
 |.im (.aF d)=>Z d
 |.im (.int b)=>Z (b != 0)
 |.im (.str f)=>if f.length<=100000 then Z ((f.length:Int) != 0) else Y
 |.im (.tup B)=>Z (!B.isEmpty)
 |.lst B=>Z (!B.isEmpty)
 |.dE B=>Z (!B.isEmpty)
 |.dR VS=>Z (!VS.isEmpty)
 |_=>Y
def bN.emp{B:List ab}{z:List ar}(e:bN j B z):(!z.isEmpty)=!B.isEmpty:=by
 cases B with
 |nil=>cases (show z=[] from e);rfl
 |cons s B=>let⟨u,@r,rfl,W⟩:=e;rfl
def Pe{s:ak}{u:ar}(e:e6 j s u)(c:pN s=Z d):yz a.K u j d:=by
 unfold pN at c;split at c
 ·cases c;cases (show u=_ from e.i);rfl
 ·cases c;cases (show u=_ from e.i);rfl
 ·cases c;cases (show u=_ from e.i);rfl
 ·split at c
  ·rename_i f;cases c;cases (show u=_ from e.i);exact⟨ni f,rfl⟩
  ·cases c
 ·cases c;let⟨o,@z,rfl,A,C⟩:=e.i;exact .inr (.inl ⟨z,cu.of A,C.emp.symm⟩)
 ·cases c;let⟨W,o,@z,rfl,A,C,W⟩:=e;exact .inl ⟨z,dv.of A,C.emp.symm⟩
 ·cases c;let⟨W,o,z,@m,rfl,A,C,W⟩:=e;exact .inl ⟨z,.inl<|.inr ⟨m,A⟩,C.emp.symm⟩
 ·cases c;let⟨W,o,@WK,rfl,A,C,W⟩:=e;refine .inr (.inr ⟨WK,A,?_⟩);cases C<;>rfl
 ·cases c
@[simp] def gy(L:aC bI):aC Bool:=λk=>(L k).bind λo=>(cY o.2 o.1).bind λs=>(pN s).map λd=>(d,o.2)
def lI(e:dC a c L)(g:∀b,qf c a.env b=(do let u <-b;standAt c.pos;holding [u] (truthy u)):=by intro W;rfl):hS a c (gy L):=by
 refine u0 (Rt e g) λx j D h=>?_;let⟨k,O,d,@VW,X,ah,i,p⟩:=h;let⟨@⟨m,VK⟩,A,C⟩:=bM.mp i;let⟨@s,l,n⟩:=bM.mp C;let⟨@t,o,q⟩:=cv.mp n;cases q;exact⟨k,O,m,VK,X,ah,A,λu VL VY VI f V5 r=>⟨_,Pe (V5.read f l) o,p VL VY f r.both⟩⟩
def ki{b:Int}{I:h_}(c:eG a f)(d:a.aB f=Z (.int b I))(hd:(f==("__debug__" : aD))=aq:=by decide):cw a (.Name f VT) (au<|.int b):=tu (zy (u:=.int b) c d ⟨I,rfl⟩ hd) λ_=>rfl
def y6{N:ae}(b:eG a f)(c:a.aB f=Z (.ref N))(hd:(f==("__debug__" : aD))=aq:=by decide):cw a (.Name f VT) (au<|.fn N):=tu (zy (u:=.ref N) b c rfl hd) λ_=>rfl
end
variable{WT E:Pos}{m:bt}{id F:String}{name:aD}{L:aC (List bI)}{b:Nat}{ty:ak->Bool}{R:Φ}{Wj:gm}{g:ae}{j:aA}
def bk.chg{O VY:List ae}(b:g∈O)(n:fW j g)(ah:VY.Nodup)(cm:∀f∈VY,f∈O):bk j O (upd j g Wj) VY:=by
 let⟨@m,c,d,e⟩:=n;refine⟨λf J Ws a=>?_,λf a=>.inl<|cm f a,ah,eU.of (λf z Ws=>?_)<|λf o J Ws=>?_,λf J Ws=>?_⟩
 ·rw[cZ (λi=>a (by rw[i];exact b))];exact Ws
 ·rw[cZ]
  ·exact Ws
  ·rintro rfl;rw[c]at Ws;exact d z (Option.some.inj Ws)
 ·rw[cZ]
  ·exact Ws
  ·rintro rfl;rw[c]at Ws;exact e o J (Option.some.inj Ws)
 ·by_cases a:f=g
  ·subst a;exact⟨Wj,eW⟩
  ·exact⟨J,(cZ a).trans Ws⟩
theorem cM.k5(n:fW j g):p3 j (upd j g Wj):=(bk.chg (O:=[g]) (VY:=[]) (.head _) n mA<|λf a=>nomatch a).tup.tup
def oB(a:aK)(id:String)(bS:ak->List ak->Option (ak×ak)):Prop:=(
 vL a id λf T j D=>∃n B r b VI VU,cJ j n f VI/\ey j B T VU/\(VI++VU).Nodup/\bS n B=Z (r,b)/\∀u Q c b3,cJ Q r u c->cJ Q b f b3->bk j (VI++VU) Q (c++b3)->D u Q)
@[simp] def hl:ak->Bool
 |.lst _=>V
 |.hs _=>V
 |_=>aq
@[simp] def fH(ty:ak->Bool)(b:Nat)(bS:ak->List ak->Option (ak×ak))(L:aC (List bI)):aC ak:=λk=>match k[b]? with
 |some (Z a)=>if ty a=V then (L k).bind λo=>(ek o.1 o.2).bind λp=>match p.2[b]? with
   |some (Z n)=>(bS n p.1).map λr=>(r.1,p.2.set b<|Z r.2)
   |_=>Y
  else Y
 |_=>Y
def GO{bS:ak->List ak->Option (ak×ak)}{x:a8}{D:cN}(E:∀j n f VI,cJ j n f VI->ty n=V->m1 R F f j)(e:nS (fH ty b bS L) x j D):∃f,x[b]?=Z (Z f)/\m1 R F f j/\hx L x j λT V0=>∃n B r d VI VU,cJ V0 n f VI/\ey V0 B T VU/\(VI++VU).Nodup/\bS n B=Z (r,d)/\∀u Q i b3,cJ Q r u i->cJ Q d f b3->bk V0 (VI++VU) Q (i++b3)->D u Q:=by
 let⟨k,O,r,@VW,X,ah,a,p⟩:=e;unfold fH at a;split at a
 ·rename_i G H;split at a
  ·rename_i I;let⟨f,be,@bi,l,jW,W,W⟩:=X.out H;refine⟨f,l,E j G f _ jW I,?_⟩;let⟨@⟨VV,VK⟩,A,C⟩:=bM.mp a;let⟨@⟨B,Wf⟩,J,h⟩:=bM.mp C;refine⟨k,O,VV,VK,X,ah,A,λT VL VY i M V5 N=>?_⟩;let⟨V_,@VU,U,al,Wa⟩:=lV M V5 J;dsimp only at h;split at h
   ·rename_i n am;let⟨@⟨Wz,d⟩,an,ap⟩:=cv.mp h;cases ap;let⟨bm,VI,@q,s,dD,t,as⟩:=U.out am;rw[l]at s;cases s;have v:bk j O VL ((VI++VU)++q):=N.jK (Wa.symm.trans ((fw VU as.symm).trans (by
     rw[bz];exact dx)))
    have w:=dt.mp v.ah;refine⟨n,B,_,d,VI,VU,dD,al,w.1,an,λu Q P V3 gI gV o=>?_⟩;have a1:bD Q (Wf.set b<|Z .dS) x q:=t.mono o.tup λg a2 m c=>o.keep g m c λe=>w.2.2 g e g a2 rfl;let⟨y,@S,z,bd⟩:=a1.back gV l;rw[An]at z;refine p u Q y P z gI ((v.trans o t.chg).less (aG:=S) ?_);rw[bz];refine (en y dx).trans ?_;rw[<-bz];refine (fw P bd).trans ?_;rw[bz];refine dx.trans ?_;rw[bz];refine dx.trans ?_;rw[bz,bz];refine (en P ?_);exact dx
   ·cases h
  ·cases a
 ·cases a
section
variable{a:aK}
def ju:∀(j:aA) (n:ak) (f:ar) (VI:List ae),cJ j n f VI->hl n=V->m1 R "list" f j:=by
 intro j n f VI e c;cases n with
 |lst B=>let⟨g,@z,rfl,A,W⟩:=e;exact .inl ⟨rfl,z,dv.of A⟩
 |hs B=>let⟨g,z,@S,rfl,A,W⟩:=e;exact .inl ⟨rfl,z,dv.of A⟩
 |_=>cases c
def lC{bS:ak->List ak->Option (ak×ak)}{c:bt}{U:List bt}(d:∀j n f VI,cJ j n f VI->ty n=V->m1 a.K F f j)(bU:t6 F)(g:Slot F name id)(h:qb (.builtin id)=pure (.type "method_descriptor"))(i:oB a id bS)(k:bW a m (mI b))(l:fD a (c::U) L)(o:sk m name a.env (b_ m a.env)=b_ m a.env:=by rfl)(p:((fE WT<|bP (c::U) a.env).all (λf=>!f.1)&&(AL WT<|AM [] a.env).all (λf=>f.1.isSome)
   && decide ((c::U).length+([]:List oz).length+(if ([]:List oz).isEmpty then 0 else 1)<30))=V:=by rfl)(q:(E.endLine==WT.line)=V:=by rfl)(VN:bP (c::U) a.env=(aq,b_ c a.env)::bP U a.env:=by rfl)(r:(fE WT<|bP U a.env).any (·.1)=aq:=by rfl):
  cw a (.Call (.Attribute m name E) (c::U) [] WT) (fH ty b bS L):=
 eC (G6 bU g h i k l o p q VN r) λx j D e=>by
  let⟨@f,s,A,C⟩:=GO d e;exact⟨f,s,A,C⟩
def Iy{bS:ak->List ak->Option (ak×ak)}(c:∀j n f VI,cJ j n f VI->ty n=V->m1 a.K F f j)(bU:t6 F)(d:Slot F name id)(g:qb (.builtin id)=pure (.type "method_descriptor"))(h:oB a id bS)(i:bW a m (mI b))(l:sk m name a.env (b_ m a.env)=b_ m a.env:=by rfl)(o:(E.endLine==WT.line)=V:=by rfl):
  cw a (.Call (.Attribute m name E) [] [] WT) (fH ty b bS ay):=
 eC (OM bU d g h i l o) λx j D e=>by
  let⟨@f,q,A,C⟩:=GO c e;refine⟨f,q,A,?_⟩;let⟨k,O,r,@VW,X,ah,s,p⟩:=C;cases s;exact p [] j O [] X ⟨rfl,rfl⟩ (by rw[cj];exact bk.perm ah (List.Perm.refl _))
@[simp] def ha:ak->List ak->Option (ak×ak):=λn B=>match n,B with
 |.lst z,[.im s]=>if z.length<100000 then Z (.im .aS,.lst<|z++[s]) else Y
 |_,_=>Y
def xb{w:Nat}(e:w<100000):w<sizeLine:=fk e ∅
def rb:oB a "list.append" ha:=by
 intro G h x j f T u VZ D l b d e;let⟨n,B,r,q,VI,@VU,dk,i,ah,c,p⟩:=e;unfold ha at c;split at c
 ·split at c
  ·rename_i k;cases c;let⟨g,@VR,rfl,A,C,rfl⟩:=dk;let⟨t,I,s,@v,rfl,@⟨m,rfl⟩,@⟨rfl,rfl⟩,rfl⟩:=i;have n:fW j g:=⟨_,A,(λ_ c=>by cases c),(λ_ W c=>by cases c)⟩;refine NQ G h x j _ _ u VZ D l b d ⟨g,VR,t,rfl,rfl,A,xb (by rw[<-C.length];exact k),p .aS _ [] [g] ⟨rfl,rfl⟩ ?_ (bk.chg (.head _) n (fN _ _) λf o=>by simpa using o)⟩;exact⟨g,_,rfl,eW,(C.snoc m).mono<|cM.k5 n,rfl⟩
  ·cases c
 ·cases c
@[simp] def Ax:ak->List ak->Option (ak×ak):=λn B=>match n,B with
 |.lst z,[]=>(z.getLast?).map λs=>(.im s,.lst z.dropLast)
 |_,_=>Y
def bN.last{B:List ab}{z:List ar}{s:ab}(e:bN j B z)(c:B.getLast?=Z s):∃u,z[z.length-1]?=Z u/\cM j s u/\bN j B.dropLast z.dropLast:=by
 rw[DE]at c;let⟨@u,a,b⟩:=e.get c;refine⟨u,by rw[<-e.length];exact a,b,?_⟩;rw[Ez,Ez,<-e.length];exact e.take _
def Sy:oB a "list.pop" Ax:=by
 intro G h x j f T u VZ D l b d e;let⟨n,B,r,y,VI,@VU,dk,i,ah,c,p⟩:=e;unfold Ax at c;split at c
 ·let⟨@s,k,m⟩:=cv.mp c;cases m;let⟨g,@VR,rfl,A,C,rfl⟩:=dk;let@⟨rfl,rfl⟩:=i;let⟨@t,o,q,v⟩:=C.last k;have n:fW j g:=⟨_,A,(λ_ c=>by cases c),(λ_ W c=>by cases c)⟩;refine TS G h x j _ _ u VZ D l b d ⟨g,VR,t,rfl,rfl,A,o,p t _ [] [g] ⟨q.mono<|cM.k5 n,rfl⟩ ?_ (bk.chg (.head _) n (fN _ _) λf w=>by simpa using w)⟩;exact⟨g,_,rfl,eW,v.mono<|cM.k5 n,rfl⟩
 ·cases c
@[simp] def pT:ak->List ak->Option (ak×ak):=λn B=>match n,B with
 |.lst z,[.im (.int b)]=>if 0<=b/\b<z.length then (z[b.toNat]?).map λs=>(.im s,.lst<|z.eraseIdx b.toNat) else Y
 |_,_=>Y
theorem bN.erase:∀{B:List ab}{z:List ar} (w:Nat),bN j B z->bN j (B.eraseIdx w) (z.eraseIdx w)
 |[],z,w,e=>by cases (show z=[] from e);exact rfl
 |s::B,z,0,e=>by let⟨u,@r,rfl,A,C⟩:=e;exact C
 |s::B,z,w+1,e=>by let⟨u,@r,rfl,A,C⟩:=e;exact⟨u,_,rfl,A,C.erase w⟩
def Q0:oB a "list.pop" pT:=by
 intro G h x j f T u VZ D l d e i;let⟨n,B,r,z,VI,@VU,dk,k,ah,c,p⟩:=i;unfold pT at c;split at c
 ·rename_i b;split at c
  ·rename_i VF;let⟨@s,m,o⟩:=cv.mp c;cases o;let⟨g,@VR,rfl,A,C,rfl⟩:=dk;let⟨t,I,E,@F,rfl,@⟨q,rfl⟩,@⟨rfl,rfl⟩,rfl⟩:=k;cases (show t=.int b from q);let⟨@t,v,w⟩:=C.get m;have n:fW j g:=⟨_,A,(λ_ c=>by cases c),(λ_ W c=>by cases c)⟩;have H:VR.length<=sizeLine:=(l.aX g _ A).1;have J:=oU;refine T6 G h x j _ _ u VZ D l d e ⟨g,VR,b,b.toNat,t,rfl,rfl,A,⋯,by have:=C.length;lia,vh VF.1 (by rw[<-C.length];exact VF.2),v,p t _ [] [g] ⟨w.mono<|cM.k5 n,rfl⟩ ?_ (bk.chg (.head _) n (fN _ _) λf y=>by simpa using y)⟩;exact⟨g,_,rfl,eW,(C.erase _).mono<|cM.k5 n,rfl⟩
  ·cases c
 ·cases c
@[simp] def nu:ak->List ak->Option (ak×ak):=λn B=>match n,B with
 |.lst z,[.lst VR]=>if z.length+VR.length<=100000 then Z (.im .aS,.lst<|z++VR) else Y
 |_,_=>Y
def zH:oB a "list.extend" nu:=by
 intro G h x j f T u VZ D l i k m;let⟨n,B,r,v,VI,@VU,dk,o,ah,c,p⟩:=m;unfold nu at c;split at c
 ·split at c
  ·rename_i q;cases c;let⟨g,@VR,rfl,A,C,rfl⟩:=dk;let⟨t,I,w,@y,rfl,⟨d,@WO,rfl,s,b,rfl⟩,@⟨rfl,rfl⟩,rfl⟩:=o;have n:fW j g:=⟨_,A,(λ_ c=>by cases c),(λ_ W c=>by cases c)⟩;refine QR G h x j _ _ u VZ D l i k ⟨g,d,VR,WO,rfl,rfl,A,s,ni (by rw[<-C.length,<-b.length];exact q),p .aS _ [] [g] ⟨rfl,rfl⟩ ?_ (bk.chg (.head _) n (fN _ _) λf e=>by
    rw[k7]at e;exact eL _ e)⟩
   exact⟨g,_,rfl,eW,(C.app b).mono<|cM.k5 n,rfl⟩
  ·cases c
 ·cases c
def uG(a:aK)(pt:ak->ak->ak->Option ak):Prop:=(
 xO a λm b u j D=>∃n q s c VI VU,cJ j n m VI/\cJ j q b []/\cJ j s u VU/\(VI++VU).Nodup/\pt n q s=Z c/\∀Q l,cJ Q c m l->bk j (VI++VU) Q l->D Q)
@[simp] def mT(n q s:ak):Option ak:=match n,q,s with
 |.lst z,.im<|.int b,.im s=>(mn z.length b).map λv=>.lst (z.set v s)
 |_,_,_=>Y
theorem bN.set{j:aA}{s:ab}{u:ar}(y:cM j s u):∀{B:List ab}{z:List ar} (w:Nat),bN j B z->bN j (B.set w s) (z.set w u)
 |[],z,w,e=>by cases (show z=[] from e);exact rfl
 |c::B,z,0,e=>by let⟨J,@r,rfl,A,C⟩:=e;exact⟨u,r,rfl,y,C⟩
 |c::B,z,w+1,e=>by let⟨J,@r,rfl,A,C⟩:=e;exact⟨J,_,rfl,A,bN.set y w C⟩
def DR:uG a mT:=by
 intro G h x j m b u d e J D l k i o r;let⟨n,q,s,B,VI,@VU,dk,cx,t,ah,c,p⟩:=r;unfold mT at c;split at c
 ·let⟨@v,w,y⟩:=cv.mp c;cases y;let⟨g,@VR,rfl,A,C,rfl⟩:=dk;let@⟨hd,rfl⟩:=t;have n:fW j g:=⟨_,A,(λ_ c=>by cases c),(λ_ W c=>by cases c)⟩;refine Qw G h x j _ _ _ d e J D l k i o ⟨g,VR,_,v,rfl,cx.1,A,by rw[<-C.length];exact w,p _ [g] ?_ (bk.chg (.head _) n (fN _ _) λf z=>by simpa using z)⟩;exact⟨g,_,rfl,eW,(bN.set hd v C).mono<|cM.k5 n,rfl⟩
 ·cases c
@[simp] def j5(b:Nat)(a:aC ak)(pt:ak->ak->ak->Option ak):fs:=λs k=>match k[b]? with
 |some (Z _)=>(a k).bind λo=>if o.1.dH=V then match o.2[b]? with
   |some (Z n)=>(pt n o.1 s).map λc=>o.2.set b (Z c)
   |_=>Y
  else Y
 |_=>Y
def o_{V4:List Nat}{q:bt}{w:aC ak}{pt:ak->ak->ak->Option ak}{VT:Pos}(J:bW a m (mI b))(L:cw a q w)(M:uG a pt)(d:∀u,jd (.Subscript m q VT) a.env u=(do
   let h <-holding [u] (b_ m a.env)
   let r <-holding [u,h] (b_ q a.env)
   standAt VT
   holding [u,h,r] (wj h r u)
   release [u,h,r] []):=by intro W;rfl):h6 a V4 (.Subscript m q VT) (j5 b w pt):=by
 refine A2 (Rd J L M d) λu x j D N=>?_;let⟨k,O,s,VI,@VW,X,y,ah,i,p⟩:=N;unfold j5 at i;split at i
 ·rename_i bn P;let⟨f,bs,@bv,t,jW,W,W⟩:=X.out P;let⟨@⟨cD,VK⟩,A,C⟩:=bM.mp i;split at C
  ·rename_i R;refine⟨f,t,k,O,cD,VK,X,(dt.mp ah).1,A,λca VL VY cd T cx o=>?_⟩;obtain rfl:=cx.dH R;rw[cj]at o;have U:=dt.mp ah;dsimp only at C;split at C
   ·rename_i n al;let⟨@am,an,ap⟩:=cv.mp C;cases ap;let⟨ce,z,@B,E,dD,F,as⟩:=T.out al;rw[t]at E;cases E;have a1:cJ VL s u VI:=y.mono o.tup λg d m c=>o.keep g m c λe=>U.2.2 g e g d rfl;have G:bk j (O++VI) VL ((z++VI)++B):=by
     have a2:bk j (O++VI) j (O++VI):=bk.perm ah (List.Perm.refl _);have:=bk.trans (VY:=O) (VI:=VI) a2 o y.chg;refine this.jK ((fw VI as.symm).trans ?_);rw[bz];exact dx
    have H:=dt.mp G.ah;refine⟨n,cD,s,am,z,VI,dD,cx,a1,H.1,an,λQ l bd v=>?_⟩;have be:bD Q (VK.set b<|Z .dS) x B:=F.mono v.tup λg d m c=>v.keep g m c λe=>H.2.2 g e g d rfl;let⟨bi,@S,I,bm⟩:=be.back bd t;rw[An]at I;exact p x Q bi c_.refl I ((G.trans v F.chg).less<|bm.trans dx)
   ·cases C
  ·cases C
 ·cases i
end
end L2
namespace L2
open Spec PyProof.Rows PySem.W
variable{V2:List Int}{o:Array Nat}{V7:Type}
def OA(M:List V7)(s:V7):(range M.length).map (λb=>M.getD b s)=M:=by
 apply tI
 ·simp
 ·intro b A C;simp[List.getD,C]
def x5{M:List V7}{s:V7}(e:dd M.length o):(o.toList.map λb=>M.getD b s).Perm M:=by
 have:=yf (λb=>M.getD b s) e;rw[OA]at this;exact this
theorem zP{V7 WL:Type}{O:V7->WL->Prop}:∀{a:List V7}{c:List WL},a.length=c.length->(∀(b:Nat) g d,a[b]?=Z g->c[b]?=Z d->O g d)->eA O a c
 |[],[],_,_=>.nil
 |g::M,d::H,e,N=>.cons (N 0 g d rfl rfl) (zP ⇑e λb f t A C=>N (b+1) f t ⇑A ⇑C)
 |[],_::_,e,_=>by simp at e
 |_::_,[],e,_=>by simp at e
section
variable{VO:bF}{y:bj}{P:bE}{VD:af->ao->Prop}{h:ao}{T:List af}
def Je{V3:ae}{WY:Nat}{VJ:PySem.Fin->ao->Prop}(S:Nat->Int)(V6:gU)(i:h.heap.get? V3=Z (gM "list" T.toArray WY))(A:2<=T.length->∀f:aY,(∀d m,d≠V3->h.heap.get? d=Z m->f.get? d=Z m)->∀D:gU->ao->Prop,D V6 {h with heap:=f}->wpAny (aW VO y) P (yN T.toArray) D VD {h with heap:=f})(B:∀f:aY,(∀d m,d≠V3->h.heap.get? d=Z m->f.get? d=Z m)->f9 T.length S (fC VO y P V6<|T.toArray.zip T.toArray) {h with heap:=f})(E:T.length<1001\/∀v,1<=v->v<T.length->S (v-1)<=S v)(F:T.length<=1000)(e:∀(o:Array Nat) (VB:aY),dd T.length o->ia S o T.length->(∀d m,d≠V3->h.heap.get? d=Z m->VB.get? d=Z m)->(∃c,VB.get? V3=Z (gM "list" (o.toList.map λb=>T.getD b af.none).toArray c))->
   VJ (.done<|.ret .none) {h with heap:=VB}):wpAny (aW VO y) P (bx.«list.sort» ⟨[.ref V3],[]⟩) VJ VD h:=by
 have x:T.length<=sizeLine:=fv F ∅;rw[list_sort_plain];have O:V3<h.heap.objs.size:=cg i;refine ax (listItems_at i rfl (ax (I1 i rfl ?_ (hsz:=by rw[cX];exact x) (hsz2:=by show 0<=_;exact kZ _))));have p:=HI i (λ_=>#[]);generalize Q:(if (#[]:Array af).size==T.toArray.size then WY else WY+1)=z at p;refine ax (seqEpoch_at p rfl (ax (Aq (ax<|yP<|h1 ?_) ⇑x)));have j:∀d m,d≠V3->h.heap.get? d=Z m->(((h.heap.update V3<|bc.mapSeq λ_=>#[]).push<|gM "tuple" T.toArray.toList.toArray 0).push<|gM "list" ([]:List af).toArray 0).get? d=Z m:=λd m k c=>
  b4 _ (b4 _<|(iZ _ _<|fI k).trans c);have a:(((h.heap.update V3<|bc.mapSeq λ_=>#[]).push<|gM "tuple" T.toArray.toList.toArray 0).push<|gM "list" ([]:List af).toArray 0).get? V3=Z (gM "list" #[] z):=
  b4 _ (b4 _ p);show wpAny (aW VO y) P _ VJ VD {h with heap:=((h.heap.update V3<|bc.mapSeq λ_=>#[]).push<|gM "tuple" T.toArray.toList.toArray 0).push (gM "list" ([]:List af).toArray 0)};generalize ((h.heap.update V3<|bc.mapSeq λ_=>#[]).push<|gM "tuple" T.toArray.toList.toArray 0).push (gM "list" ([]:List af).toArray 0)=f at j a ⊢;have fin:∀(X:bH) (o:Array Nat),dd T.length o->ia S o T.length->arrOf X=o.map (bp<|T.toArray.zip T.toArray)->h9 X=Y->
   wpAny (aW VO y) P (do
    let I:=(<-seqEpoch V3) != z
    bx.List.listUpdate (.ref V3) λ_=>(arrOf X).map (·.2)
    if let Z c:=h9 X then rule "list.sort.comparison-raised";throw c
    if I then rule "list.sort.modified";raiseError "ValueError" "list modified during sort"
    ret .none) VJ VD {h with heap:=f}:=λX o l q t u=>by
  have out:=kat_snds (ks:=T) (vs:=T) rfl t;rw[out,u];refine ax (seqEpoch_at (s:={h with heap:=f}) a rfl (ax (I1 (s:={h with heap:=f}) a rfl ?_ (hsz:=kZ _) (hsz2:=by
   show (List.toArray<|o.toList.map λb=>T.getD b af.none).size<=_;rw[cX,bB,f6,l.size];lia))))
  simp only[bne_self_eq_false,gk,fy];refine ba (e o _ l q (λd m k c=>(iZ _ _<|fI k).trans<|j d m k c) ⟨_,HI a λ_=>_⟩)
 dsimp only;by_cases C:T.toArray.size<2
 ·rw[aJ C,aJ C];refine ax (ba ?_);rw[StateT.run_pure];apply ax;apply ba;have w:T.length<2:=by simpa using C
  refine fin (bH.mk' general' (T.toArray.zip T.toArray) #[] 7 Y) (range T.length).toArray (List.Perm.refl _) (λb v R U=>?_) ?_ rfl
  ·have:b=v:=⋯
   subst this;exact lY _
  ·have:=kas_range (T.toArray.zip T.toArray);rw[show (T.toArray.zip T.toArray).size=T.length by simp]at this;exact this.symm
 ·rw[aP C,aP C];have w:2<=T.length:=by simpa using C
  refine ax (A w f j _ ?_)
  ·have L:=B f j;have hy:=kas_range (T.toArray.zip T.toArray);rw[show (T.toArray.zip T.toArray).size=T.length by simp]at hy;have run:=Nm (VD:=VD) (D:=λ_ X VE=>VE={h with heap:=f}/\∃o,dd T.length o/\ia S o T.length/\arrOf X=o.map (bp<|T.toArray.zip T.toArray)/\h9 X=Y) L
    w E λM al g d n s=>⟨rfl,M,g,d,n,s⟩;unfold tF at run;rw[hy]at run;refine ax (gT run (λr VE N=>?_) λ_ W c=>c);let⟨J,X⟩:=r;let@⟨rfl,⟨@o,l,q,t,u⟩⟩:=N;exact fin X o l q t u
end
section
variable{a:aK}{G:List (ae×bc)}{x:L2.a8}{j:aA}{h:ao}
def BX(bi:a.calm=V){g:ae}{VR:List ar}{VP:List af}{w:Nat}{F:String}{m:bc}{D:cN}(S:Nat->Int)(V6:gU)(l:aH a G x j h)(E:bY VR VP)(R:F = "list" \/ F = "tuple")(c:h.heap.get? g=Z m)(au:m.cls=.type F)(T:m.data=.seq VP.toArray w)(bm:VR.length<=1000)(U:2<=VP.length->∀(e:aY) (Wq:Nat),(∀d m,h.heap.get? d=Z m->e.get? d=Z m)->∀(P:bE) (VD:af->ao->Prop) (D:gU->ao->Prop),D V6 {h with heap:=e,toks:=Wq}->wpAny (aW a.prog a.w) P (yN VP.toArray) D VD {h with heap:=e,toks:=Wq})(al:∀(e:aY) (Wq:Nat),(∀d m,h.heap.get? d=Z m->e.get? d=Z m)->f9 VP.length S (fC a.prog a.w a.A.in1.in1 V6<|VP.toArray.zip VP.toArray) {h with heap:=e,toks:=Wq})(am:VP.length<1001\/∀v,1<=v->v<VP.length->S (v-1)<=S v)(p:∀(o:Array Nat) M,dd VP.length o->ia S o VP.length->j M=Y->D (.ref M) (upd j M<|.lst<|o.toList.map λb=>VR.getD b .aS)):
  wpAny (aW a.prog a.w) a.A (call (.builtin "sorted") [.ref g]) (eP a G x D) a.cQ h:=by
 have bn:VR.length=VP.length:=E.length;have I:VP.length<=sizeLine:=fv ⋯ (show 1000<=sizeLine by decide);refine yQ kind_sorted Ij DD (Ce _) ?i
 case i=>
  unfold bx.«sorted»;refine ax (m:=checkCount "sorted" 1 1 _) (ba (ax (wpAny_collect_seq g R c au T (λVB r=>?_) (by rw[cX];exact I))));show wpAny _ _ (u4 VP >>= _) _ _ _;refine ax (yP ?_ I);have L:(VB.push<|gM "list" VP.toArray 0).get? VB.objs.size=Z (gM "list" VP.toArray 0):=dr _ rfl;have bJ:∀d m,h.heap.get? d=Z m->(VB.push<|gM "list" VP.toArray 0).get? d=Z m:=λd m c=>b4 _ (r d m c);have N:aH a G x j {h with heap:=VB}:=l.kept (We:=h.toks) r;have O:∀d m,h.heap.get? d=Z m->d≠VB.objs.size:=λd m c=>ef (cg<|r d m c);refine ax (h1<|iW Cn ⟨_,L,rfl⟩ Iu ?t<|CN _)
  case t=>
   refine Je (h:={h with heap:=VB.push (gM "list" VP.toArray 0)}) S V6 L (λC e s D an=>U C e h.toks (λd m k=>s d m (O d m k)<|bJ d m k) _ _ D an) (λe s=>al e h.toks λd m k=>s d m (O d m k)<|bJ d m k) am ⋯ λo C z ap Wd ⟨as,a1⟩=>⟨_,rfl,ba ⟨_,rfl,?_⟩⟩;have a2:j VB.objs.size=Y:=N.aX.fresh (bT _);have bd:∀d m,VB.get? d=Z m->d≠VB.objs.size:=λd m c=>ef (cg c);refine⟨.ref VB.objs.size,upd j VB.objs.size<|.lst<|o.toList.map λb=>VR.getD b .aS,?_,rfl,p o _ z ap a2⟩;refine N.laid (We:=h.toks) (λd J c=>Wd d J (bd d J c)<|b4 _ c) (bT _) ⟨?_,_,as,?_,a1⟩
   ·rw[bB,f6,z.size];lia
   ·refine zP ↥0 λb u J A C=>?_;rw[hb]at A C;cases B:o.toList[b]? with
    |none=>rw[B]at A;cases A
    |some q=>
     rw[B]at A C;cases A;cases C;have Q:q<VP.length:=i8.mp (z.mem_iff.mp<|jJ B);let⟨@J,n,be⟩:=E.get (b:=q) (f:=VR[q]'⋯) (by simp[show q<VR.length by lia]);rw[fL Q]at n;have n:=Option.some.inj n;simp only[List.getD,fL Q,fL (show q<VR.length by lia),rH];rw[n];exact be
end
def pM(V2:List Int)(b:Nat):Int:=(V2.getD b 0)
def T2(ah:V2.Nodup):∀b v,b<V2.length->v<V2.length->pM V2 b=pM V2 v->b=v:=λb v VF a c=>by
 unfold pM at c;rw[cR,cR,fL VF,fL a]at c;have d:V2[b]=V2[v]:=c;rcases HJ b v with e|e|e
 ·exact absurd d ((p6.mp ah) b v VF a e)
 ·exact e
 ·exact absurd d.symm ((p6.mp ah) v b a VF e)
def Lh(a:dd V2.length o)(f:ia (pM V2) o V2.length)(ah:V2.Nodup):(o.toList.map λb=>V2.getD b 0).Pairwise (· < ·):=by
 rw[p6];intro b v VF c g;have VN:=a.size;have i:b<V2.length:=by simpa [VN] using VF
 have d:v<V2.length:=by simpa [VN] using c
 have ne:=a.ne (T2 ah) g d;have le:=f b v ⋯ d;have L:∀q (e:q<(o.toList.map λb=>V2.getD b 0).length),(o.toList.map λb=>V2.getD b 0)[q]=bl (pM V2) o q:=λq e=>by
  have h:q<o.size:=by simpa using e
  rw[nv,Ji];show _=V2.getD (o.getD q 0) 0;simp[Array.getD,h]
 rw[L b VF,L v c];lia
section
variable{a:aK}
theorem tA{j:aA}:∀{V2:List Int}{VP:List af},bY (V2.map ar.int) VP->∀(b:Nat),b<V2.length->∃I,VP[b]?=Z (.int (V2.getD b 0) I)
 |w::r,_,.cons g d,0,e=>by let⟨@I,rfl⟩:=g;exact⟨I,rfl⟩
 |w::r,_,.cons g d,b+1,e=>by
  let⟨@I,c⟩:=tA (j:=j) d b ⇑e;exact⟨I,by simpa using c⟩
def OX(t:a.calm=V):eY a (.builtin "sorted") (λz j D=>∃(g:ae) (V2:List Int),z=[.ref g]/\j g=Z (.lst<|V2.map ar.int)/\V2.Nodup/\V2.length<=1000/\
  ∀M (k:List Int),j M=Y->k.Perm V2->k.Pairwise (· < ·)->D (.ref M) (upd j M<|.lst<|k.map ar.int)):=by
 intro G h x j z VZ D l r e;let⟨g,@V2,rfl,y,ah,B,p⟩:=e;let⟨@J,rfl,E⟩:=ih r;cases E;let@⟨i,⟨VP,@w,d,c⟩⟩:=l.aX g _ y;have m:VP.length=V2.length:=by rw[<-d.length,bB]
 refine BX t (pM V2) oneType' l d (.inl rfl) c rfl rfl (by rw[bB];exact B) (λC H Wq q P VD D L=>?_) (λH Wq q=>?_) (.inl ⋯) λo M f n a3=>?_
 ·refine kas_kind (T:=af.type "int") C (λu N=>?_) ∅ ∅ L;let⟨@b,VF⟩:=List.getElem?_of_mem N;let⟨@I,s⟩:=tA (j:=j) d b (by rw[<-m];exact (fY.mp VF).1);rw[VF]at s;cases s;exact z4 rfl
 ·intro b v aG VF S p;let⟨@I,A⟩:=tA (j:=j) d b ⋯;let⟨@J,C⟩:=tA (j:=j) d v ⋯;unfold fC;rw[u9 rfl,u9 rfl,cR,cR,A,C];show wpAny _ _ (keyLt' oneType' (.int _ I)<|.int _ J) _ _ _;rw[keyLt'_oneType];exact oneLt_int p
 ·rw[m]at f n;have O:(o.toList.map λb=>(V2.map ar.int).getD b .aS)=(o.toList.map λb=>V2.getD b 0).map ar.int:=by
   rw[f5];refine oE λq Q=>?_;have R:q<V2.length:=i8.mp (f.mem_iff.mp Q);show (V2.map ar.int).getD q .aS=ar.int (V2.getD q 0);simp[List.getD,R]
  rw[O];exact p M _ a3 (x5 f) (Lh f n ah)
end
end L2
namespace L2
open Spec PyProof.Rows
section
variable{a:aK}
def fi:List ab->List ab->List ab
 |f::z,t::VR=>.tup [f,t]::fi z VR
 |_,_=>[]
theorem zM:∀(z VR:List ab),(fi z VR).length=min z.length VR.length
 |[],VR=>by simp[fi]
 |f::z,[]=>by simp[fi]
 |f::z,t::VR=>by simp[fi,zM z VR]
theorem yT:∀(z VR:List ab) (b:Nat) (s:ab),(fi z VR)[b]?=Z s->∃f t,z[b]?=Z f/\VR[b]?=Z t/\s=.tup [f,t]
 |[],VR,b,s,e=>by simp[fi]at e
 |f::z,[],b,s,e=>by simp[fi]at e
 |f::z,t::VR,0,s,e=>by simp[fi]at e;exact⟨f,t,rfl,rfl,e.symm⟩
 |f::z,t::VR,b+1,s,e=>by
  let⟨g,d,A,C,a⟩:=yT z VR b s (by simpa [fi] using e);exact⟨g,d,by simpa using A,by simpa using C,a⟩
@[simp] def oy(L:aC (List bI)):jr:=λk=>(L k).bind λo=>(ir o.2 o.1).bind λB=>match B with
 |[.im (.tup f),.im<|.tup t]=>Z ((fi f t,Y),o.2)
 |_=>Y
theorem LW{R:Φ}{j:aA}{g d:ae}{z VR:List ar}{B U:List ab}(e:j g=Z (.tup z))(hd:bN j B z)(VB:j d=Z (.tup VR))(a:bN j U VR):lr (t_ R g d) j [] (fi B U) where
 go:=λQ I q b s c=>by
  let⟨f,t,p,r,rfl⟩:=yT B U b s c;let⟨u,k,v⟩:=hd.get p;let⟨J,V8,Wd⟩:=a.get r;have l:=cu.of (R:=R) (I.tup g _ e);have m:=cu.of (R:=R) (I.tup d _ VB);refine⟨⟨z,VR,u,J,l,m,k,V8⟩,λi C ⟨F,D,E,N,w,x,y,A⟩=>?_⟩;subst w x;have n:=y z l;have o:=A VR m;rw[k]at n;rw[V8]at o;cases n;cases o;have h:c8 Q (upd Q F<|.tup [u,J]):=(c8.refl Q).upd N;exact⟨h,F,[u,J],rfl,eW,⟨u,[J],rfl,(v.mono I.tup).mono h.tupS.tup,J,[],rfl,(Wd.mono I.tup).mono h.tupS.tup,rfl⟩⟩
 stop:=λQ I q=>⟨z,VR,cu.of<|I.tup g _ e,cu.of<|I.tup d _ VB,by rw[zM,<-hd.length,<-a.length];lia⟩
def Dx{g d:bt}{L:aC (List bI)}{o VT:Pos}{U:List bt}{W3:Nat}{VQ:Pos}(i:eG a "zip")(l:a.aB "zip" = Y)(b:fD a [g,d] L)(VN:bP [g,d] a.env=[(aq,b_ g a.env),(aq,b_ d a.env)]:=by rfl)(m:bP [d] a.env=[(aq,b_ d a.env)]:=by rfl):
  mX a (.Tuple U W3 VQ) (.Call (.Name "zip" o) [g,d] [] VT) (oy L):=by
 refine vb (KL i l b VN m) λx j y ⟨k,O,r,VW,X,ah,n,p⟩=>?_;let⟨⟨VV,VK⟩,A,C⟩:=bM.mp n;let⟨B,q,e⟩:=bM.mp C;refine⟨k,O,VV,VK,X,ah,A,λT VL VY D f V5 s=>?_⟩;have t:=V5.read f q;split at e
 ·cases e;let⟨u,J,rfl,c,v⟩:=zJ t;let⟨g,z,rfl,V8,Wd⟩:=c;let⟨d,VR,rfl,h,w⟩:=v;exact⟨g,d,rfl,⟨z,cu.of V8⟩,⟨VR,cu.of h⟩,p _ VL VY [] f (LW V8 Wd h w) trivial (λg b=>nomatch b) (by rw[cj];exact s.both)⟩
 ·cases e
@[simp] def Vd:hE:=λB=>match B with
 |[.im (.int b),.im<|.int v,.im<|.int q]=>Z (.im<|.int<|min (min b v) q)
 |_=>Y
def lQ(lt:ab->ab->Bool)(f:ab):List ab->List ab
 |[]=>[f]
 |t::r=>if lt f t=V then f::t::r else t::lQ lt f r
def gN(lt:ab->ab->Bool):List ab->List ab
 |[]=>[]
 |f::r=>lQ lt f (gN lt r)
def wC:ab->ab->Bool
 |.int b,.int v=>decide (b<v)
 |_,_=>aq
def my:List ab->Option (List Int)
 |[]=>Z []
 |.int b::r=>(my r).map λh=>b::h
 |_::_=>Y
@[simp] def Au:hE:=λB=>match B with
 |[.lst f]=>(my f).bind λV2=>if V2.Nodup/\V2.length<=1000 then Z (.lst<|gN wC f) else Y
 |_=>Y
def SG(V2:List Int):my (V2.map .int)=Z V2:=by
 induction V2 with
 |nil=>rfl
 |cons w r a=>rw[cS,my,a];rfl
def nk(f:Int):List Int->List Int
 |[]=>[f]
 |t::r=>if f<t then f::t::r else t::nk f r
def qX:List Int->List Int
 |[]=>[]
 |f::r=>nk f (qX r)
theorem IK(f:Int):∀M:List Int,lQ wC (.int f) (M.map .int)=(nk f M).map .int
 |[]=>rfl
 |t::r=>by
  rw[cS,lQ,nk,wC];by_cases e:f<t
  ·rw[aJ ⇑e,aJ e];rfl
  ·rw[aP ⇑e,aP e,IK f r];rfl
theorem Ha:∀M:List Int,gN wC (M.map .int)=(qX M).map .int
 |[]=>rfl
 |f::r=>by rw[cS,gN,Ha r,IK];rfl
theorem yR(f:Int):∀M:List Int,(nk f M).Perm (f::M)
 |[]=>List.Perm.refl _
 |t::r=>by
  rw[nk];split
  ·exact List.Perm.refl _
  ·exact ((yR f r).cons t).trans (List.Perm.swap f t r)
theorem AJ:∀M:List Int,(qX M).Perm M
 |[]=>List.Perm.refl _
 |f::r=>(yR f _).trans ((AJ r).cons f)
theorem Fj(f:Int):∀M:List Int,M.Pairwise (·<=·)->(nk f M).Pairwise (·<=·)
 |[],_=>fN _ _
 |t::r,e=>by
  let⟨A,C⟩:=fZ.mp e;rw[nk];split
  ·rename_i b;refine fZ.mpr ⟨λi a=>?_,e⟩;rcases bO.mp a with rfl|a
   ·lia
   ·have:=A i a;lia
  ·rename_i b;refine fZ.mpr ⟨λi a=>?_,Fj f r C⟩;rcases bO.mp ((yR f r).mem_iff.mp a) with rfl|a
   ·lia
   ·exact A i a
theorem B6:∀M:List Int,(qX M).Pairwise (·<=·)
 |[]=>List.Pairwise.nil
 |f::r=>Fj f _ (B6 r)
def Lx{M:List Int}(e:M.Nodup):(qX M).Pairwise (· < ·):=by
 have A:=B6 M;have C:(qX M).Nodup:=(AJ M).nodup_iff.mpr e;exact T1 (λg d f t=>⋯) A C
theorem DK:∀{M H:List Int},M.Perm H->M.Pairwise (· < ·)->H.Pairwise (· < ·)->M=H
 |[],H,e,_,_=>e.nil_eq
 |g::M,[],e,_,_=>absurd e.length_eq ↥0
 |g::M,d::H,e,f,h=>by
  have a:=fZ.mp f;have b:=fZ.mp h;have c:g=d:=by
   rcases bO.mp (e.mem_iff.mp<|.head _) with i|i
   ·exact i
   ·rcases bO.mp (e.mem_iff.mpr<|.head _) with t|t
    ·exact t.symm
    ·have A:=a.1 d t;have C:=b.1 g i;omega
  subst c;rw[DK e.cons_inv a.2 b.2]
theorem z8:∀{f:List ab}{V2:List Int},my f=Z V2->f=V2.map .int
 |[],V2,e=>by cases e;rfl
 |.int b::r,V2,e=>by
  rw[my]at e;let⟨h,A,rfl⟩:=cv.mp e;rw[z8 A];rfl
 |.aS::_,_,e=>by cases e
 |.aF _::_,_,e=>by cases e
 |.str _::_,_,e=>by cases e
 |.tup _::_,_,e=>by cases e
 |.fn _::_,_,e=>by cases e
 |.a3 _::_,_,e=>by cases e
 |.fd::_,_,e=>by cases e
theorem AE{j:aA}:∀{V2:List Int}{T:List ar},bN j (V2.map .int) T->T=V2.map ar.int
 |[],T,e=>e
 |w::r,T,e=>by
  let⟨u,I,rfl,A,C⟩:=e;cases (show u=.int w from A);rw[AE C];rfl
theorem Df{j:aA}:∀V2:List Int,bN j (V2.map .int) (V2.map ar.int)
 |[]=>rfl
 |w::r=>⟨.int w,_,rfl,rfl,Df r⟩
def S3(e:a.calm=V)(k:a.A.units+20<b9):g5 a (.builtin "sorted") Au:=by
 refine (OX e).imp λz j D ⟨B,s,g,c,p⟩=>?_;unfold Au at c;split at c
 ·rename_i f;let⟨V2,h,b⟩:=bM.mp c;split at b
  ·rename_i d;cases b;let⟨u,rfl,W,o,z,rfl,A,C,W⟩:=gv g;cases z8 h;cases AE C;refine⟨o,V2,rfl,A,d.1,d.2,λM m a3 Wa i=>?_⟩;rw[Ha]at p;rw[DK (Wa.trans (AJ V2).symm) i (Lx d.1)];exact cb.l p a3 (Df _)
  ·cases b
 ·cases c
def zv(b:a.A.units+20<b9):uG a mT:=DR
end
end L2
namespace L2
variable{g e L d:bo}{c:aC ak}{own H w:Nat}{B:List ak}{V4:List Nat}{m:Option (Nat×ak)}{z:List ab}{s:ak}{VK k:a5}{n:aC Bool}{Wh:fs}{V7:Type}{v b:Int}
@[simp] theorem Vt(s:ab)(k:a5):au s k=Z (.im s,k):=rfl
@[simp] theorem tQ(k:a5):ay k=Z ([],k):=rfl
@[simp] theorem Vz(k:a5):fa k=Z (.aI,k):=rfl
@[simp] theorem Vi(k:a5):jl k=Z (Y,k):=rfl
@[simp] theorem Vr(k:a5):d8 k=Z (V,k):=rfl
@[simp] theorem Vx(s:ab):(ak.im s).dH=V:=rfl
@[simp] theorem Vy(s:List ab):(ak.dE s).dH=V:=rfl
@[simp] theorem Vn(s:List ab):(ak.lst s).dH=aq:=rfl
@[simp] theorem VA(s:List (List ab×ab)):(ak.aR s).dH=aq:=rfl
@[simp] theorem Vb(s:List (eR×ab)):(ak.dR s).dH=aq:=rfl
@[simp] theorem Cu(k:a5)(s:ak):cY k (.cA s)=Z s:=rfl
@[simp] theorem Bq(k:a5)(b:Nat):cY k (.a6 b)=(k[b]?).getD Y:=rfl
@[simp] theorem vV(k:a5):ir k []=Z []:=rfl
@[simp] theorem uz(k:a5)(m:bI)(VV:List bI):ir k (m::VV)=(cY k m).bind λs=>(ir k VV).map λB=>s::B:=rfl
@[simp] theorem Vv(k:a5):ek [] k=Z ([],k):=rfl
@[simp] theorem Vs(s:ak)(VV:List bI)(k:a5):ek (.cA s::VV) k=(ek VV k).map λo=>(s::o.1,o.2):=rfl
@[simp] theorem Vm(b:Nat)(VV:List bI)(k:a5):ek (.a6 b::VV) k=(fB b k).bind λo=>(ek VV o.2).map λp=>(o.1::p.1,p.2):=rfl
@[simp] theorem KE:hF []=Z []:=rfl
@[simp] theorem Vw(s:ab)(B:List ak):hF (.im s::B)=(hF B).map λr=>s::r:=rfl
@[simp] theorem U9(d:Bool):mU (.im<|.aF d)=Z d:=rfl
def mi(A : -(2^64)<v)(C:v<2^64):gC b v=V:=by
 have:bx.Int.intBits v<=64:=Cw A C;have VB:¬ (bx.Int.intBits v>uX):=Ew.mpr this;unfold gC;rw[eB VB];simp
def yw(A : -(2^64)<b)(C:b<2^64):gC b v=V:=by
 have:bx.Int.intBits b<=64:=Cw A C;have VB:¬ (bx.Int.intBits b>uX):=Ew.mpr this;unfold gC;rw[eB VB];simp
def Hq{z:List V7}(e:z.length<=w):z.take w=z:=vv e
def sv(z:List V7)(q:Nat):gh z (Z (q:Int)) Y=z.drop q:=by
 unfold gh;rw[dz.Io,dz.Bj];by_cases e:q<=z.length
 ·rw[p4 e,Hq (by rw[gQ];lia)]
 ·rw[CI ⋯,ys,xe,m3 ⋯]
def Bf(z:List V7)(q:Nat):gh z Y (Z (q:Int))=z.take q:=by
 unfold gh;rw[dz.Io,dz.Bj,mC,AI];by_cases e:q<=z.length
 ·rw[p4 e]
 ·rw[CI ⋯,qO,Hq ⋯]
def xU{z:List V7}{s:V7}(WE:0<=b)(e:z[b.toNat]?=Z s):e5 z b=Z s:=by
 unfold e5 mn;have VF:b.toNat<z.length:=(fY.mp e).1;rw[aJ WE,aJ ⋯];exact e
def II{z:List V7}{s:V7}(e:z.getLast?=Z s):e5 z (-1)=Z s:=by
 rw[DE]at e;have VF:z.length-1<z.length:=(fY.mp e).1;unfold e5 mn;rw[aP ∅,aJ ⋯];show z[(-1+(z.length:Int)).toNat]?=Z s;rw[show (-1+(z.length:Int)).toNat=z.length-1 by lia];exact e
def P0(l:Nat->a5->Prop)(VI:ak->a5->Prop):∀{z:List ab}{k:a5},l 0 k->
  (∀(b:Nat) (f:ab) (k:a5),z[b]?=Z f->l b k->∃VK a3 Wf,Wh (.im f) k=Z VK/\d VK=Z (a3,Wf)/\(((a3=.aI\/a3=.cI)/\l (b+1) Wf)\/∃s,a3=.cB s/\VI s Wf))->
  (∃VW,ed Wh d z k=Z (.aI,VW)/\l z.length VW)\/∃s VW,ed Wh d z k=Z (.cB s,VW)/\VI s VW:=by
 intro z;induction z generalizing l with
 |nil=>intro k WE W;exact .inl ⟨k,rfl,WE⟩
 |cons f r a=>
  intro k WE e;let⟨VK,a3,@Wf,A,C,g⟩:=e 0 f k rfl WE;rcases g with ⟨h,i⟩|⟨s,rfl,j⟩
  ·have:=a (λb=>l<|b+1) (k:=Wf) i λb t VW m n=>e (b+1) t VW ⇑m n;have c:ed Wh d (f::r) k=ed Wh d r Wf:=by
    rw[ed];dsimp only;rw[A];show (d VK).bind _=_;rw[C];rcases h with rfl|rfl<;>rfl
   rw[c];exact this
  ·refine .inr ⟨s,Wf,?_,j⟩;rw[ed];dsimp only;rw[A];show (d VK).bind _=_;rw[C];rfl
def z1(l:Nat->a5->Prop){z:List ab}{k:a5}(WE:l 0 k)(e:∀(b:Nat) (f:ab) (k:a5),z[b]?=Z f->l b k->∃VK a3 Wf,Wh (.im f) k=Z VK/\d VK=Z (a3,Wf)/\(a3=.aI\/a3=.cI)/\l (b+1) Wf):
  ∃VW,ed Wh d z k=Z (.aI,VW)/\l z.length VW:=by
 rcases P0 l (λ_ W=>False) WE (λb f k a c=>by
  let⟨VK,a3,@Wf,A,C,g,h⟩:=e b f k a c;exact⟨VK,a3,Wf,A,C,.inl ⟨g,h⟩⟩) with e|⟨_,_,_,e⟩
 ·exact e
 ·exact e.elim
def y8(l:Nat->a5->Prop)(b:a5->Prop)(step:∀H k,l H k->∃I VK,n k=Z (I,VK)/\(I=V->∃a3 Wf,d VK=Z (a3,Wf)/\(a3=.aI\/a3=.cI)/\∃a,a<H/\l a Wf)/\(I=aq->b VK)):
  ∀(w H:Nat) (k:a5),l H k->H<w->∃VW,j_ n d w k=Z (.aI,VW)/\b VW:=by
 intro w;induction w with
 |zero=>intro H k W e;lia
 |succ w c=>
  intro H k f o;let⟨I,@VK,A,C,g⟩:=step H k f;rw[j_];dsimp only;rw[A];cases I with
  |false=>exact⟨VK,rfl,g rfl⟩
  |true=>
   let⟨a3,@Wf,h,hf,⟨@a,p,i⟩⟩:=C rfl;let⟨@VW,j,m⟩:=c a Wf i ⋯;refine⟨VW,?_,m⟩;simp only[qP,fl,h];rcases hf with rfl|rfl<;>exact j
def ME(z:List V7):z.filter (λ_=>V)=z:=List.filter_eq_self.mpr λ_ W=>rfl
def ej(c:L k=Z (.aI,VK)):bL L e k=e VK:=by unfold bL;rw[c];rfl
def q0(c:L k=Z (.cB s,VK)):bL L e k=Z (.cB s,VK):=by unfold bL;rw[c];rfl
def Gi{L:jr}{Wf:a5}{a3:n0}(c:L k=Z ((z,m),VK))(e:ed Wh d z VK=Z (a3,Wf)):g0 L Wh d k=Z (a3,l8 m Wf):=by
 unfold g0;rw[c];show (ed Wh d z VK).map _=_;rw[e];rfl
def Qh{r:ak}(a:B.length=w)(c:L (B.map Z++replicate (H-w) Y)=Z (.cB r,k)):c6 w H V4 L B=Z (r,j4 V4 B k 0):=by
 unfold c6;rw[aJ a,c]
def oO{Wi:List Nat}{E:jr}{a:a5}{B:List ab}(A:E k=Z ((z,m),VK))(C:h8 own Wh n c z [] (kX Wi VK)=Z (B,a)):dg own Wi E Wh n c k=Z (.lst B,l8 m<|jq Wi a VK):=by
 unfold dg;rw[A];show (h8 own Wh n c z []<|kX Wi VK).map _=_;rw[C];rfl
def dY{L:aC ak}(c:L k=Z (s,VK)):cG L k=Z (.cB s,VK):=by unfold cG;rw[c];rfl
def sW{b:Nat}{L:aC ak}(c:L k=Z (s,VK))(e:b<VK.length):cn b L k=Z (.aI,VK.set b<|Z s):=by unfold cn;rw[c];show (if b<VK.length then _ else _)=_;rw[aJ e]
def nx(c:n k=Z (V,VK)):ee n g d k=g VK:=by unfold ee;rw[c];rfl
def qL(c:n k=Z (aq,VK)):ee n g d k=d VK:=by unfold ee;rw[c];rfl
def ix(k:a5){r:ak}{i:List ak}(a:B.length=w)(c:L (B.map Z++replicate (H-w) Y)=Z (.cB r,k))(b:j4 V4 B k 0=i):c6 w H V4 L B=Z (r,i):=by
 rw[Qh a c,b]
theorem q4{V7:Type}{own:Nat}{Wh:fs}{n:aC Bool}{c:aC ak}{aG:a5}(b:V7->ab)(o:V7->Bool)(N:V7->ab):∀(z:List V7) (a:List ab),(∀f∈z,∃VK Wf,Wh (.im<|b f) (replicate own Y++aG)=Z VK/\n VK=Z (o f,Wf)/\(o f=aq->Wf.drop own=aG)/\(o f=V->∃F,c Wf=Z (.im<|N f,F)/\F.drop own=aG))->
  a.length+z.length<=100000->h8 own Wh n c (z.map b) a aG=Z (a++(z.filter o).map N,aG)
 |[],a,_,_=>by simp[h8]
 |f::r,a,e,h=>by
  let⟨VK,@Wf,A,C,i,j⟩:=e f (.head _);rw[dV]at h;rw[cS,h8,A];show (n VK).bind _=_;rw[C];show (if o f=V then _ else _)=_;cases d:o f with
  |false=>
   rw[aP eu];show h8 own Wh n c (r.map b) a (Wf.drop own)=_;rw[i d,q4 b o N r a (λt g=>e t<|.tail _ g) ⋯,H2,d];rfl
  |true=>
   let⟨@F,k,l⟩:=j d;rw[aJ rfl];show (c Wf).bind _=_;rw[k];show (if a.length<100000 then h8 own Wh n c (r.map b) (a++[N f]) (F.drop own) else Y)=_;rw[aJ ⋯,l,q4 b o N r (a++[N f]) (λt g=>e t<|.tail _ g) (by rw[d7,ko];lia),H2,d];simp
def jn{aG:a5}(a:V7->ab)(N:V7->ab)(z:List V7)(e:∀f∈z,∃VK Wf F,Wh (.im<|a f) (replicate own Y++aG)=Z VK/\n VK=Z (V,Wf)/\c Wf=Z (.im<|N f,F)/\F.drop own=aG)(h:z.length<=100000):h8 own Wh n c (z.map a) [] aG=Z (z.map N,aG):=by
 have:=q4 (own:=own) (Wh:=Wh) (n:=n) (c:=c) (aG:=aG) a (λ_=>V) N z [] (λf b=>by
  let⟨VK,Wf,@F,A,C,d,g⟩:=e f b;exact⟨VK,Wf,A,C,(λi=>by cases i),(λ_=>⟨F,d,g⟩)⟩) (by rw[tC];lia)
 rw[ME]at this;exact this
end L2
namespace G
open L2
abbrev aL(b:Int):ak:=.im (.int b)
end G
namespace L2
open Spec PyProof.Rows
variable{fd:gR}{N VH I g:ae}{q W3 Wd V8 b:Nat}{c WX WG Wh:bt}{WA:bc}{J:gm}{Wi:List Nat}{own VQ:List aD}{V1:hp}{WV U:List bt}{Xe WW o VT:Pos}{WQ:aD}{L:aC (List bI)}{B:List ab}{VI:List ae}{s:ak}{V6:Type}{u:ar}{R:Φ}{D:af->ao->Prop}{f:af}{V9 VR z:Array af}{h:ao}{j:aA}{x:a8}{G:List (ae×bc)}{a:aK}{VB e:aY}{d:Bool}
def hC(d:Bool)(e:aY)(VH g:ae)(b:Nat):Prop:=(if d=V then e.IsListIter VH g b else e.IsTupleIter VH g b)
def hB(d:Bool)(e:aY)(g:ae)(z:Array af):Prop:=(if d=V then e.IsList g z else e.IsTuple g z)
def hj(d:Bool)(R:Φ)(j:aA)(g:ae)(z:List ar):Prop:=(if d=V then dv R j g z else cu R j g z)
def g_(d:Bool):String:=(if d=V then "list_iterator" else "tuple_iterator")
def ji(f:hC d e g I b)(q:∀m,e.get? g=Z m->VB.get? g=Z m):hC d VB g I b:=by
 cases d with
 |true=>let⟨@m,c,r⟩:=f;exact⟨m,q m c,r⟩
 |false=>let⟨@m,c,r⟩:=f;exact⟨m,q m c,r⟩
def qT(f:hB d e g z)(q:∀m,e.get? g=Z m->VB.get? g=Z m):hB d VB g z:=by
 cases d with
 |true=>let⟨@m,c,r⟩:=f;exact⟨m,q m c,r⟩
 |false=>let⟨@m,c,r⟩:=f;exact⟨m,q m c,r⟩
def vx(f:hC d e g I b):∃m,e.get? g=Z m/\∀u,m.data≠.cell u:=by
 cases d with
 |true=>let⟨@m,c,W,s⟩:=f;exact⟨m,c,λu i=>by rw[s]at i;cases i⟩
 |false=>let⟨@m,c,W,s⟩:=f;exact⟨m,c,λu i=>by rw[s]at i;cases i⟩
def EP(f:hB d e g z):∃m,e.get? g=Z m:=by
 cases d with
 |true=>let⟨@m,c,W⟩:=f;exact⟨m,c⟩
 |false=>let⟨@m,c,W⟩:=f;exact⟨m,c⟩
def D4(c:e.get? g=Z {cls:=.type (g_ d),data:=.fields #[.ref I,.int 0 0]}):hC d e g I 0:=by
 cases d with
 |true=>exact⟨_,c,rfl,rfl⟩
 |false=>exact⟨_,c,rfl,rfl⟩
def aH.pB{z:List ar}(l:aH a G x j h)(e:hj d a.K j g z):∃VP:List af,bY z VP/\hB d h.heap g VP.toArray/\z.length<=sizeLine:=by
 cases d with
 |true=>
  let⟨@VP,r,o,i⟩:=l.list e;exact⟨VP,r,o.isList,i⟩
 |false=>
  let⟨@VP,r,o,i⟩:=l.tuple e;exact⟨VP,r,o,i⟩
def aH.IU{z VR:List ar}(l:aH a G x j h)(e:hj d a.K j g z)(VB:hj d a.K j g VR):z=VR:=by
 cases d with
 |true=>exact l.GH e VB
 |false=>exact l.tS e VB
section
variable{VO:bF}{y:bj}{P:bE}{VD:af->ao->Prop}{h:ao}
def yv(a:hC d h.heap VH I b)(c:hB d h.heap I V9)(e:V9[b]?=Z f)(p:∀VB,hC d VB VH I (b+1)->aY.SameBut VH h.heap VB->D f {h with heap:=VB}):wpAny (aW VO y) P (bx.SmallTypes.nextOf<|.ref VH) D VD h:=by
 cases d with
 |true=>exact wpAny_nextOf_list_item a c e p
 |false=>exact vs a c e p
def BN(a:P.handled=Y)(e:hC d h.heap VH I b)(f:hB d h.heap I V9)(g:V9[b]?=Y)(p:∀VB c,aY.ExtBut VH h.heap VB->(∃m,VB.get? c=Z m/\m.cls=.type "StopIteration")->VD (.ref c) {h with heap:=VB}):wpAny (aW VO y) P (bx.SmallTypes.nextOf<|.ref VH) D VD h:=by
 cases d with
 |true=>exact wpAny_nextOf_list_end a e f g p
 |false=>exact yB a e f g p
variable{d g:af}
def U0{aU aV:Bool}{i b2 bQ b e q r:ae}{t:af}(k:ng i b2 bQ b e q r)(s:fG h.heap i b2 bQ .none)(an:e4 h.heap b2 (.ref b) (.ref e))(ap:e4 h.heap bQ g d)(A:hC aU h.heap b q V8)(C:hC aV h.heap e r Wd)(as:hB aU h.heap q z)(a1:hB aV h.heap r VR)(a2:z[V8]?=Z f)(bd:VR[Wd]?=Z t)(be:∀VB,fG VB i b2 bQ (ja h.heap.objs.size)->e4 VB bQ f t->hC aU VB b q (V8+1)->hC aV VB e r (Wd+1)->e4 VB h.heap.objs.size f t->
   (∀n m,n≠i->n≠bQ->n≠b->n≠e->h.heap.get? n=Z m->VB.get? n=Z m)->D (.ref h.heap.objs.size) {h with heap:=VB}):
  wpAny (aW VO y) P (bx.«zip.__next__» ⟨[.ref i],[]⟩) (λfin VE=>∃u,fin=.done (.ret u)/\D u VE) VD h:=by
 show wpAny _ _ (field (.ref i) 2 >>= _) _ _ _;refine ax (fU s rfl (x:=.bool aq) rfl ?_);show wpAny _ _ (field (.ref i) 3 >>= _) _ _ _;refine ax (fU s rfl (x:=.ref b2) rfl<|ax<|fX an rfl ?_);show wpAny _ _ (bx.SmallTypes.ownedTupleIsFree (.ref i) >>= _) _ _ _;apply ax;unfold bx.SmallTypes.ownedTupleIsFree;refine ax (fU s rfl (x:=.none) rfl<|ba ?_);simp only[fl];refine ax (iu (ax (fU s rfl (x:=.ref bQ) rfl (ax (jA s ↥0 λbK G j=>?_)))));replace G:fG bK i b2 bQ .ellipsis:=G;apply ax;simp only[sx,tK,pH,uQ];refine ax (ax<|m9 ?_);show wpAny _ _ (bx.SmallTypes.nextOf (.ref b) >>= _) _ _ _;refine ax (yv (h:={h with heap:=bK}) (ji A λm c=>j.extBut _ m k.i1z c) (qT as λm c=>j.extBut _ m k.l1z c) a2 λH bi o=>ba ?_);have O:e4 H bQ g d:=o.extBut _ _ k.TOi1 (j.extBut _ _ k.TOz ap);refine ax (fX (s:={h with heap:=H}) O rfl<|ax<|pD (s:={h with heap:=H}) O λQ I p=>?_);replace I:e4 Q bQ f d:=I;refine ax (iF<|ba<|ax<|ax<|m9 ?_);show wpAny _ _ (bx.SmallTypes.nextOf (.ref e) >>= _) _ _ _;refine ax (yv (h:={h with heap:=Q}) (ji C λm c=>p.extBut _ m k.TOi2.symm<|o.extBut _ m k.i12.symm<|j.extBut _ m k.i2z c) (qT a1 λm c=>p.extBut _ m k.l2TO<|o.extBut _ m k.l2i1<|j.extBut _ m k.l2z c) bd λJ bm v=>ba ?_);have Wt:e4 J bQ f d:=v.extBut _ _ k.TOi2 I;refine ax (fX (s:={h with heap:=J}) Wt rfl<|ax<|pD (s:={h with heap:=J}) Wt λa Wv w=>?_);replace Wv:e4 a bQ f t:=Wv;refine ax (iF<|ba<|ba<|ax<|fX (s:={h with heap:=a}) Wv rfl<|ax<|Aq ?_);have R:a.objs.size=h.heap.objs.size:=by rw[w.1,v.1,p.1,o.1,j.1]
 have S:fG a i b2 bQ .ellipsis:=w.extBut _ _ k.TOz.symm (v.extBut _ _ k.i2z.symm<|p.extBut _ _ k.TOz.symm<|o.extBut _ _ k.i1z.symm G);have bn:∀n m,n≠i->n≠bQ->n≠b->n≠e->h.heap.get? n=Z m->a.get? n=Z m:=λn m l x L M c=>w.extBut _ _ x (v.extBut _ _ M<|p.extBut _ _ x<|o.extBut _ _ L<|j.extBut _ _ l c);have aU:hC aU a b q (V8+1):=ji bi λm c=>w.extBut _ m k.TOi1.symm (v.extBut _ m k.i12<|p.extBut _ m k.TOi1.symm c);have aV:hC aV a e r (Wd+1):=ji bm λm c=>w.extBut _ m k.TOi2.symm c;have T:i<a.objs.size:=cg S;show wpAny _ _ (bx.SmallTypes.ownedTupleHandOut (.ref i) (.ref a.objs.size) >>= _) _ _ _;apply ax;unfold bx.SmallTypes.ownedTupleHandOut;have bs:fG (a.push {cls:=.type "tuple",data:=.seq #[f,t]}) i b2 bQ .ellipsis:=b4 _ S;refine ax (jA bs ↥0 λbv N U=>?_);replace N:fG bv i b2 bQ (ja a.objs.size):=N;refine jA N ↥0 λB E al=>?_;replace E:fG B i b2 bQ (ja a.objs.size):=E;have F:∀n m,n≠i->a.get? n=Z m->B.get? n=Z m:=λn m l c=>al.extBut _ _ l (U.extBut _ _ l<|b4 _ c);have am:e4 B a.objs.size f t:=al.extBut _ _ (jR T) (U.extBut _ _ (jR T)<|dr _ rfl);rw[R]at E am;refine ba ⟨_,rfl,?_⟩;show D (.ref a.objs.size) _;rw[R];exact be B E (F _ _ k.TOz Wv) (ji aU λm c=>F _ m k.i1z c) (ji aV λm c=>F _ m k.i2z c) am λn m l x L M c=>F n m l (bn n m l x L M c)
def Tu{aU aV:Bool}{i b2 bQ o q w x:ae}{D:PySem.Fin->ao->Prop}(I:P.handled=Y)(k:ng i b2 bQ o q w x)(r:fG h.heap i b2 bQ .none)(S:e4 h.heap b2 (.ref o) (.ref q))(T:e4 h.heap bQ g d)(A:hC aU h.heap o w V8)(C:hC aV h.heap q x Wd)(J:hB aU h.heap w z)(U:hB aV h.heap x VR)(al:z[V8]?=Y\/VR[Wd]?=Y)(L:∀VB c,(∀n m,n≠i->n≠bQ->n≠o->n≠q->h.heap.get? n=Z m->VB.get? n=Z m)->(∃m,VB.get? c=Z m/\m.cls=.type "StopIteration")->VD (.ref c) {h with heap:=VB}):
  wpAny (aW VO y) P (bx.«zip.__next__» ⟨[.ref i],[]⟩) D VD h:=by
 show wpAny _ _ (field (.ref i) 2 >>= _) _ _ _;refine ax (fU r rfl (x:=.bool aq) rfl ?_);show wpAny _ _ (field (.ref i) 3 >>= _) _ _ _;refine ax (fU r rfl (x:=.ref b2) rfl<|ax<|fX S rfl ?_);show wpAny _ _ (bx.SmallTypes.ownedTupleIsFree (.ref i) >>= _) _ _ _;apply ax;unfold bx.SmallTypes.ownedTupleIsFree;refine ax (fU r rfl (x:=.none) rfl<|ba ?_);simp only[fl];refine ax (iu (ax (fU r rfl (x:=.ref bQ) rfl (ax (jA r ↥0 λbK v a=>?_)))));replace v:fG bK i b2 bQ .ellipsis:=v;apply ax;simp only[sx,tK,pH,uQ];refine ax (ax<|m9 ?_);show wpAny _ _ (bx.SmallTypes.nextOf (.ref o) >>= _) _ _ _;cases B:z[V8]? with
 |none=>
  refine ax (BN (h:={h with heap:=bK}) I (ji A λm c=>a.extBut _ m k.i1z c) (qT J λm c=>a.extBut _ m k.l1z c) B λs c b E=>?_);let⟨@WC,j,t⟩:=E;have M:fG s i b2 bQ .ellipsis:=b _ _ k.i1z.symm v;have F:c≠i:=λp=>by subst p;rw[M]at j;cases j;simp at t
  refine jA M ↥0 λG W l=>L G c (λn m u W H W p=>l.extBut _ _ u<|b _ _ H<|a.extBut _ _ u p) ⟨WC,l.extBut _ _ F j,t⟩
 |some f=>
  have am:VR[Wd]?=Y:=by
   rcases al with e|e
   ·rw[B]at e;cases e
   ·exact e
  refine ax (yv (h:={h with heap:=bK}) (ji A λm c=>a.extBut _ m k.i1z c) (qT J λm c=>a.extBut _ m k.l1z c) B λs a2 b=>ba ?_);have N:e4 s bQ g d:=b.extBut _ _ k.TOi1 (a.extBut _ _ k.TOz T);refine ax (fX (s:={h with heap:=s}) N rfl<|ax<|pD (s:={h with heap:=s}) N λG bd l=>?_);refine ax (iF<|ba<|ax<|ax<|m9 ?_);show wpAny _ _ (bx.SmallTypes.nextOf (.ref q) >>= _) _ _ _;refine ax (BN (h:={h with heap:=G}) I (ji C λm c=>l.extBut _ m k.TOi2.symm<|b.extBut _ m k.i12.symm<|a.extBut _ m k.i2z c) (qT U λm c=>l.extBut _ m k.l2TO<|b.extBut _ m k.l2i1<|a.extBut _ m k.l2z c) am λan c O E=>?_);let⟨@WC,j,t⟩:=E;have Q:fG an i b2 bQ .ellipsis:=O _ _ k.i2z.symm (l.extBut _ _ k.TOz.symm<|b.extBut _ _ k.i1z.symm v);have F:c≠i:=λp=>by subst p;rw[Q]at j;cases j;simp at t
  refine jA Q ↥0 λap W R=>L ap c (λn m u as H a1 p=>R.extBut _ _ u<|O _ _ a1<|l.extBut _ _ as<|b.extBut _ _ H<|a.extBut _ _ u p) ⟨WC,R.extBut _ _ F j,t⟩
end
def kG(aU aV:Bool)(e:aY)(a b:ae):aY:=(((((e.push {cls:=.type (g_ aU),data:=.fields #[.ref a,.int 0 0]}).push {cls:=.type (g_ aV),data:=.fields #[.ref b,.int 0 0]}).push {cls:=.type "tuple",data:=.seq #[.ref e.objs.size,.ref (e.push {cls:=.type (g_ aU),data:=.fields #[.ref a,.int 0 0]}).objs.size]}).push {cls:=.type "tuple",data:=.seq #[.none,.none]}))
def KZ(aU aV:Bool)(a b:ae)(z VR:Array af):
    Meets (bx.«zip.__new__» ⟨[.type "zip", .ref a,.ref b],[]⟩) (λ_ VI h => hB aU h.heap a z /\ hB aV h.heap b VR /\
      VI (.ok<|.ret<|.ref (kG aU aV h.heap a b).objs.size) {h with heap:=(kG aU aV h.heap a b).push {cls:=.type "zip", data:=.fields #[.none,.bool aq,.bool aq,.ref ((h.heap.push {cls:=.type (g_ aU),data:=.fields #[.ref a,.int 0 0]}).push {cls:=.type (g_ aV),data:=.fields #[.ref b,.int 0 0]}).objs.size,
        .ref (((h.heap.push {cls:=.type (g_ aU),data:=.fields #[.ref a,.int 0 0]}).push {cls:=.type (g_ aV),data:=.fields #[.ref b,.int 0 0]}).push {cls:=.type "tuple", data:=.seq #[.ref h.heap.objs.size,.ref (h.heap.push {cls:=.type (g_ aU),data:=.fields #[.ref a,.int 0 0]}).objs.size]}).objs.size]} }) :=
  .of_wp λVO y P VI h e => by
    let⟨d,L,s,Wq,VV⟩:=h;let@⟨i,k,e⟩:=e;have l:=sub_zip;have j:hB aV (d.push {cls:=.type (g_ aU),data:=.fields #[.ref a,.int 0 0]}) b VR:=qT k λm c => b4 _ c;cases aU <;> cases aV
    · have f:aY.IsTuple (ao.heap ⟨d,L,s,Wq,VV⟩) a z:=i
      have g:aY.IsTuple (ao.heap ⟨d.push {cls:=.type "tuple_iterator", data:=.fields #[.ref a,.int 0 0]}, L,s,Wq,VV⟩) b VR:=j
      wp_walk using wpAny_pyIter_tuple f,wpAny_pyIter_tuple g
      exact ⟨_,rfl,e⟩
    · have f:aY.IsTuple (ao.heap ⟨d,L,s,Wq,VV⟩) a z:=i
      have g:aY.IsList (ao.heap ⟨d.push {cls:=.type "tuple_iterator", data:=.fields #[.ref a,.int 0 0]}, L,s,Wq,VV⟩) b VR:=j
      wp_walk using wpAny_pyIter_tuple f,wpAny_pyIter_list g
      exact ⟨_,rfl,e⟩
    · have f:aY.IsList (ao.heap ⟨d,L,s,Wq,VV⟩) a z:=i
      have g:aY.IsTuple (ao.heap ⟨d.push {cls:=.type "list_iterator", data:=.fields #[.ref a,.int 0 0]}, L,s,Wq,VV⟩) b VR:=j
      wp_walk using wpAny_pyIter_list f,wpAny_pyIter_tuple g
      exact ⟨_,rfl,e⟩
    · have f:aY.IsList (ao.heap ⟨d,L,s,Wq,VV⟩) a z:=i
      have g:aY.IsList (ao.heap ⟨d.push {cls:=.type "list_iterator", data:=.fields #[.ref a,.int 0 0]}, L,s,Wq,VV⟩) b VR:=j
      wp_walk using wpAny_pyIter_list f,wpAny_pyIter_list g
      exact ⟨_,rfl,e⟩
def s6(aU aV:Bool)(R:Φ)(g d:ae):fq:=(
 ⟨λb j=>∃z VR f t,hj aU R j g z/\hj aV R j d VR/\z[b]?=Z f/\VR[b]?=Z t,
  λb j u Q=>∃F f t,j F=Y/\u=.ref F/\Q=upd j F (.tup [f,t])/\(∀z,hj aU R j g z->z[b]?=Z f)/\(∀VR,hj aV R j d VR->VR[b]?=Z t),
  λb j=>∃z VR,hj aU R j g z/\hj aV R j d VR/\(z.length<=b\/VR.length<=b)⟩)
def G5(aU aV:Bool)(g d i b2 bQ a c:ae)(b:Nat)(e:aY):Prop:=(fG e i b2 bQ .none/\e4 e b2 (.ref a) (.ref c)/\(∃o p,e4 e bQ o p)/\hC aU e a g b/\hC aV e c d b)
theorem Lp{aU aV:Bool}{VJ:bF}{y:bj}(g d i b2 bQ H I:ae)(k:ng i b2 bQ H I g d):
  pP VJ y R (.Tuple U W3 VT) (s6 aU aV R g d) [i,b2,bQ,H,I] i (G5 aU aV g d i b2 bQ H I) where
 mem:=by simp
 obj:=λb e X n s=>by
  let@⟨A,C,⟨o,@p,v⟩,B,E⟩:=X;simp only[bO,kr,eT]at s;rcases s with rfl|rfl|rfl|rfl|rfl
  ·exact⟨_,A,λu c=>by cases c⟩
  ·exact⟨_,C,λu c=>by cases c⟩
  ·exact⟨_,v,λu c=>by cases c⟩
  ·exact vx B
  ·exact vx E
 keep:=λb e VB X q=>by
  let@⟨A,C,⟨o,@p,v⟩,B,E⟩:=X;exact⟨q i ↥0 _ A,q b2 ↥0 _ C,⟨o,p,q bQ ↥0 _ v⟩,ji B λm c=>q H ↥0 m c,ji E λm c=>q I ↥0 m c⟩
 item:=by
  intro a T al am s b G h x j VD l N X an;subst T al am;let⟨z,VR,f,@t,O,S,a2,bd⟩:=an;let⟨@VP,ap,o,L⟩:=l.pB O;let⟨@as,a1,Wo,bm⟩:=l.pB S;let⟨@J,bn,bs⟩:=ap.get a2;let⟨@be,bv,ca⟩:=a1.get bd;have cd:=X;let@⟨A,C,⟨bU,@dh,v⟩,B,E⟩:=X;have M:h.TypeIs (.ref i) "zip" := ⟨_,A,rfl⟩;unfold gF;refine ax (n_ (kz (name:=aD.ofString "__next__") M m7 (iW m7 M wx
   (U0 (D:=λu VE=>wpAny (aW a.prog a.w) a.A (pure<|Z u) (λr ce=>∃J,r=Z J/\wpAny (aW a.prog a.w) a.A (qK (.Tuple U W3 VT) (.ref i) J) (λ_ bi=>∃f Q,aH a G x Q bi/\cq f J/\(s6 aU aV a.K g d).pR b j f Q/\G5 aU aV g d i b2 bQ H I (b+1) bi.heap/\∀d∈[i,b2,bQ,H,I],Q d=Y) VD ce) VD VE)
    k A C v B E (show hB aU h.heap g VP.toArray from o) (show hB aV h.heap d as.toArray from Wo) (f:=J) (t:=be) ⇑bn ⇑bv λVB ch ci cl co cr fz=>ba ⟨_,rfl,?_⟩) (ue _))));refine De ch λcs db cm=>?_;have lt:∀n∈[i,b2,bQ,H,I],n<h.heap.objs.size:=λn s=>by
   let@⟨A,C,⟨o,@p,v⟩,B,E⟩:=cd;simp only[bO,kr,eT]at s;rcases s with rfl|rfl|rfl|rfl|rfl
   ·exact cg A
   ·exact cg C
   ·exact cg v
   ·let⟨@m,c,W⟩:=vx B;exact cg c
   ·let⟨@m,c,W⟩:=vx E;exact cg c
  have cL:∀n m,n∉[i,b2,bQ,H,I]->h.heap.get? n=Z m->cs.get? n=Z m:=λn m s c=>by
   simp only[bO,kr,eT,not_or]at s;exact cm.extBut _ _ s.1 (fz n m s.1 s.2.2.1 s.2.2.2.1 s.2.2.2.2 c)
  have ds:h.heap.objs.size≠i:=jR (lt i ↥0);have dL:j h.heap.objs.size=Y:=l.aX.fresh (bT _);refine⟨.ref h.heap.objs.size,upd j h.heap.objs.size<|.tup [f,t],l.HN (We:=h.toks) N cL (bT _) ⟨by show 2<=sizeLine;decide,[J,be],.cons bs<|.cons ca .nil,?_⟩,rfl,⟨_,f,t,dL,rfl,rfl,λWO L=>?_,λWO L=>?_⟩,?_,λn s=>?_⟩
  ·exact⟨_,cm.extBut _ _ ds cr,rfl,0,rfl⟩
  ·rw[l.IU L O];exact a2
  ·rw[l.IU L S];exact bd
  ·exact⟨db,cm.extBut _ _ k.TIz<|fz _ _ k.TIz k.TITO k.TIi1 k.TIi2 C,⟨_,_,cm.extBut _ _ k.TOz ci⟩,ji cl λm c=>cm.extBut _ m k.i1z c,ji co λm c=>cm.extBut _ m k.i2z c⟩
  ·rw[cZ (ef<|lt n s)];exact (N n s).1
 done:=by
  intro a T al am s b G h x j VD l N X an;subst T al am;let⟨z,@VR,O,S,eq⟩:=an;let⟨@VP,ap,o,L⟩:=l.pB O;let⟨@as,a1,Wo,bm⟩:=l.pB S;let@⟨A,C,⟨bU,@dh,v⟩,B,E⟩:=X;have M:h.TypeIs (.ref i) "zip" := ⟨_,A,rfl⟩;have fd:=ap.length;have fn:=a1.length;unfold gF;refine ax (n_ (kz (name:=aD.ofString "__next__") M m7 (iW m7 M wx
   (Tu (l.ok.hd s) k A C v B E (show hB aU h.heap g VP.toArray from o) (show hB aV h.heap d as.toArray from Wo) (by
    rcases eq with e|e
    ·exact .inl (by simp;lia)
    ·exact .inr (by simp;lia)) λVB c fz ⟨m,ev,ex⟩=>?_) (ue _))))
  refine ax (tV (T := "StopIteration") (b:=V) ⟨m,ev,ex⟩ Ah<|ba ⟨rfl,l.BY (We:=h.toks) N λn m s c=>?_⟩);simp only[bO,kr,eT,not_or]at s;exact fz n m s.1 s.2.2.1 s.2.2.2.1 s.2.2.2.2 c
 self:=λ_ W W W W X e=>tM X.1 e
section
variable{a:aK}
def NK(R:Φ)(Wu:fp):b2:=(λx j VI=>Wu x j λT VL=>∃aU aV g d,T=[.ref g,.ref d]/\(∃z,hj aU R VL g z)/\(∃VR,hj aV R VL d VR)/\VI (s6 aU aV R g d) VL)
def Kn{g d:bt}{Wu:fp}{VQ:Pos}(H:eG a "zip")(I:a.aB "zip" = Y)(J:hA a [g,d] Wu)(VN:bP [g,d] a.env=[(aq,b_ g a.env),(aq,b_ d a.env)]:=by rfl)(w:bP [d] a.env=[(aq,b_ d a.env)]:=by rfl):
  lq a (.Tuple U W3 VQ) (.Call (.Name "zip" o) [g,d] [] VT) (NK a.K Wu):=by
 intro G h x j VI l e;refine Call_ (ra l H I boot_zip (t8 (b0 (J VT G h x j _ l e) λVZ b ⟨T,VL,q,L,M⟩=>?_) (by rw[VN,w]) (by rw[w];rfl)));let⟨aU,aV,f,@i,c,⟨@z,N⟩,⟨@VR,O⟩,p⟩:=M;subst c;cases L with
 |cons r u=>
  cases u with
  |cons Wz u=>
   cases u;cases r;cases Wz;let⟨@VP,am,o,an⟩:=q.pB N;let⟨@P,ap,Wo,as⟩:=q.pB O;have Q:f<b.heap.objs.size:=by let⟨@m,c⟩:=EP o;exact cg c
   have S:i<b.heap.objs.size:=by let⟨@m,c⟩:=EP Wo;exact cg c
   refine HR BC ∅ (A_ _ _) (EY _ _) (λal=>Bn al _ _) Cd (KZ aU aV f i VP.toArray P.toArray) ⟨o,Wo,?_⟩;have v:(b.heap.push {cls:=.type (g_ aU),data:=.fields #[.ref f,.int 0 0]}).objs.size=b.heap.objs.size+1:=h3 ..;have s:((b.heap.push {cls:=.type (g_ aU),data:=.fields #[.ref f,.int 0 0]}).push {cls:=.type (g_ aV),data:=.fields #[.ref i,.int 0 0]}).objs.size=b.heap.objs.size+2:=by rw[h3,v]
   have t:(((b.heap.push {cls:=.type (g_ aU),data:=.fields #[.ref f,.int 0 0]}).push {cls:=.type (g_ aV),data:=.fields #[.ref i,.int 0 0]}).push
    {cls:=.type "tuple",data:=.seq #[.ref b.heap.objs.size,.ref (b.heap.push {cls:=.type (g_ aU),data:=.fields #[.ref f,.int 0 0]}).objs.size]}).objs.size=b.heap.objs.size+3:=by rw[h3,s]
   have y:(kG aU aV b.heap f i).objs.size=b.heap.objs.size+4:=by unfold kG;rw[h3,t]
   show _/\_;refine⟨⟨_,dr _ rfl,rfl⟩,tM (TI:=b.heap.objs.size+2) (TO:=b.heap.objs.size+3) (f0:=.none) ?_ ?_⟩
   ·rw[s,t];exact dr _ rfl
   ·rw[s,t,y];have A:((kG aU aV b.heap f i).push {cls:=.type "zip",data:=.fields #[.none,.bool aq,.bool aq,.ref<|b.heap.objs.size+2,.ref<|b.heap.objs.size+3]}).get? (b.heap.objs.size+4)=Z {cls:=.type "zip",data:=.fields #[.none,.bool aq,.bool aq,.ref<|b.heap.objs.size+2,.ref<|b.heap.objs.size+3]}:=by rw[<-y];exact dr _ rfl
    have B:((kG aU aV b.heap f i).push {cls:=.type "zip",data:=.fields #[.none,.bool aq,.bool aq,.ref<|b.heap.objs.size+2,.ref<|b.heap.objs.size+3]}).get? (b.heap.objs.size+3)=Z {cls:=.type "tuple",data:=.seq #[.none,.none]}:=by
     rw[<-t];exact b4 _ (dr _ rfl)
    have C:((kG aU aV b.heap f i).push {cls:=.type "zip",data:=.fields #[.none,.bool aq,.bool aq,.ref<|b.heap.objs.size+2,.ref<|b.heap.objs.size+3]}).get? (b.heap.objs.size+2)=Z {cls:=.type "tuple",data:=.seq #[.ref b.heap.objs.size,.ref<|b.heap.objs.size+1]}:=by
     rw[<-s,<-v];exact b4 _ (b4 _<|dr _ rfl)
    have D:((kG aU aV b.heap f i).push {cls:=.type "zip",data:=.fields #[.none,.bool aq,.bool aq,.ref<|b.heap.objs.size+2,.ref<|b.heap.objs.size+3]}).get? (b.heap.objs.size+1)=Z {cls:=.type (g_ aV),data:=.fields #[.ref i,.int 0 0]}:=by
     rw[<-v];exact b4 _ (b4 _<|b4 _<|dr _ rfl)
    have E:((kG aU aV b.heap f i).push {cls:=.type "zip",data:=.fields #[.none,.bool aq,.bool aq,.ref<|b.heap.objs.size+2,.ref<|b.heap.objs.size+3]}).get? b.heap.objs.size=Z {cls:=.type (g_ aU),data:=.fields #[.ref f,.int 0 0]}:=
     b4 _ (b4 _<|b4 _<|b4 _<|dr _ rfl);have cL:∀n m,b.heap.get? n=Z m->((kG aU aV b.heap f i).push {cls:=.type "zip",data:=.fields #[.none,.bool aq,.bool aq,.ref<|b.heap.objs.size+2,.ref<|b.heap.objs.size+3]}).get? n=Z m:=λn m c=>
     b4 _ (b4 _<|b4 _<|b4 _<|b4 _ c);generalize ((kG aU aV b.heap f i).push {cls:=.type "zip",data:=.fields #[.none,.bool aq,.bool aq,.ref<|b.heap.objs.size+2,.ref<|b.heap.objs.size+3]})=a2 at E D C B A cL ⊢;have k:ng (b.heap.objs.size+4) (b.heap.objs.size+2) (b.heap.objs.size+3) b.heap.objs.size (b.heap.objs.size+1) f i:=F8 _ _ _ Q S;refine⟨_,_,_,_,VL,rfl,q.kept (We:=b.toks) cL,Lp f i _ _ _ _ _ k,⟨A,C,⟨_,_,B⟩,D4 E,D4 D⟩,λn F=>?_,p⟩;have:b.heap.objs.size<=n:=by
     simp only[bO,kr,eT]at F;rcases F with rfl|rfl|rfl|rfl|rfl
     ·exact md _ _
     ·exact md _ _
     ·exact md _ _
     ·exact bT _
     ·exact md _ _
    exact q.rV this (q.aX.fresh this)
def tj:ab->Option eR
 |.int b=>Z (.inl b)
 |.str f=>Z (.inr f)
 |_=>Y
@[simp] theorem Vk(b:Int):tj (.int b)=Z (.inl b):=rfl
@[simp] theorem U_(f:aD):tj (.str f)=Z (.inr f):=rfl
def Bg:eR->ab
 |.inl b=>.int b
 |.inr f=>.str f
@[simp] theorem Vq(b:Int):Bg (.inl b)=.int b:=rfl
@[simp] theorem Va(f:aD):Bg (.inr f)=.str f:=rfl
def RL{s:ab}{q:eR}(e:cM j s u)(c:tj s=Z q):u=cT q:=by
 cases s with
 |int b=>cases c;exact e
 |str f=>cases c;exact e
 |_=>cases c
def g9{V6:Type}[DecidableEq V6](VS:List (V6×ab))(q:V6)(s:ab):List (V6×ab):=(
 if (VS.any λa=>decide (a.1=q))=V then VS.map (λa=>if a.1=q then (a.1,s) else a) else VS++[(q,s)])
def e3.any[DecidableEq V6]{j:aA}{q:V6}{M:List (V6×ab)}{H:List (V6×ar)}(e:e3 j M H):(M.any λa=>decide (a.1=q))=(H.any λa=>decide (a.1=q)):=by
 unfold e3 at e;induction e with
 |nil=>rfl
 |cons r _ b=>rw[o6,o6,b,r.1]
def e3.upd[DecidableEq V6]{j:aA}{q:V6}{s:ab}{u:ar}(y:cM j s u){M:List (V6×ab)}{H:List (V6×ar)}(e:e3 j M H):e3 j (M.map λa=>if a.1=q then (a.1,s) else a) (H.map λa=>if a.1=q then (a.1,u) else a):=by
 unfold e3 at e;induction e with
 |nil=>exact .nil
 |@cons o p _ _ r _ d=>
  rw[cS,cS];refine .cons ?_ d;by_cases c:o.1=q
  ·have b:p.1=q:=r.1.symm.trans c;rw[aJ c,aJ b];exact⟨r.1,y⟩
  ·have b:¬ p.1=q:=λi=>c (r.1.trans i);rw[aP c,aP b];exact r
def Ks{V7 WL:Type}{O:V7->WL->Prop}{M:List V7}{H:List WL}{g:V7}{d:WL}(e:eA O M H)(f:O g d):eA O (M++[g]) (H++[d]):=by
 induction e with
 |nil=>exact .cons f .nil
 |cons r _ a=>exact .cons r a
def e3.put[DecidableEq V6]{j:aA}{q:V6}{s:ab}{u:ar}(y:cM j s u){M:List (V6×ab)}{H:List (V6×ar)}(e:e3 j M H):e3 j (g9 M q s) (hK H q u):=by
 unfold g9 hK;rw[e.any];split
 ·exact e.upd y
 ·exact Ks e ⟨rfl,y⟩
@[simp] def xK:aC ak:=λk=>Z (.aR [],k)
def Es:cw a (.Dict [] [] VT) xK:=by
 refine eC R5 λx j D ⟨k,O,r,VW,X,ah,d,p⟩ o b=>?_;cases d;have h:c8 j (L2.upd j o<|.aR []):=(c8.refl j).upd b;have e:bk j O j (O++[]):=by rw[cj];exact bk.perm ah (List.Perm.refl _)
 exact p _ _ O [o] (X.mono h.tupS λg W m c=>h g m c) ⟨o,[],rfl,eW,.nil,rfl⟩ (e.new h (fN _ _) (λg f=>by rw[cH.mp f];exact b) X.chg)
@[simp] def Vp(a b:aC ak):aC ak:=λk=>(a k).bind λo=>(b o.2).bind λp=>match o.1,p.1 with
 |.im q,.im s=>(tj q).map λc=>(.dR [(c,s)],p.2)
 |_,_=>Y
@[simp] def hU(n q s:ak):Option ak:=match n,q,s with
 |.lst z,.im<|.int b,.im s=>(mn z.length b).map λv=>.lst (z.set v s)
 |.dR VS,.im q,.im s=>(tj q).bind λa=>if VS.length<100000 then Z (.dR<|g9 VS a s) else Y
 |.aR VS,.im<|.tup q,.im s=>if ab.keys 7 q=V/\VS.length<100000 then Z (.aR<|g9 VS q s) else Y
 |_,_,_=>Y
def tG(B:a.A.units+20<b9):uG a hU:=by
 intro G h x j m b u E F J D l k i o H;let⟨n,q,s,L,VI,@VU,dk,cx,r,ah,c,p⟩:=H;unfold hU at c;split at c
 ·exact DR G h x j m b u E F J D l k i o ⟨_,_,_,L,VI,VU,dk,cx,r,ah,c,p⟩
 ·let⟨@O,M,v⟩:=bM.mp c;split at v
  ·rename_i e;cases v;let⟨g,@VR,rfl,A,C,rfl⟩:=dk;let@⟨hd,rfl⟩:=r;have n:fW j g:=⟨_,A,(λ_ c=>by cases c),(λ_ W c=>by cases c)⟩;cases k;have N:=RL cx.1 M;subst N;refine HA B l (pb.k A (by rw[<-C.length];exact xb e)) i o λVE w=>⟨_,w,p _ [g] ?_ (bk.chg (.head _) n (fN _ _) λf y=>by simpa using y)⟩;exact⟨g,_,rfl,eW,(e3.put hd C).mono<|cM.k5 n,rfl⟩
  ·cases v
 ·split at c
  ·rename_i e;cases c;let⟨g,@VR,rfl,A,C,rfl⟩:=dk;let@⟨hd,rfl⟩:=r;have n:fW j g:=⟨_,A,(λ_ c=>by cases c),(λ_ W c=>by cases c)⟩;cases k;let⟨d,@z,rfl,V8,Wd⟩:=cx.1;refine HA B l (pb.t A ⟨e.1,d,z,rfl,V8,Wd⟩ (by rw[<-C.length];exact xb e.2)) i o λVE w=>⟨_,w,p _ [g] ?_ (bk.chg (.head _) n (fN _ _) λf y=>by simpa using y)⟩;exact⟨g,_,rfl,eW,(e3.put hd C).mono<|cM.k5 n,rfl⟩
  ·cases c
 ·cases c
def r2:bI->ak->Option (Nat×ak)
 |.a6 b,s=>Z (b,s)
 |.cA _,_=>Y
@[simp] theorem Ve(b:Nat)(s:ak):r2 (.a6 b) s=Z (b,s):=rfl
@[simp] theorem Vu(n s:ak):r2 (.cA n) s=Y:=rfl
@[simp] def oD(L:aC (List bI)):jr:=λk=>(L k).bind λo=>(ek o.1 o.2).bind λp=>match o.1,p.1 with
 |[V5,a],[Wb,Wl]=>(gG Wb).bind λf=>(gG Wl).bind λt=>
   if Wl.dH=V then Z ((fi f t,if Wb.dH=V then Y else r2 V5 Wb),p.2)
   else if Wb.dH=V then Z ((fi f t,r2 a Wl),p.2) else Y
 |_,_=>Y
def CZ(y:cJ j s u VI)(c:gG s=Z B):
  ∃d g z,u=.ref g/\bN j B z/\∀Q,eU j Q->(∀g∈VI,∀m,j g=Z m->Q g=Z m)->hj d R Q g z:=by
 unfold gG at c;split at c
 ·cases c;let@⟨⟨g,@z,rfl,A,C⟩,rfl⟩:=y;exact⟨aq,g,z,rfl,C,λQ I q=>cu.of<|I.tup g _ A⟩
 ·cases c;let⟨g,@z,rfl,A,C,rfl⟩:=y;exact⟨V,g,z,rfl,C,λQ I q=>dv.of<|q g (.head _) _ A⟩
 ·cases c;let⟨g,z,@m,rfl,A,C,rfl⟩:=y;exact⟨V,g,z,rfl,C,λQ I q=>.inl<|.inr ⟨m,I.dw _ _ _ A⟩⟩
 ·cases c
variable{z:List ar}
def IQ{f t:ar}(e:∀WO,hj d R j g WO->WO[b]?=Z f)(A:hj d R j g z)(C:z[b]?=Z t):f=t:=by
 have:=e z A;rw[C]at this;exact (Option.some.inj this).symm
theorem Si{aU aV:Bool}{d:ae}{VR:List ar}{U:List ab}(hd:bN j B z)(a:bN j U VR)(e:∀Q,eU j Q->(∀g∈VI,∀m,j g=Z m->Q g=Z m)->hj aU R Q g z)(VB:∀Q,eU j Q->(∀g∈VI,∀m,j g=Z m->Q g=Z m)->hj aV R Q d VR):lr (s6 aU aV R g d) j VI (fi B U) where
 go:=λQ I q b s c=>by
  let⟨f,@t,o,p,rfl⟩:=yT B U b s c;let⟨@u,k,r⟩:=hd.get o;let⟨@J,V8,Wd⟩:=a.get p;have l:=e Q I q;have n:=VB Q I q;refine⟨⟨z,VR,u,J,l,n,k,V8⟩,λi A ⟨F,C,D,N,v,w,x,y⟩=>?_⟩;subst v w;cases IQ x l k;cases IQ y n V8;have h:c8 Q (L2.upd Q F<|.tup [u,J]):=(c8.refl Q).upd N;exact⟨h,F,[u,J],rfl,eW,⟨u,[J],rfl,(r.mono I.tup).mono h.tupS.tup,J,[],rfl,(Wd.mono I.tup).mono h.tupS.tup,rfl⟩⟩
 stop:=λQ I q=>⟨z,VR,e Q I q,VB Q I q,by rw[zM,<-hd.length,<-a.length];lia⟩
def Gm{g d:bt}{VQ:Pos}(M:eG a "zip")(N:a.aB "zip" = Y)(e:fD a [g,d] L)(VN:bP [g,d] a.env=[(aq,b_ g a.env),(aq,b_ d a.env)]:=by rfl)(P:bP [d] a.env=[(aq,b_ d a.env)]:=by rfl):
  mX a (.Tuple U W3 VQ) (.Call (.Name "zip" o) [g,d] [] VT) (oD L):=by
 refine vb (Kn M N e VN P) λx j co S=>?_;let⟨k,O,r,@VW,X,ah,al,p⟩:=S;let⟨@⟨VV,VK⟩,A,C⟩:=bM.mp al;let⟨@⟨B,Wf⟩,am,m⟩:=bM.mp C;refine⟨k,O,VV,VK,X,ah,A,λT VL VY cr an V5 ap=>?_⟩;let⟨V_,@VU,F,as,Wa⟩:=lV an V5 am;have h:=ap.jK Wa.symm;dsimp only at m;split at m
 ·rename_i a1 WA cs db;let⟨@f,a2,bd⟩:=bM.mp m;let⟨@t,be,l⟩:=bM.mp bd;let⟨u,W,s,@W,rfl,gI,⟨J,W,v,@W,rfl,gV,@⟨rfl,rfl⟩,rfl⟩,rfl⟩:=as;rw[cj]at h;let⟨ds,W,dL,@W,jg,bi,⟨eq,W,ev,@W,bm,bn,@⟨rfl,rfl⟩,rfl⟩,rfl⟩:=V5;cases jg;cases bm;let⟨w,y,@z,rfl,bs,G⟩:=CZ (R:=a.K) gI a2;let⟨D,E,@VR,rfl,bv,H⟩:=CZ (R:=a.K) gV be;have ca:hj w a.K VL y z:=G VL (Av VL) λ_ W W c=>c;have cd:hj D a.K VL E VR:=H VL (Av VL) λ_ W W c=>c;have VH:lr (s6 w D a.K y E) VL (s++v) (fi f t):=Si bs bv (λQ I q=>G Q I λg e=>q g<|eL _ e) (λQ I q=>H Q I λg e=>q g<|ez _ e);have WM:∀g∈s++v,fW VL g:=λg e=>(dy.mp e).elim (λi=>gI.chg g i) λi=>gV.chg g i;refine⟨w,D,y,E,rfl,⟨z,ca⟩,⟨VR,cd⟩,?_⟩;split at l
  ·rename_i ce;cases l;have ch:=gV.dH ce;subst ch;rw[cj]at h VH WM;refine p _ VL V_ s F VH ?_ WM h;dsimp only;split
   ·trivial
   ·cases a1 with
    |a6 b=>exact⟨_,bi.1,gI⟩
    |cA n=>trivial
  ·split at l
   ·rename_i ci;cases l;have cl:=gI.dH ci;subst cl;rw[k7]at h VH WM;refine p _ VL V_ v F VH ?_ WM h;cases WA with
    |a6 b=>exact⟨_,bn.1,gV⟩
    |cA n=>trivial
   ·cases l
 ·cases m
end
section
variable{a:aK}
def Mb{V2:List Int}{VZ:List af}(r:bY (V2.map ar.int) VZ)(b:Nat)(u:af)(e:VZ[b]?=Z u):∃I,u=.int ((V2[b]?).getD 0) I:=by
 have a:=r.length;rw[bB]at a;have VF:b<V2.length:=by rw[a];exact (fY.mp e).1
 let⟨@J,d,⟨@I,c⟩⟩:=r.get (b:=b) (f:=ar.int V2[b]) (by simp[VF]);rw[e]at d;cases d;exact⟨I,by rw[c];simp[VF]⟩
def Mn{q:Nat}{W2:b2}{L:j3->g6}{T:j3->eE}{ck:j3->cf}(t:a.N.Nodup)(v:a.N[q]?=Z WQ)(w:i_ a.env.scope WQ)(y:a.calm=V)(VU:iK a V1 own Wi)(VF:lq a Wh WG W2)(z:∀b,ks (a.gd (f7 a own Wi) V1 b) Wh<|L b)(B:∀b,sh (a.gd (f7 a own Wi) V1 b) WV<|T b)(C:∀b,bW (a.gd (f7 a own Wi) V1 b) WX<|ck b)(VN:∀f,mQ WG a.env f=pure f:=by intro W;rfl)(D:mz (.ListComp WX [⟨Wh,WG,WV,0⟩] V1 VT) (Z<|.Name WQ WW) Xe.line a.env=pure V:=by rfl)(E:a.fn WQ=V\/a.env.scope.names.lookup WQ=Z .local:=by first|exact .inl rfl|exact .inr rfl|assumption):
  ht a (.Assign [.Name WQ WW] (.ListComp WX [⟨Wh,WG,WV,0⟩] V1 VT) Xe) (yu (vY own Wi W2 L T ck)<|z6 q):=by
 intro G h x j F l e;rw[exec_Assign_Name_used _ _ _ _ D];refine ax (w7<|ax ?_);show wpAny _ a.A (do let _ <-AX (.ListComp WX [⟨Wh,WG,WV,0⟩] V1 VT) V1 a.env _ (u4 []) aq (b_ WG a.env) (Z<|jd (.Name WQ WW) a.env)) _ _ h;refine ax (gT (GI (use:=Z (jd (.Name WQ WW) a.env)) (f2:=λ_ VE=>jN a G F .next VE) y VU VF z B C VN l e λk aG ap I H J M N r s i o p=>?_) (λ_ VE O=>ba<|ba O) λ_ W c=>c);show wpAny _ a.A (jd (.Name WQ WW) a.env<|.ref k) _ _ I;refine Em (Gl J t v w (u:=.ref k) rfl (λQ R S=>?_) E);let⟨@g,U,n⟩:=S;have al:aG≠g:=by
  rcases n with rfl|n
  ·exact fI r
  ·exact fI (s _ _ n)
 exact⟨H,M.sameBut U al,λVB cm=>⟨_,_,R.turned (VH:=aG) (We:=Q.toks) (λd m am c=>(cm.2 d am).trans c) N (fI r) (.inr i) s o,p⟩⟩
def GW{V4:List Nat}{E:jr}{t:fs}{WJ:aC Bool}{W0:aC ak}(d:a.N.Nodup)(e:a.N[b]?=Z WQ)(g:i_ a.env.scope WQ)(h:a.calm=V)(VU:iK a V1 own Wi)(ah:Wi.Nodup)(VF:mX a Wh WG E)(i:∀c,h6 (a.gd (f7 a own Wi) V1 c) (qu own.length Wi.length) Wh t)(l:∀c,uK (a.gd (f7 a own Wi) V1 c) WV WJ)(m:∀c,cw (a.gd (f7 a own Wi) V1 c) WX W0)(n:b∉V4)(VN:∀f,mQ WG a.env f=pure f:=by intro W;rfl)(o:mz (.ListComp WX [⟨Wh,WG,WV,0⟩] V1 VT) (Z<|.Name WQ WW) Xe.line a.env=pure V:=by rfl)(q:a.fn WQ=V\/a.env.scope.names.lookup WQ=Z .local:=by first|exact .inl rfl|exact .inr rfl|assumption):
  gH a V4 (.Assign [.Name WQ WW] (.ListComp WX [⟨Wh,WG,WV,0⟩] V1 VT) Xe) (cn b<|dg own.length Wi E t WJ W0):=by
 refine kb (Mn d e g h VU VF i l m VN o q) λVD x j s=>?_;let⟨k,O,a3,@VW,X,v,w,p⟩:=s;let⟨@⟨r,VK⟩,A,C⟩:=bM.mp w;split at C
 ·rename_i y;cases C;refine C1 ah ⟨k,O,r,_,X,v,A,λu VL VY VI z B D=>?_⟩;let⟨V_,@b3,F,Wa⟩:=z.put (b:=b) B y;exact p _ VL V_ (c_.set n) F (D.less Wa)
 ·cases C
def wm:ak->ak
 |.lst f=>.im (.a3 f)
 |.aR []=>.im .fd
 |s=>s
@[simp] theorem Vo(f:List ab):wm (.lst f)=.im (.a3 f):=rfl
@[simp] theorem Vc(s:ab):wm (.im s)=.im s:=rfl
@[simp] def oP(L:aC ak):aC ak:=λk=>(L k).map λo=>(wm o.1,o.2)
def UM(V8:j g=Z J)(a:∀z,J≠.tup z)(b:∀o u,J≠.dw o u):eU j (upd j g<|.dw WA J):=eU.of (λd z c=>by
  have:d≠g:=λi=>by subst i;rw[V8]at c;cases c;exact a _ rfl
  rw[cZ this];exact c) λd m J c=>by
  have:d≠g:=λi=>by subst i;rw[V8]at c;cases c;exact b _ _ rfl
  rw[cZ this];exact c
def Hi{VL:aA}{h:ao}{D:cN}{O VY:List ae}{VK:a5}(n:bD VL VK x VY)(b:bk j O VL (VY++VI))(V8:VL g=Z J)(q:∀z,J≠.tup z)(r:∀o y,J≠.dw o y)(t:VI=[g])(v:aH a G x (upd VL g<|.dw WA J) h)(hd:eU VL (upd VL g<|.dw WA J)->cJ (upd VL g<|.dw WA J) s (.ref g) [])(p:∀u Q Wc l,bD Q VK x Wc->cJ Q s u l->bk j O Q (Wc++l)->D u Q):eP a G x D (.ref g) h:=by
 subst t;have k:=dt.mp b.ah;have w:g∉VY:=λi=>k.2.2 g i g (.head _) rfl;have fF:=UM (WA:=WA) V8 q r;refine⟨.ref g,_,v,rfl,p _ _ VY [] (n.mono fF λd f m c=>by
   have ne:d≠g:=λi=>by subst i;exact w f
   rw[cZ ne];exact c) (hd fF) ?_⟩
 rw[cj];refine⟨λd m c f=>?_,λd f=>b.sub d<|eL _ f,k.1,b.tup.trans fF,λd m c=>?_⟩
 ·have:d≠g:=λi=>by
   subst i;rcases b.sub d (ez _<|.head _) with e|e
   ·exact f e
   ·rw[c]at e;cases e
  rw[cZ this];exact b.keep d m c f
 ·by_cases i:d=g
  ·exact⟨_,by rw[i];exact eW⟩
  ·let⟨@Wj,A⟩:=b.grow d m c;exact⟨Wj,by rw[cZ i];exact A⟩
def BD{L:aC ak}(e:cw a c L):cw a c (oP L):=by
 intro G h x j D l H;let⟨k,O,r,@VW,X,ah,P,p⟩:=H;let⟨@⟨I,VK⟩,A,C⟩:=cv.mp P;cases C;refine b0 (@e G h x j (λu VL=>∃VY VI,bD VL VK x VY/\cJ VL I u VI/\bk j O VL (VY++VI)) l ⟨k,O,I,VK,X,ah,A,λu VL VY VI g d n=>⟨VY,VI,g,d,n⟩⟩) λJ t H=>?_;let⟨u,@VL,o,v,⟨VY,@VI,y,B,F⟩⟩:=H;cases I with
 |lst f=>
  let⟨g,@z,rfl,V8,Wd,M⟩:=B;cases v;let@⟨i,⟨VP,@w,N,b⟩⟩:=o.aX g _ V8;exact Hi (s:=.im (.a3 f)) y F V8 (λ_ c=>by cases c) (λ_ W c=>by cases c) M (o.write (VB:=t.heap) (We:=t.toks) (c:=g) (by rw[V8];trivial) (.inl rfl) (λd J W c=>c) ⟨_,b⟩ ⟨b,i,VP,w,N,b⟩) (λfF=>⟨⟨g,z,_,rfl,eW,Wd.mono fF.tup⟩,rfl⟩) p
 |aR VS=>
  cases VS with
  |nil=>
   let⟨g,@WK,rfl,V8,Wd,M⟩:=B;cases Wd;cases v;let@⟨i,E,⟨@z,N,⟨m,U,@WB,b,Q,R,S,T⟩⟩⟩:=o.aX g _ V8;cases N;exact Hi (s:=.im .fd) y F V8 (λ_ c=>by cases c) (λ_ W c=>by cases c) M (o.write (VB:=t.heap) (We:=t.toks) (c:=g) (by rw[V8];trivial) (.inl rfl) (λd J W c=>c) ⟨_,b⟩ ⟨b,i,E,[],.nil,m,U,WB,b,Q,R,S,T⟩) (λ_=>⟨⟨g,_,rfl,eW⟩,rfl⟩) p
  |cons q r=>exact⟨u,VL,o,v,p u VL VY VI y B F⟩
 |_=>exact⟨u,VL,o,v,p u VL VY VI y B F⟩
variable{f:aD}
def MY{WS:jV}{sp:kf}{VD:fV}{k:cf}{I:fp}{B:List af}{i:List ar}(O:hg a.prog a.w a.K a.aB a.base WS q N fd VQ sp)(g:ep q a.A)(m:bW a (.Name f o) k)(n:Θ a.K (.ref N)=V)(s:iG a.K fd VQ B)(hd:bY i B)(v:w5 WS a VD)(z:hA a (c::U) I)(C:bP (c::U) a.env=(aq,b_ c a.env)::bP U a.env:=by rfl)(E:(fE VT<|bP U a.env).any (·.1)=aq:=by rfl):
  bW a (.Call (.Name f o) (c::U) [] VT) (λx j D=>k x j λu VL=>u=.ref N/\zW sp i VD I x VL D):=by
 intro G h x j D l e;refine rd (b0 (m G h x j _ l e) λu F H=>?_);let⟨t,@VL,b,J,L,M⟩:=H;subst L;cases J;refine Ac (h₀:=a.base) b.ok.mod.qE n (b0 (z VT G F x VL _ b M) λVZ S ⟨T,V0,d,r,p⟩=>⟨d.kp,?_⟩) C E;exact FD O g s hd v d r p
@[simp] def su(b:Nat)(N:ae)(w:Nat)(S:cU)(L:aC (List bI)):aC ak:=λk=>match k[b]? with
 |some (Z<|.im<|.fn g)=>if g=N then bf w S L k else Y
 |_=>Y
def PR{w:Nat}{S:cU}(O:hg a.prog a.w a.K a.aB a.base ik q N fd VQ (kj w S))(h:ep q a.A)(i:bW a (.Name f o) (mI b))(l:Θ a.K (.ref N)=V)(m:iG a.K fd VQ [])(e:fD a (c::U) L)(n:bP (c::U) a.env=(aq,b_ c a.env)::bP U a.env:=by rfl)(s:(fE VT<|bP U a.env).any (·.1)=aq:=by rfl):
  cw a (.Call (.Name f o) (c::U) [] VT) (su b N w S L):=by
 refine eC (MY O h i l m .nil D2 e n s) λx j D t=>?_;let⟨k,v,r,@VW,X,ah,d,p⟩:=t;unfold su at d;split at d
 ·rename_i g hd;split at d
  ·rename_i e;subst e;let⟨u,VY,@V_,A,C,z,B⟩:=X.out hd;exact⟨u,A,C.1,EJ ⟨k,v,r,VW,X,ah,d,p⟩⟩
  ·cases d
 ·cases d
end
end L2
namespace dz
open Spec PyProof.Rows
end dz
namespace L2
open Spec PyProof.Rows
section
variable{a:aK}
theorem bN.rev{j:aA}:∀{B:List ab}{z:List ar},bN j B z->bN j B.reverse z.reverse
 |[],z,e=>by cases (show z=[] from e);rfl
 |s::B,z,e=>by
  let⟨u,@r,rfl,A,C⟩:=e;rw[rr,rr];exact C.rev.app ⟨u,[],rfl,A,rfl⟩
end
variable{P:bE}{VT:Pos}{n g:bt}{W6 Wr:l9}{WJ Wx WD:aC bI}{R N:fO}{D:af->ao->Prop}{d:Bool}{Wl:ak}{J u:af}{t:ar}{h:ao}{x:a8}{G:List (ae×bc)}{f s:ab}{j:aA}
theorem Fy{e:aY}:∀(w:Nat) {f t:ab}{u:af},ab.bA w f=V->ab.bA w t=V->dB e f u->dB e t u->f=t
 |w,.aS,t,u,_,bg,h,a=>by
  cases (show u=.none from h);cases t with
  |aS=>rfl
  |aF d=>cases a
  |int v=>let⟨@J,c⟩:=a;cases c
  |str i=>let⟨@J,c⟩:=a;cases c
  |tup B=>let⟨W,W,W,@W,c,W⟩:=a;cases c
  |fn g=>cases w<;>cases bg
  |a3 g=>cases w<;>cases bg
  |fd=>cases w<;>cases bg
 |w,.aF d,t,u,_,bg,h,a=>by
  cases (show u=.bool d from h);cases t with
  |aS=>cases a
  |aF n=>cases a;rfl
  |int v=>let⟨@J,c⟩:=a;cases c
  |str i=>let⟨@J,c⟩:=a;cases c
  |tup B=>let⟨W,W,W,@W,c,W⟩:=a;cases c
  |fn g=>cases w<;>cases bg
  |a3 g=>cases w<;>cases bg
  |fd=>cases w<;>cases bg
 |w,.int b,t,u,_,bg,h,a=>by
  let⟨@I,rfl⟩:=h;cases t with
  |aS=>cases a
  |aF n=>cases a
  |int v=>let⟨@J,c⟩:=a;injection c with c;rw[c]
  |str i=>let⟨@J,c⟩:=a;cases c
  |tup B=>let⟨W,W,W,@W,c,W⟩:=a;cases c
  |fn g=>cases w<;>cases bg
  |a3 g=>cases w<;>cases bg
  |fd=>cases w<;>cases bg
 |w,.str b,t,u,_,bg,h,a=>by
  let⟨@I,rfl⟩:=h;cases t with
  |aS=>cases a
  |aF n=>cases a
  |int v=>let⟨@J,c⟩:=a;cases c
  |str i=>let⟨@J,c⟩:=a;injection c with c;rw[c]
  |tup B=>let⟨W,W,W,@W,c,W⟩:=a;cases c
  |fn g=>cases w<;>cases bg
  |a3 g=>cases w<;>cases bg
  |fd=>cases w<;>cases bg
 |w+1,.tup B,t,u,l,bg,h,a=>by
  let⟨g,m,V9,@H,rfl,A,C,o,x⟩:=h;cases t with
  |aS=>cases a
  |aF n=>cases a
  |int v=>let⟨@J,c⟩:=a;cases c
  |str i=>let⟨@J,c⟩:=a;cases c
  |fn g=>cases bg
  |a3 g=>cases bg
  |fd=>cases bg
  |tup U=>
   let⟨F,Wj,G,@L,c,k,M,j,y⟩:=a;cases c;rw[A]at k;cases k;rw[o]at j;injection j with j _;subst j;have all:∀(B U:List ab) (T:List af),ab.cO w B=V->ab.cO w U=V->eb e B T->eb e U T->B=U:=by
    intro B;induction B with
    |nil=>
     intro U T W W g d;cases U with
     |nil=>rfl
     |cons c U=>let⟨W,@W,p,W⟩:=d;rw[show T=[] from g]at p;cases p
    |cons s B z=>
     intro U T V8 Wd g d;let⟨u,@r,rfl,D,E⟩:=g;cases U with
     |nil=>cases (show u::r=[] from d)
     |cons c U=>
      let⟨N,@Wz,p,aU,aV⟩:=d;cases p;rw[ab.cO,cV]at V8 Wd;rw[Fy w V8.1 Wd.1 D aU,z U r V8.2 Wd.2 E aV]
   rw[all B U _ l bg x y]
 |0,.tup _,_,_,q,_,_,_=>by cases q
 |w,.fn _,_,_,q,_,_,_=>by cases w<;>cases q
 |w,.a3 _,_,_,q,_,_,_=>by cases w<;>cases q
 |w,.fd,_,_,q,_,_,_=>by cases w<;>cases q
open Classical in
def lH(e:aY)(s:ab)(u:af):Bool:=(if i:∃f,ab.bA 8 f=V/\dB e f u then cz i.choose s else aq)
def nO{e:aY}(q:ab.bA 8 f=V)(b:dB e f u):lH e s u=cz f s:=by
 unfold lH;have i:∃f,ab.bA 8 f=V/\dB e f u:=⟨f,q,b⟩;rw[dif_pos i,Fy 8 i.choose_spec.1 q i.choose_spec.2 b]
theorem sD{e:aY}{s:ab}:∀{B:List ab}{T:List af},ab.cO 8 B=V->eb e B T->T.any (lH e s)=B.any λf=>cz f s
 |[],T,_,c=>by rw[show T=[] from c];rfl
 |f::B,T,q,c=>by
  let⟨u,@r,rfl,A,C⟩:=c;rw[ab.cO,cV]at q;rw[o6,o6,nO q.1 A,sD q.2 C]
theorem pQ{e:aY}:∀{B:List ab}{T:List af}{u:af},ab.cO 8 B=V->eb e B T->u∈T->∃f,ab.bA 8 f=V/\dB e f u
 |[],T,u,_,c,H=>by rw[show T=[] from c]at H;cases H
 |f::B,T,u,q,c,H=>by
  let⟨J,@r,rfl,A,C⟩:=c;rw[ab.cO,cV]at q;rcases bO.mp H with rfl|H
  ·exact⟨f,q.1,A⟩
  ·exact pQ q.2 C H
section
variable{a:aK}
def hW(s:ab):ak->Option Bool
 |.im (.tup B)=>if (ab.bA 8 s&&ab.cO 8 B)=V then Z (B.any λf=>cz f s) else Y
 |.lst B=>if (ab.bA 8 s&&ab.cO 8 B)=V then Z (B.any λf=>cz f s) else Y
 |.aR VS=>match s with
  |.tup q=>if ab.keys 7 q=V then Z (eZ VS q).isSome else Y
  |_=>Y
 |.dR VS=>match s with
  |.int b=>Z (eZ VS<|.inl b).isSome
  |.str f=>Z (eZ VS<|.inr f).isSome
  |_=>Y
 |_=>Y
@[simp] theorem PT(s:ab)(B:List ab):hW s (.im<|.tup B)=if (ab.bA 8 s&&ab.cO 8 B)=V then Z (B.any λf=>cz f s) else Y:=rfl
@[simp] theorem OC(s:ab)(B:List ab):hW s (.lst B)=if (ab.bA 8 s&&ab.cO 8 B)=V then Z (B.any λf=>cz f s) else Y:=rfl
@[simp] theorem Vg(q:List ab)(VS:List (List ab×ab)):hW (.tup q) (.aR VS)=if ab.keys 7 q=V then Z (eZ VS q).isSome else Y:=rfl
@[simp] def j6:fO:=λg d=>match g with
 |.im s=>(hW s d).map λr=>.im (.aF r)
 |_=>Y
@[simp] def ml:fO:=λg d=>match g with
 |.im s=>(hW s d).map λr=>.im (.aF<|!r)
 |_=>Y
def pA{V6:Type}[DecidableEq V6]{j:aA}{q:V6}{VS:List (V6×ab)}{WK:List (V6×ar)}(e:e3 j VS WK):(iB WK q).isSome=(eZ VS q).isSome:=by
 cases c:eZ VS q with
 |none=>rw[(pg e).2 c];rfl
 |some s=>let⟨@u,A,W⟩:=(pg e).1 s c;rw[A];rfl
def MC{f:ar}(L:a.A.units+20<b9)(l:aH a G x j h)(m:cq f u)(n:cq t J)(r:cM j s f)(v:e6 j Wl t)(c:hW s Wl=Z d)(p:∀VE,aH a G x j VE->D (.bool d) VE):wpAny (aW a.prog a.w) a.A (ea .In u J) D a.cQ h:=by
 unfold hW at c;split at c
 ·rename_i B;split at c
  ·rename_i e;cases c;rw[cV]at e;let⟨g,@z,rfl,A,C⟩:=v.i;cases n;let⟨@VP,N,o,W⟩:=l.tuple (cu.of A);have E:=C.e8 l.aX N;refine SeqAt.in_tupleAt (lH h.heap s) (show h.heap.IsTuple g VP.toArray from o) (λy M=>?_) ?_
   ·let⟨@i,F,H⟩:=pQ e.2 E ⇑M;rw[nO F H];exact iP 8 F e.1 (by show a.A.units+1+8+1<b9;lia) H (r.e8 l.aX m)
   ·rw[vy,sD e.2 E];exact p h l
  ·cases c
 ·rename_i B;split at c
  ·rename_i e;cases c;rw[cV]at e;let⟨W,g,@z,rfl,A,C,W⟩:=v;cases n;let⟨@VP,o,E,W⟩:=qw l A C;refine SeqAt.in_listAt (lH h.heap s) o (λy M=>?_) ?_
   ·let⟨@i,F,H⟩:=pQ e.2 E ⇑M;rw[nO F H];exact iP 8 F e.1 (by show a.A.units+1+8+1<b9;lia) H (r.e8 l.aX m)
   ·rw[vy,sD e.2 E];exact p h l
  ·cases c
 ·rename_i VS;split at c
  ·rename_i q;split at c
   ·rename_i O;cases c;let⟨W,g,@WK,rfl,A,C,W⟩:=v;cases n;let⟨d,@VR,rfl,Q,R⟩:=r;rw[<-pA C]at p;exact xT L l (g7.t A ⟨O,d,VR,rfl,Q,R⟩) m p
   ·cases c
  ·cases c
 ·rename_i VS;split at c
  ·rename_i b;cases c;let⟨W,g,@WK,rfl,A,C,W⟩:=v;cases n;rw[<-pA C]at p;cases (show f=cT (.inl b) from r);exact xT L l (g7.k A) m p
  ·rename_i b;cases c;let⟨W,g,@WK,rfl,A,C,W⟩:=v;cases n;rw[<-pA C]at p;cases (show f=cT (.inr b) from r);exact xT L l (g7.k A) m p
  ·cases c
 ·cases c
def rA(e:a.A.units+20<b9):fm a (ea .In) j6:=by
 intro G h x j f t u J D l g k m;let⟨Wb,Wl,@s,n,o,c,p⟩:=m;unfold j6 at c;split at c
 ·let⟨@d,q,r⟩:=cv.mp c;cases r;exact MC e l g k n.i o q λVE v=>⟨.aF d,j,v,rfl,cb.i p rfl⟩
 ·cases c
def Up{f:ar}(L:a.A.units+20<b9)(l:aH a G x j h)(m:cq f u)(n:cq t J)(r:cM j s f)(v:e6 j Wl t)(c:hW s Wl=Z d)(p:∀VE,aH a G x j VE->D (.bool<|!d) VE):wpAny (aW a.prog a.w) a.A (ea .NotIn u J) D a.cQ h:=by
 unfold hW at c;split at c
 ·rename_i B;split at c
  ·rename_i e;cases c;rw[cV]at e;let⟨g,@z,rfl,A,C⟩:=v.i;cases n;let⟨@VP,N,o,W⟩:=l.tuple (cu.of A);have E:=C.e8 l.aX N;refine SeqAt.notIn_tupleAt (lH h.heap s) (show h.heap.IsTuple g VP.toArray from o) (λy M=>?_) ?_
   ·let⟨@i,F,H⟩:=pQ e.2 E ⇑M;rw[nO F H];exact iP 8 F e.1 (by show a.A.units+1+8+1<b9;lia) H (r.e8 l.aX m)
   ·rw[vy,sD e.2 E];exact p h l
  ·cases c
 ·rename_i B;split at c
  ·rename_i e;cases c;rw[cV]at e;let⟨W,g,@z,rfl,A,C,W⟩:=v;cases n;let⟨@VP,o,E,W⟩:=qw l A C;refine SeqAt.notIn_listAt (lH h.heap s) o (λy M=>?_) ?_
   ·let⟨@i,F,H⟩:=pQ e.2 E ⇑M;rw[nO F H];exact iP 8 F e.1 (by show a.A.units+1+8+1<b9;lia) H (r.e8 l.aX m)
   ·rw[vy,sD e.2 E];exact p h l
  ·cases c
 ·rename_i VS;split at c
  ·rename_i q;split at c
   ·rename_i O;cases c;let⟨W,g,@WK,rfl,A,C,W⟩:=v;cases n;let⟨d,@VR,rfl,Q,R⟩:=r;rw[<-pA C]at p;exact zx L l (g7.t A ⟨O,d,VR,rfl,Q,R⟩) m p
   ·cases c
  ·cases c
 ·rename_i VS;split at c
  ·rename_i b;cases c;let⟨W,g,@WK,rfl,A,C,W⟩:=v;cases n;rw[<-pA C]at p;cases (show f=cT (.inl b) from r);exact zx L l (g7.k A) m p
  ·rename_i b;cases c;let⟨W,g,@WK,rfl,A,C,W⟩:=v;cases n;rw[<-pA C]at p;cases (show f=cT (.inr b) from r);exact zx L l (g7.k A) m p
  ·cases c
 ·cases c
def F6(e:a.A.units+20<b9):fm a (ea .NotIn) ml:=by
 intro G h x j f t u J D l g k m;let⟨Wb,Wl,@s,n,o,c,p⟩:=m;unfold ml at c;split at c
 ·let⟨@d,q,r⟩:=cv.mp c;cases r;exact Up e l g k n.i o q λVE v=>⟨.aF<|!d,j,v,rfl,cb.i p rfl⟩
 ·cases c
@[simp] def gP(N R:fO)(WD Wx WJ:aC bI):aC ak:=λk=>(WD k).bind λo=>(Wx o.2).bind λp=>(cY p.2 o.1).bind λWb=>(cY p.2 p.1).bind λWl=>(N Wb Wl).bind λs=>(mU s).bind λq=>
 if q=V then (WJ p.2).bind λr=>(cY r.2 p.1).bind λa=>(cY r.2 r.1).bind λb=>(R a b).bind λi=>(mU i).map λd=>(.im<|.aF d,r.2) else Z (.im<|.aF aq,p.2)
def Bw{D:cN}(e:nS (gP N R WD Wx WJ) x j D):
  Aw (λf t j D=>∃Wb Wl s,e6 j Wb f/\e6 j Wl t/\N Wb Wl=Z s/\cb j s D) (λf t j D=>∃Wb Wl s,e6 j Wb f/\e6 j Wl t/\R Wb Wl=Z s/\cb j s D) (nj WD) (nj Wx) (nj WJ) x j D:=by
 let⟨k,O,r,@VW,X,ah,a,p⟩:=e;let⟨@⟨V5,VK⟩,A,a⟩:=bM.mp a;let⟨@⟨G,Wf⟩,C,a⟩:=bM.mp a;let⟨@Wb,L,a⟩:=bM.mp a;let⟨@Wl,M,a⟩:=bM.mp a;let⟨@s,P,a⟩:=bM.mp a;let⟨@q,Q,l⟩:=bM.mp a;have hd:=rk Q;subst hd;refine⟨k,O,V5,VK,X,ah,A,λf VL VY S T dD z=>⟨VK,VY,G,Wf,T,(dt.mp z.ah).1,C,λt V0 V_ b3 n du o=>?_⟩⟩;have U:i4 V0 x V5 f S:=dD.mono o.tup λg b m c=>o.keep g m c λe=>(dt.mp z.ah).2.2 g e g b rfl;refine⟨Wb,Wl,_,U.read n L,du.read n M,P,λu H al h am cr cs=>?_⟩;let@⟨rfl,rfl⟩:=(show u=.aF q/\al=[] from am);refine⟨q,rfl,?_⟩;have I:=z.trans o dD.chg;rw[bz]at I;have v:=I.new h mA (λg b=>nomatch b) n.chg;have J:bD H Wf x V_:=n.mono h.tupS λg W m c=>h g m c;cases q with
 |false=>
  rw[aP eu]at l ⊢;cases l;exact p _ H V_ [] J ⟨rfl,rfl⟩ v
 |true=>
  rw[aJ rfl]at l ⊢;let⟨@⟨an,F⟩,ap,V8⟩:=bM.mp l;let⟨@as,a1,Wd⟩:=bM.mp V8;let⟨@a2,bd,be⟩:=bM.mp Wd;let⟨@i,bi,bm⟩:=bM.mp be;let⟨@d,bn,bs⟩:=cv.mp bm;cases bs;have bv:=rk bn;subst bv;rw[cj]at v;refine⟨Wf,V_,an,F,J,v.ah,ap,λy ca cd db w fA B=>?_⟩;have ce:=dt.mp o.ah;have ch:i4 ca x G t b3:=(du.mono h.tupS λg W m c=>h g m c).mono B.tup λg b m c=>B.keep g m c λe=>ce.2.2 g e g b rfl;refine⟨as,a2,_,ch.read w a1,fA.read w bd,bi,λu ci cl E co ds dL=>?_⟩;let@⟨rfl,rfl⟩:=(show u=.aF d/\cl=[] from co);exact p _ ci cd [] (w.mono E.tupS λg W m c=>E g m c) ⟨rfl,rfl⟩ ((v.seq B).new E mA (λg b=>nomatch b) w.chg)
variable{d:bt}
def Gp(b:fm a (ea Wr) N)(c:fm a (ea W6) R)(f:dC a g WD)(h:dC a d Wx)(i:dC a n WJ)(j:uO [Wr,W6] [d,n]=aq:=by with_unfolding_all rfl):cw a (.Compare g [Wr,W6] [d,n] VT) (gP N R WD Wx WJ):=
 eC (O5 b c f h i j) λ_ W W e=>Bw e
def CQ(c:fm a (ea Wr) N)(e:fm a (ea W6) R)(f:dC a g WD)(i:dC a d Wx)(l:dC a n WJ)(m:uO [Wr,W6] [d,n]=aq:=by with_unfolding_all rfl):hS a (.Compare g [Wr,W6] [d,n] VT) (bJ<|gP N R WD Wx WJ):=by
 refine u0 (Qa c e f i l m) λx j D r=>?_;let⟨k,O,q,@VW,X,ah,s,p⟩:=r;refine Bw ⟨k,O,.im<|.aF q,VW,X,ah,?_,λu Q Wc VI t b h=>⟨q,b.1,p Q Wc t (by rw[b.2,cj]at h;exact h)⟩⟩;let⟨@o,A,C⟩:=bM.mp s;let⟨@y,v,w⟩:=cv.mp C;cases w;rw[A,<-rk v]
end
mutual
def a7:ab->ab->Bool
 |.int b,.int v=>decide (b<v)
 |.str f,.str t=>decide (f.cps.toList<t.cps.toList)
 |.tup g,.tup d=>gu g d
 |_,_=>aq
def gu:List ab->List ab->Bool
 |[],[]=>aq
 |[],_::_=>V
 |_::_,[]=>aq
 |g::r,d::I=>if ab.beq g d=V then gu r I else a7 g d
end
mutual
def eF:Nat->ab->ab->Bool
 |_,.int _,.int _=>V
 |_,.str _,.str _=>V
 |w+1,.tup g,.tup d=>f_ w g d
 |_,_,_=>aq
def f_:Nat->List ab->List ab->Bool
 |_,[],[]=>V
 |w,g::r,d::I=>eF w g d&&f_ w r I
 |w,[],d::I=>ab.cO w (d::I)
 |w,g::r,[]=>ab.cO w (g::r)
end
mutual
theorem qB:∀{w:Nat}{g d:ab},eF w g d=V->ab.bA w g=V/\ab.bA w d=V/\cz g d=ab.beq g d
 |w,.int b,.int v,_=>by
  refine⟨by cases w<;>rfl,by cases w<;>rfl,?_⟩;rw[cz,ab.beq];by_cases e:b=v<;>simp[e]
 |w,.str f,.str t,_=>by
  refine⟨by cases w<;>rfl,by cases w<;>rfl,?_⟩;rw[cz,ab.beq];by_cases e:f=t<;>simp[e]
 |w+1,.tup g,.tup d,e=>by
  rw[eF]at e;let@⟨A,C,a⟩:=CC e;exact⟨A,C,by rw[cz,ab.beq];exact a⟩
theorem CC:∀{w:Nat}{g d:List ab},f_ w g d=V->ab.cO w g=V/\ab.cO w d=V/\fg g d=ab.mu g d
 |w,[],[],_=>⟨by cases w<;>rfl,by cases w<;>rfl,rfl⟩
 |w,[],d::I,e=>⟨by cases w<;>rfl,e,rfl⟩
 |w,g::r,[],e=>⟨e,by cases w<;>rfl,rfl⟩
 |w,g::r,d::I,e=>by
  rw[f_,cV]at e;let@⟨A,C,a⟩:=qB e.1;let@⟨b,c,f⟩:=CC e.2;exact⟨by rw[ab.cO,A,b];rfl,by rw[ab.cO,C,c];rfl,by rw[fg,ab.mu,a,f]⟩
end
def om{g d:ab}(e:¬ g=d):ab.beq g d=aq:=by
 cases c:ab.beq g d with
 |false=>rfl
 |true=>exact absurd ((ab.beq_iff g d).mp c) e
mutual
theorem r9:∀g:ab,a7 g g=aq
 |.int b=>by simp[a7]
 |.tup g=>by rw[a7];exact Cf g
 |.aS=>rfl
 |.aF _=>rfl
 |.str f=>by rw[a7];exact eB (List.lt_irrefl _)
 |.fn _=>rfl
 |.a3 _=>rfl
 |.fd=>rfl
theorem Cf:∀g:List ab,gu g g=aq
 |[]=>rfl
 |g::r=>by rw[gu,aJ<|(ab.beq_iff g g).mpr rfl];exact Cf r
end
mutual
theorem oi:∀{w:Nat}{g d:ab},eF w g d=V->g≠d->a7 g d=!(a7 d g)
 |w,.int b,.int v,_,e=>by
  have:b≠v:=λc=>e (by rw[c]);rw[a7,a7];rcases Int.lt_or_gt_of_ne this with L|L
  ·simp[L];lia
  ·simp[L];lia
 |w,.str f,.str t,_,e=>by
  have ne:f.cps.toList≠t.cps.toList:=λc=>e (by
   let⟨f⟩:=f;let⟨t⟩:=t;exact congrArg (λi=>ab.str ⟨i⟩) (Array.toList_inj.mp c))
  rw[a7,a7];by_cases L:f.cps.toList<t.cps.toList
  ·rw[dJ L,eB<|List.lt_asymm L];rfl
  ·rw[eB L];by_cases a:t.cps.toList<f.cps.toList
   ·rw[dJ a];rfl
   ·exact absurd (List.le_antisymm (Br.mp a)<|Br.mp L) ne
 |w+1,.tup g,.tup d,e,c=>by
  rw[eF]at e;rw[a7,a7];exact FG e λi=>c (by rw[i])
theorem FG:∀{w:Nat}{g d:List ab},f_ w g d=V->g≠d->gu g d=!(gu d g)
 |w,[],[],_,e=>absurd rfl e
 |w,[],d::I,_,_=>rfl
 |w,g::r,[],_,_=>rfl
 |w,g::r,d::I,e,c=>by
  rw[f_,cV]at e;rw[gu,gu];by_cases i:g=d
  ·subst i;rw[aJ ((ab.beq_iff g g).mpr rfl),aJ<|(ab.beq_iff g g).mpr rfl];exact FG e.2 λy=>c (by rw[y])
  ·rw[om i,om<|λy=>i y.symm,aP eu,aP eu];exact oi e.1 i
end
mutual
theorem qF:∀{w:Nat}{g d n:ab},eF w g d=V->eF w d n=V->a7 g d=V->a7 d n=V->a7 g n=V
 |w,.int b,.int v,.int q,_,_,A,C=>by
  rw[a7]at A C ⊢;have:=e9 A;have:=e9 C;exact dJ (by omega)
 |w,.str f,.str t,.str i,_,_,A,C=>by
  rw[a7]at A C ⊢;exact dJ (List.lt_trans (e9 A)<|e9 C)
 |w+1,.tup g,.tup d,.tup n,a,c,A,C=>by
  rw[eF]at a c;rw[a7]at A C ⊢;exact HX a c A C
theorem HX:∀{w:Nat}{g d n:List ab},f_ w g d=V->f_ w d n=V->gu g d=V->gu d n=V->gu g n=V
 |w,[],_,_::_,_,_,_,_=>rfl
 |w,[],[],[],_,_,e,_=>e
 |w,_::_,[],_,_,_,e,_=>by cases e
 |w,_,_::_,[],_,_,_,e=>by cases e
 |w,g::r,d::I,n::J,c,b,A,C=>by
  rw[f_,cV]at c b;rw[gu]at A C ⊢;by_cases f:g=d
  ·subst f;rw[aJ ((ab.beq_iff g g).mpr rfl)]at A;by_cases a:g=n
   ·subst a;rw[aJ ((ab.beq_iff g g).mpr rfl)]at C ⊢;exact HX c.2 b.2 A C
   ·rw[om a,aP eu]at C ⊢;exact C
  ·rw[om f,aP eu]at A;by_cases a:d=n
   ·subst a;rw[om f,aP eu];exact A
   ·rw[om a,aP eu]at C;have h:=qF c.1 b.1 A C;have i:¬ g=n:=λy=>by
     subst y;have:=oi b.1 a;rw[A,C]at this;cases this
    rw[om i,aP eu];exact h
end
def sY(P:bE)(h:ao)(t f:af)(q:Bool):Prop:=(∀(VO:bF) (y:bj) (VD:af->ao->Prop) (D:af->ao->Prop),D (.bool q) h->wpAny (aW VO y) P (kT .Lt t f) D VD h)
def iy(N:Bool):List (Bool×Bool)->Bool
 |[]=>N
 | (c,q)::r=>if c=V then iy N r else q
section
open PySem.SeqAt
open PySem.AutoSeq1 (wpAny_loadPart')
open PySem.MeetsSeq PySem.MeetsSeq2 PySem.MeetsSeq3
def RX(M d:ae)(V9 a:Array af)(w x:Nat)(z B:Option ae)(a6 D:Array (Option af))(VQ:List (Bool×Bool))(Q:VQ.length=min V9.size a.size):
  Meets (bx.«tuple.__lt__» ⟨[.ref M,.ref d],[]⟩)
   (λP VI h=>h.heap.get? M=Z {cls:=.type "tuple",dict:=z,data:=.seq V9 w,slots:=a6}/\h.heap.get? d=Z {cls:=.type "tuple",dict:=B,data:=.seq a x,slots:=D}/\
    (∀v (A:v<V9.size) (C:v<a.size) (l:v<VQ.length),EqAt P.in1 h V9[v] a[v] (VQ[v]).1/\((VQ[v]).1=aq->sY P.in1 h V9[v] a[v] (VQ[v]).2))/\
    VI (.ok<|.ret<|.bool<|iy (decide (V9.size<a.size)) VQ) h):=
 .of_wp λVO y P VI h e=>by
  let⟨j,L,s,Wq,VV⟩:=h;let@⟨E,F,G,e⟩:=e;have R:=Gw;have n:(V9.toList.zip a.toList).length=min V9.size a.size:=by simp
  wp_walk using wpAny_loadPart' E,wpAny_loadPart' F,te _ (λdq d VE=>d.1=Y/\VE=⟨j,L,s,Wq,VV⟩/\∃b,dq=(V9.toList.zip a.toList).drop b/\
   VI (.ok<|.ret<|.bool<|iy (decide (V9.size<a.size))<|VQ.drop b) ⟨j,L,s,Wq,VV⟩) _
  case turn=>
   rintro⟨t,f⟩ dq d VE ⟨m,rfl,b,g,i⟩;have o:b<(V9.toList.zip a.toList).length:=by
    rcases pS b (V9.toList.zip a.toList).length with VB|VB
    ·exact VB
    ·rw[m3 VB]at g;cases g
   have S:b<min V9.size a.size:=n ▸ o;have A:b<V9.size:=⋯
   have C:b<a.size:=⋯
   have l:b<VQ.length:=⋯
   rw[jZ o]at g;injection g with p H;have I:t=V9[b]:=by have:=congrArg Prod.fst p;simpa using this
   have J:f=a[b]:=by have:=congrArg Prod.snd p;simpa using this
   subst I J;rw[jZ l]at i;let@⟨r,u⟩:=G b A C l;generalize VQ[b]=N at i r u;let⟨c,q⟩:=N;refine ax (r VO y _ _ ?_);cases c with
   |true=>
    have k:VI (.ok<|.ret<|.bool<|iy (decide (V9.size<a.size))<|VQ.drop<|b+1) ⟨j,L,s,Wq,VV⟩:=i
    wp_walk
    exact⟨rfl,rfl,b+1,H,k⟩
   |false=>
    have k:VI (.ok<|.ret<|.bool q) ⟨j,L,s,Wq,VV⟩:=i;have O:=u rfl VO y
    wp_walk using O
    exact⟨_,rfl,by simpa using k⟩
  case fin=>
   rintro⟨aU,aV⟩ VE ⟨m,rfl,b,g,i⟩;simp only at m;subst m;have T:min V9.size a.size<=b:=by
    rcases pS b (V9.toList.zip a.toList).length with VB|VB
    ·rw[jZ VB]at g;cases g
    ·exact n ▸ VB
   rw[m3 ⋯]at i;have k:VI (.ok<|.ret<|.bool<|decide (V9.size<a.size)) ⟨j,L,s,Wq,VV⟩:=i
   wp_walk
   exact⟨_,rfl,by simpa [bx.Tuple.tupleCompareSizes] using k⟩
  case h=>
   exact⟨rfl,rfl,0,rfl,by simpa using e⟩
end
def lJ(B U:List ab):List (Bool×Bool):=((B.zip U).map λo=>(cz o.1 o.2,a7 o.1 o.2))
theorem DN:∀{w:Nat}{B U:List ab},f_ w B U=V->iy (decide (B.length<U.length)) (lJ B U)=gu B U
 |_,[],[],_=>rfl
 |w,g::r,d::I,e=>by
  rw[f_,cV]at e;show (if cz g d=V then iy (decide (r.length+1<I.length+1)) (lJ r I) else a7 g d)=gu (g::r) (d::I);rw[gu,(qB e.1).2.2,<-DN e.2,kd.mpr Ad]
 |_,[],_::_,_=>rfl
 |_,_::_,[],_=>rfl
theorem zK{w:Nat}:∀{B U:List ab}{v:Nat}{g d:ab},f_ w B U=V->B[v]?=Z g->U[v]?=Z d->eF w g d=V
 |[],U,v,g,d,_,e,_=>by simp at e
 |s::B,[],v,g,d,_,_,e=>by simp at e
 |s::B,c::U,0,g,d,e,A,C=>by
  rw[f_,cV]at e;cases A;cases C;exact e.1
 |s::B,c::U,v+1,g,d,e,A,C=>by
  rw[f_,cV]at e;exact zK (v:=v) e.2 ⇑A ⇑C
def UE{b v:Int}(a:dB h.heap (.int b) J)(c:dB h.heap (.int v) u):sY P h J u (a7 (.int b)<|.int v):=by
 let⟨@I,rfl⟩:=a;let⟨@We,rfl⟩:=c;intro VO y VD D p;rw[a7]at p;exact dz.MR P h b I v We VO y VD D p
def NX{f t:aD}(a:dB h.heap (.str f) J)(b:dB h.heap (.str t) u):sY P h J u (a7 (.str f)<|.str t):=by
 let⟨I,rfl⟩:=a;let⟨We,rfl⟩:=b;intro VO y VD D p;rw[a7]at p;exact (PySem.P.lt_str p:wpAny (aW VO y) P (ea .Lt (.str f I)<|.str t We) D VD h)
def Ab(f t:ab):Prop:=((∃b v,f=.int b/\t=.int v)\/∃g d,f=.str g/\t=.str d)
def HB{t:ab}(M:Ab f t)(a:dB h.heap f J)(c:dB h.heap t u):sY P h J u (a7 f t):=by
 rcases M with ⟨b,v,rfl,rfl⟩|⟨g,d,rfl,rfl⟩
 ·exact UE a c
 ·exact NX a c
def oC:∀{w:Nat}{f t:ab},eF w f t=V->Ab f t\/∃H g d,w=H+1/\f=.tup g/\t=.tup d/\f_ H g d=V:=by
 intro w f t e;unfold eF at e;split at e
 ·exact .inl (.inl ⟨_,_,rfl,rfl⟩)
 ·exact .inl (.inr ⟨_,_,rfl,rfl⟩)
 ·exact .inr ⟨_,_,_,rfl,rfl,rfl,e⟩
 ·cases e
def tJ(w:Nat):∀{P:bE}{f t:ab}{J u:af},eF w f t=V->P.units+w+2<b9->dB h.heap f J->dB h.heap t u->sY P h J u (a7 f t):=by
 induction w with
 |zero=>
  intro P f t J u e L a b;rcases oC e with M|⟨H,_,_,c,_⟩
  ·exact HB M a b
  ·cases c
 |succ w N=>
  intro P f t J u e L a b;rcases oC e with M|⟨H,B,U,c,rfl,rfl,e⟩
  ·exact HB M a b
  cases c;let⟨g,m,VP,@H,rfl,A,C,j,k⟩:=a;let⟨d,Wj,S,@Q,rfl,l,n,o,q⟩:=b;let⟨cls,R,data,a6⟩:=m;let⟨a1,T,a2,al⟩:=Wj;simp only at C j n o;subst C j n o;have r:B.length=VP.size:=by rw[k.length,f6]
  have s:U.length=S.size:=by rw[q.length,f6]
  intro VO y VD D p;rw[a7,<-DN e,r,s]at p;have am:(lJ B U).length=min VP.size S.size:=by rw[lJ,bB,wL,r,s]
  refine DF (op:=.Lt) ⟨_,A,rfl⟩ ⟨_,l,rfl⟩ PySem.F.slot_tuple_lt PySem.F.entry_tuple_lt (PySem.F.args_tuple_lt_2 _ _) (RX g d VP S H Q R T a6 al (lJ B U) am)
   ⟨A,l,λv bK an ap=>?_,show af.bool (iy (decide (VP.size<S.size))<|lJ B U)≠af.notImplemented/\D (.bool<|iy (decide (VP.size<S.size))<|lJ B U) h from ⟨(λf=>nomatch f),p⟩⟩ ⋯;let⟨@Wb,x,z⟩:=k.get (v:=v) (u:=VP[v]) (by rw[hq];simp[bK]);let⟨@Wl,E,G⟩:=q.get (v:=v) (u:=S[v]) (by rw[hq];simp[an]);have lk:=zK e x E;have I:=qB lk;have as:(lJ B U)[v]=(cz Wb Wl,a7 Wb Wl):=by
   have:(lJ B U)[v]?=Z (cz Wb Wl,a7 Wb Wl):=by
    rw[lJ,hb,(B_ (z:=(Wb,Wl))).mpr ⟨x,E⟩];rfl
   rw[fL ap]at this;exact Option.some.inj this
  rw[as];exact⟨iP w I.1 I.2.1 (by show P.units+1+w+1<b9;lia) z G,λ_=>N lk (by show P.units+1+w+2<b9;lia) z G⟩
end L2
namespace L2
open Spec PyProof.Rows PySem.W
variable{s:ab}{VP:List af}{M B:List ab}
theorem C7{V7:Type}{o p:V7->Bool}:∀{M:List V7},(∀f∈M,o f=V->p f=V)->(∃f∈M,p f=V/\o f=aq)->M.countP o<M.countP p
 |[],_,e=>by let⟨@f,a,W⟩:=e;cases a
 |g::M,e,⟨f,a,A,C⟩=>by
  rw[vD,vD];have le:M.countP o<=M.countP p:=List.countP_mono_left λt b=>e t (.tail _ b);rcases bO.mp a with rfl|a
  ·rw[A,C];simp;omega
  ·have:=C7 (λt b=>e t<|.tail _ b) ⟨f,a,A,C⟩;have c:=e g (.head _);cases d:o g<;>cases h:p g<;>rw[d,h]at c<;>simp at c ⊢<;>omega
structure ow(B:List ab):Prop where
 qA:B.length<=1000
 jS:∀g∈B,∀d∈B,eF 6 g d=V
structure qQ(B:List ab):Prop where
 qA:B.length<=1000
 jS:∀g∈B,∀d∈B,eF 6 g d=V
 ah:B.Nodup
def qQ.w{B:List ab}(m:qQ B):ow B:=⟨m.qA,m.jS⟩
def pn(B:List ab)(f:ab):Nat:=(B.countP λs=>a7 s f)
def BJ(m:ow B){f t:ab}(a:f∈B)(b:t∈B)(e:a7 f t=V):pn B f<pn B t:=
 C7 (λi d c=>qF (m.jS i d f a) (m.jS f a t b) c e) ⟨f,a,e,r9 f⟩
def Dt(m:ow B){f t:ab}(a:f∈B)(b:t∈B):decide ((pn B f:Int)<(pn B t:Int))=a7 f t:=by
 cases c:a7 f t with
 |true=>exact dJ (by have:=BJ m a b c;lia)
 |false=>
  refine eB λi=>?_;by_cases e:f=t
  ·subst e;lia
  ·have I:=oi (m.jS f a t b) e;rw[c]at I;have We:a7 t f=V:=by cases p:a7 t f<;>rw[p]at I<;>simp at I ⊢
   have:=BJ m b a We;lia
def p9(B:List ab)(b:Nat):Int:=(pn B (B.getD b .aS))
def m4{b:Nat}(e:b<B.length):B.getD b .aS∈B:=by
 rw[cR,fL e];exact IP e
def I7(m:ow B){o:Array Nat}(a:dd B.length o)(i:ia (p9 B) o B.length):(o.toList.map λb=>B.getD b .aS).Pairwise (λg d=>a7 d g=aq):=by
 rw[p6];intro b v VF e l;have VN:=a.size;have j:b<B.length:=by simpa [VN] using VF
 have f:v<B.length:=by simpa [VN] using e
 have le:=i b v ⋯ f;have L:∀q (h:q<(o.toList.map λb=>B.getD b .aS).length),(o.toList.map λb=>B.getD b .aS)[q]=B.getD (o.getD q 0) .aS:=λq h=>by
  have k:q<o.size:=by simpa using h
  rw[nv,Ji];simp[Array.getD,k]
 rw[L b VF,L v e];rw[<-Dt m (m4<|a.lt f) (m4<|a.lt j)];refine eB ?_;have c:∀q,(pn B (B.getD (o.getD q 0) .aS):Int)=bl (p9 B) o q:=λ_=>rfl;rw[c b,c v];lia
theorem DU:∀{M H:List ab},M.Perm H->M.Pairwise (λg d=>a7 g d=V)->H.Pairwise (λg d=>a7 g d=V)->(∀g∈M,∀d∈M,a7 g d=V->a7 d g=aq)->M=H
 |[],H,o,_,_,_=>(List.nil_perm.mp o).symm
 |g::M,H,o,A,C,a=>by
  cases H with
  |nil=>exact absurd o.length_eq ↥0
  |cons d H=>
   have c:g=d:=by
    by_cases c:g=d
    ·exact c
    ·have h:g∈H:=by
      rcases bO.mp (o.mem_iff.mp<|.head _) with i|i
      ·exact absurd i c
      ·exact i
     have b:d∈M:=by
      rcases bO.mp (o.mem_iff.mpr<|.head _) with i|i
      ·exact absurd i.symm c
      ·exact i
     have j:=(fZ.mp A).1 d b;have e:=(fZ.mp C).1 g h;rw[a g (.head _) d (.tail _ b) j]at e;cases e
   subst c;rw[DU (Ue o) (fZ.mp A).2 (fZ.mp C).2 λf k t l=>a f (.tail _ k) t<|.tail _ l]
theorem vU(f:ab):∀M:List ab,(lQ a7 f M).Perm (f::M)
 |[]=>List.Perm.refl _
 |t::r=>by
  rw[lQ];split
  ·exact List.Perm.refl _
  ·exact (List.Perm.cons t<|vU f r).trans (List.Perm.swap f t r)
theorem iL:∀M:List ab,(gN a7 M).Perm M
 |[]=>List.Perm.refl _
 |f::r=>(vU f _).trans (List.Perm.cons f<|iL r)
theorem BE{f:ab}:∀{M:List ab},M.Pairwise (λg d=>a7 g d=V)->(∀t∈M,f≠t)->(∀g∈f::M,∀d∈f::M,eF 6 g d=V)->(lQ a7 f M).Pairwise (λg d=>a7 g d=V)
 |[],_,_,_=>fN _ _
 |t::r,e,w,lk=>by
  have VB:=fZ.mp e;rw[lQ];split
  ·rename_i c;refine fZ.mpr ⟨λi a=>?_,e⟩;rcases bO.mp a with rfl|a
   ·exact c
   ·exact qF (lk f (.head _) t<|.tail _<|.head _) (lk t (.tail _<|.head _) i<|.tail _<|.tail _ a) c (VB.1 i a)
  ·rename_i c;refine fZ.mpr ⟨λi a=>?_,BE VB.2 (λi a=>w i<|.tail _ a) λg b d h=>lk g ?_ d ?_⟩
   ·rcases bO.mp ((vU f r).mem_iff.mp a) with rfl|a
    ·have I:=oi (lk i (.head _) t<|.tail _<|.head _) (w t<|.head _);cases p:a7 t i with
     |true=>rfl
     |false=>rw[p]at I;exact absurd I c
    ·exact VB.1 i a
   ·rcases bO.mp b with rfl|b
    ·exact .head _
    ·exact .tail _ (.tail _ b)
   ·rcases bO.mp h with rfl|h
    ·exact .head _
    ·exact .tail _ (.tail _ h)
theorem oT:∀{M:List ab},M.Nodup->(∀g∈M,∀d∈M,eF 6 g d=V)->(gN a7 M).Pairwise (λg d=>a7 g d=V)
 |[],_,_=>.nil
 |f::r,ah,lk=>by
  have e:=hN.mp ah;refine BE (oT e.2 λg a d b=>lk g (.tail _ a) d<|.tail _ b) (λt h c=>e.1 (by rw[c];exact (iL r).mem_iff.mp h)) λg a d b=>lk g ?_ d ?_
  ·rcases bO.mp a with rfl|a
   ·exact .head _
   ·exact .tail _ ((iL r).mem_iff.mp a)
  ·rcases bO.mp b with rfl|b
   ·exact .head _
   ·exact .tail _ ((iL r).mem_iff.mp b)
def AU(m:qQ B)(o:M.Perm B)(e:M.Pairwise (λg d=>a7 g d=V)):M=gN a7 B:=by
 refine DU (o.trans (iL B).symm) e (oT m.ah m.jS) λg a d b c=>?_;have I:=oi (m.jS g (o.mem_iff.mp a) d<|o.mem_iff.mp b) (λi=>by subst i;rw[r9]at c;cases c);rw[c]at I;cases p:a7 d g with
 |false=>rfl
 |true=>rw[p]at I;cases I
theorem Hp{f:ab}:∀{M:List ab},M.Pairwise (λg d=>a7 d g=aq)->(∀g∈f::M,∀d∈f::M,eF 6 g d=V)->(lQ a7 f M).Pairwise (λg d=>a7 d g=aq)
 |[],_,_=>fN _ _
 |t::r,e,lk=>by
  have VB:=fZ.mp e;unfold lQ;split
  ·rename_i c;refine fZ.mpr ⟨λi a=>?_,e⟩;cases p:a7 i f with
   |false=>rfl
   |true=>
    have I:=qF (lk i (.tail _ a) f<|.head _) (lk f (.head _) t<|.tail _<|.head _) p c;rcases bO.mp a with rfl|a
    ·rw[r9]at I;cases I
    ·rw[VB.1 i a]at I;cases I
  ·rename_i c;refine fZ.mpr ⟨λi a=>?_,Hp VB.2 λg b d h=>lk g ?_ d ?_⟩
   ·rcases bO.mp ((vU f r).mem_iff.mp a) with rfl|a
    ·cases p:a7 i t with
     |false=>rfl
     |true=>exact absurd p c
    ·exact VB.1 i a
   ·rcases bO.mp b with rfl|b
    ·exact .head _
    ·exact .tail _ (.tail _ b)
   ·rcases bO.mp h with rfl|h
    ·exact .head _
    ·exact .tail _ (.tail _ h)
theorem Ja:∀{M:List ab},(∀g∈M,∀d∈M,eF 6 g d=V)->(gN a7 M).Pairwise (λg d=>a7 d g=aq)
 |[],_=>.nil
 |f::r,lk=>by
  refine Hp (Ja λg a d b=>lk g (.tail _ a) d<|.tail _ b) λg a d b=>lk g ?_ d ?_
  ·rcases bO.mp a with rfl|a
   ·exact .head _
   ·exact .tail _ ((iL r).mem_iff.mp a)
  ·rcases bO.mp b with rfl|b
   ·exact .head _
   ·exact .tail _ ((iL r).mem_iff.mp b)
def BK(m:ow B)(o:M.Perm B)(e:M.Pairwise (λg d=>a7 d g=aq)):M=gN a7 B:=by
 refine G_ (λg d a b f t=>?_) e (Ja m.jS) (o.trans (iL B).symm);by_cases c:g=d
 ·exact c
 ·have I:=oi (m.jS g (o.mem_iff.mp a) d<|(iL B).mem_iff.mp b) c;rw[f,t]at I;cases I
def j0:ab->Bool
 |.tup (.int _::_)=>V
 |.tup (.str _::_)=>V
 |_=>aq
def rp:ab->Bool
 |.tup (.int _::_)=>V
 |_=>aq
def sE:ab->Bool
 |.tup (.str _::_)=>V
 |_=>aq
def o4:ab->Bool
 |.tup (.tup _::_)=>V
 |_=>aq
section
variable{VO:bF}{y:bj}{P:bE}{VD:af->ao->Prop}{h:ao}
theorem C6{d N:Bool}(w:Nat)(n:P.units+w+2<b9){D:Bool->ao->Prop}:∀{B U:List ab}{T j:List af}{b:Nat},f_ w B U=V->N=decide (B.length<U.length)->eb h.heap B T->eb h.heap U j->(d=V->b=0->∃q r,B=q::r/\∀g,q≠.tup g)->D (gu B U) h->KatLex VO y P d N D (T.zip j) b h
 |[],U,T,j,b,_,a,A,C,_,p=>by
  rw[show T=[] from A,a];exact kat_nil (by cases U<;>exact p)
 |s::B,[],T,j,b,_,a,A,C,_,p=>by
  rw[show j=[] from C,a,List.zip_nil_right];exact kat_nil p
 |s::B,c::U,T,j,b,e,x,A,C,z,p=>by
  rw[f_,cV]at e;let⟨u,@T,rfl,l,E⟩:=A;let⟨J,@j,rfl,aU,aV⟩:=C;rw[List.zip_cons_cons];let@⟨F,Wo,G⟩:=qB e.1;refine kat_cons (iP w F Wo ⋯ l aU VO y _ _ ?_);rw[G];rw[gu]at p;cases o:ab.beq s c with
  |true=>
   rw[o,aJ rfl]at p;exact kat_yes (C6 w n e.2 (x.trans<|kd.mpr Ad) E aV (λ_ i=>⋯) p)
  |false=>
   rw[o,aP eu]at p;refine kat_no ?_;by_cases a:(d&&b==0)=V
   ·rw[a];rw[cV]at a;let⟨q,@r,i,H⟩:=z a.1 ⇑(a.2);cases i;rcases oC e.1 with M|⟨_,_,_,_,k,_⟩
    ·rcases M with ⟨L,v,k,m⟩|⟨f,t,k,m⟩
     ·cases k;cases m;let⟨@I,rfl⟩:=l;let⟨@We,rfl⟩:=aU;rw[a7]at p;exact oneLt_int p
     ·cases k;cases m;let⟨@I,rfl⟩:=l;let⟨@We,rfl⟩:=aU;rw[a7]at p;exact oneLt_str p
    ·exact absurd k (H _)
   ·rw[show (d&&b==0)=aq by simpa using a];exact kat_one _ _ (tJ w e.1 n l aU VO y _ _ p)
def IC{d:Bool}(m:ow B)(j:eb h.heap B VP)(l:∀s∈B,∃r,s=.tup r)(A:d=V->∀s∈B,j0 s=V)(R:P.units+9<b9):
  f9 VP.length (p9 B) (fC VO y P (sZ d)<|VP.toArray.zip VP.toArray) h:=by
 intro b v aG VF C p;have S:=j.length;have a:=m4 (B:=B) (b:=b) ⋯;have c:=m4 (B:=B) (b:=v) ⋯;unfold p9 at p;rw[Dt m a c]at p;let⟨@Wb,n,D⟩:=j.get (v:=b) (u:=VP[b]) ↥0;let⟨@Wl,o,E⟩:=j.get (v:=v) (u:=VP[v]) ↥0;rw[cR,n,cR,o]at p;rw[cR,n]at a;rw[cR,o]at c;let⟨@g,F⟩:=l Wb a;let⟨@k,G⟩:=l Wl c;subst F G;have lk:f_ 5 g k=V:=m.jS _ a _ c;unfold fC;rw[u9 rfl,u9 rfl,cR,cR,fL VF,fL C];show wpAny _ _ (keyLt' (sZ d) VP[b] VP[v]) _ _ _;let⟨f,T,z,@U,H,I,al,J,q⟩:=D;let⟨t,am,VR,@an,L,V8,Wd,M,w⟩:=E;rw[H,L];refine kat_lt (b:=d) I J V8 M ?_;have N:g.length=z.size:=by rw[q.length,f6]
 have O:k.length=VR.size:=by rw[w.length,f6]
 refine C6 5 ⋯ lk (by rw[N,O]) q w (λQ W=>?_) (by have x:aG (a7 (.tup g)<|.tup k) h:=p;rw[a7]at x;exact x);have:=A Q _ a;unfold j0 at this;split at this
 ·rename_i e;cases e;exact⟨_,_,rfl,λg i=>nomatch i⟩
 ·rename_i e;cases e;exact⟨_,_,rfl,λg i=>nomatch i⟩
 ·cases this
theorem B8:∀{B:List ab}{VP:List af},eb h.heap B VP->(∀s∈B,∃N r,s=.tup (N::r))->∃aE,KatTups h.heap VP aE/\aE.length=VP.length/\
  ((∀s∈B,rp s=V)->∀u∈aE,∃b I,u=af.int b I)/\((∀s∈B,sE s=V)->∀u∈aE,∃b I,u=af.str b I)/\((∀s∈B,o4 s=V)->∀u∈aE,∃g WA,u=af.ref g/\h.heap.get? g=Z WA/\WA.cls=.type "tuple")
 |[],VP,e,_=>by
  rw[show VP=[] from e];exact⟨[],trivial,rfl,(λ_ W e=>nomatch e),(λ_ W e=>nomatch e),(λ_ W e=>nomatch e)⟩
 |s::B,VP,e,k=>by
  let⟨u,@r,rfl,A,C⟩:=e;let⟨@aE,n,o,q,t,v⟩:=B8 C λf d=>k f (.tail _ d);let⟨N,@Wz,rfl⟩:=k s (.head _);let⟨g,m,V9,@w,rfl,x,y,z,D⟩:=A;let⟨l,@H,c,j,L⟩:=D;have E:V9[0]?=Z l:=by
   rw[<-hq,c];rfl
  refine⟨l::aE,KatTups.cons x y z E n,by simp[o],λi J a=>?_,λi J a=>?_,λi J a=>?_⟩
  ·rcases bO.mp a with rfl|a
   ·have:=i _ (.head _);unfold rp at this;split at this
    ·rename_i p;cases p;exact⟨_,j⟩
    ·cases this
   ·exact q (λf d=>i f<|.tail _ d) J a
  ·rcases bO.mp a with rfl|a
   ·have:=i _ (.head _);unfold sE at this;split at this
    ·rename_i p;cases p;exact⟨_,j⟩
    ·cases this
   ·exact t (λf d=>i f<|.tail _ d) J a
  ·rcases bO.mp a with rfl|a
   ·have:=i _ (.head _);unfold o4 at this;split at this
    ·rename_i p;cases p;let⟨F,Wj,W,@W,G,V8,Wd,W⟩:=j;exact⟨F,Wj,G,V8,Wd⟩
    ·cases this
   ·exact v (λf d=>i f<|.tail _ d) J a
def qi(e:j0 s=V):(rp s=V\/sE s=V)/\∃N r,s=.tup (N::r):=by
 unfold j0 at e;split at e
 ·exact⟨.inl rfl,_,_,rfl⟩
 ·exact⟨.inr rfl,_,_,rfl⟩
 ·cases e
def Cc(e:o4 s=V):∃N r,s=.tup (N::r):=by
 unfold o4 at e;split at e
 ·exact⟨_,_,rfl⟩
 ·cases e
def Q8{w:Nat}(h:∀f∈B,∀t∈B,eF w f t=V)(e:∀s∈B,j0 s=V):(∀s∈B,rp s=V)\/∀s∈B,sE s=V:=by
 cases B with
 |nil=>exact .inl λs hd=>nomatch hd
 |cons f B=>
  have S:∀t∈f::B,∀{p:ab->Bool},(p=rp\/p=sE)->p f=V->p t=V:=λt c {p} j a=>by
   have M:=h f (.head _) t c;have k:=(qi<|e t c).1;have g:=qi (e f<|.head _);let⟨N,r,rfl⟩:=g.2;let⟨L,I,rfl⟩:=(qi<|e t c).2;cases w with
   |zero=>cases M
   |succ w=>
    rw[eF,f_,cV]at M;rcases j with rfl|rfl
    ·rcases oC M.1 with M|⟨_,_,_,_,b,_⟩
     ·rcases M with ⟨_,_,_,d⟩|⟨_,_,b,_⟩
      ·rw[d];rfl
      ·rw[b]at a;cases a
     ·rw[b]at a;cases a
    ·rcases oC M.1 with M|⟨_,_,_,_,b,_⟩
     ·rcases M with ⟨_,_,b,_⟩|⟨_,_,_,d⟩
      ·rw[b]at a;cases a
      ·rw[d];rfl
     ·rw[b]at a;cases a
  rcases (qi<|e f<|.head _).1 with i|i
  ·exact .inl λs hd=>S s hd (.inl rfl) i
  ·exact .inr λs hd=>S s hd (.inr rfl) i
end
section
variable{a:aK}
theorem bN.pick{j:aA}{VR:List ar}(e:bN j B VR):∀{o:List Nat},(∀q∈o,q<B.length)->bN j (o.map λb=>B.getD b .aS) (o.map λb=>VR.getD b .aS)
 |[],_=>rfl
 |q::o,a=>by
  let⟨@u,c,d⟩:=e.get (b:=q) (s:=B.getD q .aS) (by
   have:=a q (.head _);rw[cR,fL this];rfl)
  refine⟨u,_,?_,d,e.pick λv f=>a v<|.tail _ f⟩;rw[cS,cR,c];rfl
structure o8(B:List ab):Prop where
 ord:qQ B
 fst:(∀s∈B,j0 s=V)\/(∀s∈B,o4 s=V)
structure rY(B:List ab):Prop where
 ord:ow B
 fst:(∀s∈B,j0 s=V)\/(∀s∈B,o4 s=V)
def o8.w{B:List ab}(m:o8 B):rY B:=⟨m.ord.w,m.fst⟩
def rY.tup(m:rY B):∀s∈B,∃r,s=.tup r:=λs hd=>by
 rcases m.fst with i|i
 ·let⟨N,r,c⟩:=(qi<|i s hd).2;exact⟨_,c⟩
 ·let⟨N,r,c⟩:=Cc (i s hd);exact⟨_,c⟩
def eb.tq{e VB:aY}(q:∀d m,e.get? d=Z m->VB.get? d=Z m){B:List ab}{T:List af}(f:eb e B T):eb VB B T:=f.keep λg m W W c W W=>q g m c
def Cp{e:aY}{h:ao}(m:rY B)(C:2<=VP.length)(j:eb h.heap B VP)(P:bE)(VD:af->ao->Prop)(D:gU->ao->Prop)(c:D (sZ<|decide (∀s∈B,j0 s=V)) h):
  wpAny (aW a.prog a.w) P (yN VP.toArray) D VD h:=by
 let⟨@aE,f,r,k,l,n⟩:=B8 j (m.fst.elim (λi s hd=>(qi<|i s hd).2) λi s hd=>Cc<|i s hd);have t:=j.length;by_cases hf:∀s∈B,j0 s=V
 ·rw[dJ hf]at c;rcases Q8 m.ord.jS hf with hf|hf
  ·refine zU (T:=af.type "int") f ⋯ (λu d=>?_) rfl ?_
   ·let⟨b,@I,rfl⟩:=k hf u d;exact z4 rfl
   ·rw[show (af.type "int" != af.type "tuple")=V by decide];exact c
  ·refine zU (T:=af.type "str") f ⋯ (λu d=>?_) rfl ?_
   ·let⟨b,@I,rfl⟩:=l hf u d;exact z4 rfl
   ·rw[show (af.type "str" != af.type "tuple")=V by decide];exact c
 ·rw[eB hf]at c;have o:=m.fst.resolve_left hf;refine zU (T:=af.type "tuple") f ⋯ (λu d=>?_) rfl ?_
  ·let⟨g,@WA,rfl,p,q⟩:=n o u d;have:Looks (aW a.prog a.w) h.heap (qb<|.ref g) WA.cls:=(Looks.ld p).andThen .now;rw[q]at this;exact this
  ·rw[show (af.type "tuple" != af.type "tuple")=aq by decide];exact c
def Hu(u:a.calm=V)(S:a.A.units+20<b9):eY a (.builtin "sorted") (λz j D=>∃(g:ae) (B:List ab) (VR:List ar),z=[.ref g]/\(dv a.K j g VR\/cu a.K j g VR)/\bN j B VR/\rY B/\
  ∀M WO,j M=Y->bN j (gN a7 B) WO->D (.ref M) (upd j M<|.lst WO)):=by
 intro G h x j z VZ D l r e;let⟨g,B,@VR,rfl,VN,VF,m,p⟩:=e;let⟨@J,rfl,v⟩:=ih r;cases v;have E:VR.length<=1000:=by rw[<-VF.length];exact m.ord.qA
 have go:∀{F:String}{VP:List af}{w:Nat}{WA:bc},(F = "list" \/ F = "tuple")->bY VR VP->h.heap.get? g=Z WA->WA.cls=.type F->WA.data=.seq VP.toArray w->wpAny (aW a.prog a.w) a.A (call (.builtin "sorted") [.ref g]) (eP a G x D) a.cQ h:=by
  intro F VP w WA H d c au f;have k:=VF.e8 l.aX d;have I:VP.length=B.length:=k.length.symm;refine BX u (p9 B) (sZ<|decide (∀s∈B,j0 s=V)) l d H c au f E (λC n Wq q P VD D L=>Cp (e:=n) m C (k.tq q) P VD D L) (λn Wq q=>?_) (.inl (by have:=m.ord.qA;lia)) λo M i t a3=>?_
  ·refine IC (h:={h with heap:=n,toks:=Wq}) m.ord (k.tq q) m.tup (λN=>?_) (by show a.A.units+1+1+9<b9;lia);exact e9 N
  ·rw[I]at i t;have O:(o.toList.map λb=>B.getD b .aS)=gN a7 B:=BK m.ord (x5 i) (I7 m.ord i t);refine p M _ a3 ?_;rw[<-O];exact VF.pick λq Q=>i8.mp (i.mem_iff.mp Q)
 rcases VN with VN|VN
 ·let⟨@VP,d,o,W⟩:=l.list VN;let⟨@WA,c,au,⟨@w,f⟩⟩:=o.isList;exact go (.inl rfl) d c au f
 ·let⟨@VP,d,o,W⟩:=l.tuple VN;let⟨@WA,c,au,⟨@w,f⟩⟩:=o;exact go (.inr rfl) d c au f
theorem Hx{j:aA}:∀{VS:List (List ab×ar)}{U:List (List ab×ae×af)},eA (λ(o:List ab×ar) (p:List ab×ae×af)=>o.1=p.1/\h2 j o.1 p.2.1/\cq o.2 p.2.2) VS U->
  bN j (VS.map λo=>.tup o.1) (U.map λf=>ar.ref f.2.1)/\bY (U.map λf=>ar.ref f.2.1) (U.map λf=>af.ref f.2.1)
 |_,_,.nil=>⟨rfl,.nil⟩
 |_,_,.cons r I=>by
  let@⟨A,C⟩:=Hx I;exact⟨⟨_,_,rfl,r.2.1.2,A⟩,.cons rfl C⟩
def SH(bd:a.calm=V)(cs:a.A.units+20<b9):eY a (.builtin "sorted") (λz j D=>∃(s:ae) (VS:List (List ab×ar)),z=[.ref s]/\j s=Z (.aR VS)/\o8 (VS.map λo=>.tup o.1)/\
  ∀M WO,j M=Y->bN j (gN a7<|VS.map λo=>.tup o.1) WO->D (.ref M) (upd j M<|.lst WO)):=by
 intro G h x j z VZ D l r e;let⟨s,@VS,rfl,hd,g,p⟩:=e;let⟨@J,rfl,be⟩:=ih r;cases be;let@⟨i,E,⟨@U,rel,⟨m,bi,@WB,bm,bn,bs,bv,ah⟩⟩⟩:=l.aX s _ hd;let@⟨VF,n⟩:=Hx rel;have T:jj h.heap s (U.map λf=>af.ref f.2.1) WB:=⟨m,bi,bm,bn,bs,by rw[bv,f5];rfl⟩;generalize (U.map λf=>af.ref f.2.1)=VP at n T;generalize (U.map λf=>ar.ref f.2.1)=VR at VF n;generalize db:(VS.map λo=>ab.tup o.1)=B at VF g p;have L:=VF.e8 l.aX n;have al:VP.length=B.length:=L.length.symm;have qA:=g.ord.qA;have ds:VR.length=VP.length:=n.length;have am:VP.length<=sizeLine:=fv ⋯ (show 1000<=sizeLine by decide);refine yQ kind_sorted Ij DD (Ce _) ?i
 case i=>
  unfold bx.«sorted»;refine ax (m:=checkCount "sorted" 1 1 _) (ba<|ax<|kdu_collect (A:=a.A.in1) (Tv E) (l.ok.hd bd) T am λVB Wq N O an=>?_);have ca:N.toList=VP:=by
   apply tI
   ·rw[f6];exact an.1
   ·intro b A C;have:=an.2 b N.toList[b] (by rw[<-hq];exact fL A);have this:VP[b]?=Z N.toList[b]:=this;rw[fL C]at this;exact (Option.some.inj this).symm
  rw[ca];refine ax (yP ?_ am);have ap:(VB.push<|gM "list" VP.toArray 0).get? VB.objs.size=Z (gM "list" VP.toArray 0):=dr _ rfl;have bJ:∀d m,h.heap.get? d=Z m->(VB.push<|gM "list" VP.toArray 0).get? d=Z m:=λd m c=>b4 _ (O d m c);have as:aH a G x j {h with heap:=VB,toks:=Wq}:=l.kept O;have a1:∀d m,h.heap.get? d=Z m->d≠VB.objs.size:=λd m c=>ef (cg<|O d m c);refine ax (h1<|iW Cn ⟨_,ap,rfl⟩ Iu ?t<|CN _)
  case t=>
   refine Je (h:={h with heap:=VB.push (gM "list" VP.toArray 0),toks:=Wq}) (p9 B) (sZ<|decide (∀s∈B,j0 s=V)) ap
    (λC Q R D cd=>Cp (a:=a) (e:=Q) g.w C (L.tq λd m v=>R d m (a1 d m v)<|bJ d m v) _ _ D cd)
    (λQ R=>IC (h:={h with heap:=Q,toks:=Wq}) g.w.ord (L.tq λd m v=>R d m (a1 d m v)<|bJ d m v) g.w.tup (λce=>e9 ce) (by show a.A.units+1+1+9<b9;lia))
    (.inl ⋯) ⋯ λo C k a2 Wd ⟨ch,ci⟩=>⟨_,rfl,ba ⟨_,rfl,?_⟩⟩;have cl:j VB.objs.size=Y:=as.aX.fresh (bT _);have co:∀d m,VB.get? d=Z m->d≠VB.objs.size:=λd m c=>ef (cg c);rw[al]at k a2;refine⟨.ref VB.objs.size,upd j VB.objs.size<|.lst<|o.toList.map λb=>VR.getD b .aS,?_,rfl,p _ _ cl ?_⟩
   ·refine as.laid (We:=Wq) (λd J c=>Wd d J (co d J c)<|b4 _ c) (bT _) ⟨?_,_,ch,?_,ci⟩
    ·rw[bB,f6,k.size];lia
    ·refine zP ↥0 λb u J A C=>?_;rw[hb]at A C;cases S:o.toList[b]? with
     |none=>rw[S]at A;cases A
     |some q=>
      rw[S]at A C;cases A;cases C;have F:q<VP.length:=by rw[al];exact i8.mp (k.mem_iff.mp<|jJ S)
      let⟨@J,I,cr⟩:=n.get (b:=q) (f:=VR[q]'⋯) (by simp[show q<VR.length by lia]);rw[fL F]at I;have I:=Option.some.inj I;simp only[List.getD,fL F,fL (show q<VR.length by lia),rH];rw[I];exact cr
   ·rw[<-BK g.w.ord (x5 k) (I7 g.w.ord k a2)];exact VF.pick λq F=>i8.mp (k.mem_iff.mp F)
def tr(B:List ab):Bool:=(decide (B.length<=1000)&&B.all (λg=>B.all λd=>eF 6 g d)&&decide B.Nodup&&(B.all j0 || B.all o4))
def mw:tr B=V↔o8 B:=by
 unfold tr;rw[cV,cV,cV,AO,hD,hD,jm,jm,jm];constructor
 ·rintro⟨⟨⟨A,C⟩,a⟩,b⟩;exact⟨⟨A,λg c d e=>jm.mp (C g c) d e,a⟩,b⟩
 ·rintro⟨⟨A,C,a⟩,b⟩;exact⟨⟨⟨A,λg c=>jm.mpr λd e=>C g c d e⟩,a⟩,b⟩
def gE(B:List ab):Option ak:=(if tr B=V then Z (.lst<|gN a7 B) else Y)
def eM:hE:=(λB=>match B with
 |[.lst f]=>match my f with
  |some V2=>Au [.lst f]
  |none=>gE f
 |[.im (.tup f)]=>gE f
 |[.aR VS]=>gE (VS.map λo=>.tup o.1)
 |_=>Y)
def x7{s:ak}(e:gE B=Z s):o8 B/\s=.lst (gN a7 B):=by
 unfold gE at e;split at e
 ·rename_i c;cases e;exact⟨mw.mp c,rfl⟩
 ·cases e
theorem HW{j:aA}:∀{VS:List (List ab×ab)}{WK:List (List ab×ar)},e3 j VS WK->(VS.map λo=>ab.tup o.1)=WK.map λo=>ab.tup o.1
 |_,_,.nil=>rfl
 |_,_,.cons r I=>by rw[cS,cS,HW I,r.1]
def km(g:a.calm=V)(k:a.A.units+20<b9):g5 a (.builtin "sorted") eM:=by
 intro G h x j z VZ D l r n;let⟨B,@s,m,c,p⟩:=n;unfold eM at c;split at c
 ·rename_i f;split at c
  ·exact S3 g k G h x j z VZ D l r ⟨_,s,m,c,p⟩
  ·let@⟨d,rfl⟩:=x7 c;let⟨@u,rfl,⟨W,o,@VR,rfl,A,C,W⟩⟩:=gv m;exact Hu g k G h x j _ VZ D l r ⟨o,f,VR,rfl,.inl<|dv.of A,C,d.w,λM WO a3 e=>cb.l p a3 e⟩
 ·rename_i f;let@⟨d,rfl⟩:=x7 c;let⟨@u,rfl,q⟩:=gv m;let⟨o,@VR,rfl,A,C⟩:=q.i;exact Hu g k G h x j _ VZ D l r ⟨o,f,VR,rfl,.inr<|cu.of A,C,d.w,λM WO a3 e=>cb.l p a3 e⟩
 ·rename_i VS;let@⟨d,rfl⟩:=x7 c;let⟨@u,rfl,⟨W,o,@WK,rfl,A,C,W⟩⟩:=gv m;rw[HW C]at d p;exact SH g k G h x j _ VZ D l r ⟨o,WK,rfl,A,d,λM WO a3 e=>cb.l p a3 e⟩
 ·cases c
end
end L2
namespace PySem
open PySem.Sem (wp)
def P1:typeLookup (.type "list") "keys" = pure Y:=by rw[typeLookup_type,builtinLookup_eq_fast];kernel_rfl
def Me{VO:bF}{y:bj}{P:bE}{VD:af->ao->Prop}{h:ao}{g:ae}{z:Array af}{q:Nat}{D:Option af->ao->Prop}(a:h.heap.get? g=Z {cls:=.type "list",data:=.seq z q})(j:P.handled=Y)(e:∀VB Wq,(∀d m,h.heap.get? d=Z m->VB.get? d=Z m)->D Y {h with heap:=VB,toks:=Wq}):wpAny (aW VO y) P (getAttr? (.ref g) "keys") D VD h:=by
 let⟨k,L,s,Wq,VV⟩:=h;have b:∀f,(⟨k,L,s,f,VV⟩:ao).TypeIs (.ref g) "list" := λ_=>⟨_,a,rfl⟩;have p:=sub_AttributeError;have r:=xk.lookup;have t:=xk.bind (.ref g);have u:=am_list_getattr_none;unfold getAttr? getAttrBy? getAttrBy;repeat (any_goals (first|assumption|exact b _|((with_reducible show wpAny _ _ (call (af.builtin "list.__getattribute__") _ _) _ _ _);refine m6 xk (b _) am_entry_list_getattribute (F.args_list_getattribute_2 _ _) (meets_getattribute_miss_list g z q _ "keys" _ P1 (by decide +kernel) ∅) ⟨a,j,λVB f c i=>?_⟩)|wp_step))
 let⟨We,@v,l⟩:=i.there;show wpAny _ _ (GC _ _ _ _ _ _ _) _ _ _;unfold GC;have n:∀o,(⟨VB,L,s,o,VV⟩:ao).TypeIs (.ref c) "AttributeError" := λ_=>⟨_,l,rfl⟩;repeat (any_goals (first|assumption|exact n _|wp_step))
 exact e VB _ i.keeps
end PySem
namespace PySem
namespace F
def FA:x4 table "dict.update.loop" = Z bx.«dict.update.loop»:=entryFor_of_tree (by kernel_rfl)
def uo:plainId "dict.update.loop" = V:=by decide +kernel
end F
end PySem
namespace L2
open Spec PyProof.Rows PySem.W
variable{J u:af}{P:bE}{h:ao}{VT:Pos}{q:bt}
theorem yi{V7 WL:Type}{O:V7->WL->Prop}:∀{a:List V7}{c:List WL},eA O a c->∀(b:Nat),b<a.length->∃g d,a[b]?=Z g/\c[b]?=Z d/\O g d
 |_,_,.nil,b,e=>by simp at e
 |_,_,.cons r I,0,e=>⟨_,_,rfl,rfl,r⟩
 |_,_,.cons r I,b+1,e=>by
  let⟨g,@d,f,t,i⟩:=yi I b ⇑e;exact⟨g,d,by simpa using f,by simpa using t,i⟩
def qR:List ab->Option (List<|List ab×ab)
 |[]=>Z []
 |.tup [.tup q,s]::r=>(qR r).map λh=>(q,s)::h
 |_=>Y
def M1:∀{f:List ab}{VQ:List (List ab×ab)},qR f=Z VQ->f=VQ.map λo=>.tup [.tup o.1,o.2]:=by
 intro f;induction f with
 |nil=>intro VQ e;cases e;rfl
 |cons g f a=>
  intro VQ e;unfold qR at e;split at e
  ·cases e;rename_i c;cases c
  ·rename_i q s r c;cases c;let⟨@h,b,d⟩:=cv.mp e;cases d;rw[cS,<-a b]
  ·cases e
def m8(VQ:List (List ab×ab)):List (List ab×ab):=(VQ.foldl (λg o=>g9 g o.1 o.2) [])
def yZ(j:aA)(u:ar)(o:List ab×ab):Prop:=(∃I g t,u=.ref I/\j I=Z (.tup [.ref g,t])/\h2 j o.1 g/\cM j o.2 t)
theorem H7{j:aA}:∀{VQ:List (List ab×ab)}{VR:List ar},(∀o∈VQ,ab.keys 7 o.1=V)->bN j (VQ.map λo=>.tup [.tup o.1,o.2]) VR->eA (yZ j) VR VQ
 |[],VR,_,e=>by rw[show VR=[] from e];exact .nil
 |o::VQ,VR,a,e=>by
  let⟨u,@r,rfl,⟨I,@WO,rfl,A,⟨v1,@n,rfl,C,⟨b,@c,rfl,d,f⟩⟩⟩,h⟩:=e;cases (show c=[] from f);let⟨g,@i,rfl,k,l⟩:=C;exact .cons ⟨I,g,b,rfl,A,⟨a o<|.head _,g,i,rfl,k,l⟩,d⟩ (H7 (λp m=>a p<|.tail _ m) h)
section
variable{a:aK}{G:List (ae×bc)}{x:L2.a8}{j:aA}{WN:ao}
def de.is{VS:List (List ab×ar)}{z:List (List ab×ae×af)}(r:de j VS z):∀f∈z,h2 j f.1 f.2.1:=by
 intro f a;let⟨b,VF,rfl⟩:=vT.mp a;let⟨o,@p,A,C,c,d,W⟩:=yi r b (by rw[eA.length r];exact VF);rw[fL VF]at C;have C:=Option.some.inj C;subst C;rw[<-c];exact d
def zL(b:aH a G x j WN){k:ae}{e VB:aY}{VS:List (List ab×ar)}{z:List (List ab×ae×af)}(c:e.DictOfH (hX a.prog a.w) k z)(Wy:de j VS z)(cL:∀d m,WN.heap.get? d=Z m->VB.get? d=Z m)(g:∀m,e.get? k=Z m->VB.get? k=Z m):VB.DictOfH (hX a.prog a.w) k z:=by
 let⟨m,U,@WB,A,C,h,i,W,l⟩:=c;have n:aH a G x j {WN with heap:=VB}:=b.kept (We:=WN.toks) cL;exact⟨m,U,WB,g m A,C,h,i,λf o=>mE (e:=VB) n.aX<|Wy.is f o,l⟩
def NF(r:aH a G x j WN){P:bE}(ap:P.units+20<b9){k fq M:ae}{T:List af}{VR:List ar}{VQ:List (List ab×ab)}{a8:Nat->aY->Prop}{VI:u7->ao->Prop}(s:bY VR T)(N:eA (yZ j) VR VQ)(ex:VQ.length<=1000)(W:lj a.prog a.w P.in1 fq [fq,M] [fq] T.length (λb u=>T[b]?=Z u) a8)(as:WN.heap.get? k=Y)(v:WN.heap.get? fq=Y)(A:k≠fq)(a1:k≠M)(fin:∀(h:ao) (z:List (List ab×ae×af)) (VS:List (List ab×ar)),(∀d m,WN.heap.get? d=Z m->h.heap.get? d=Z m)->h.heap.DictOfH (hX a.prog a.w) k z->de j VS z->e3 j (m8 VQ) VS->VS.length<=1000->
   h.gens=WN.gens->h.drawn=WN.drawn->h.os=WN.os->VI (.ok<|.ret .none) h):
  ∀(H b:Nat) (I:h_) (h:ao) (z:List (List ab×ae×af)) (VS:List (List ab×ar)),T.length-b=H->b<=T.length->a8 b h.heap->(∀d m,WN.heap.get? d=Z m->h.heap.get? d=Z m)->
   h.heap.DictOfH (hX a.prog a.w) k z->de j VS z->e3 j (m8<|VQ.take b) VS->VS.length<=b->h.gens=WN.gens->h.drawn=WN.drawn->h.os=WN.os->
   codeAny (aW a.prog a.w) P (.builtin "dict.update.loop" ⟨[.ref k,.ref fq,.int b I,.none],[]⟩) VI h:=by
 have fd:T.length=VQ.length:=by rw[<-s.length,eA.length N]
 intro H;induction H with
 |zero=>
  intro b I h z VS a2 VF X cL B Wy p bd C D E;have be:b=T.length:=⋯
  refine nW F.FA ?_;rw[nd F.uo _];refine ax (m:=gF (.ref fq)) (W.done h _ _ (be ▸ X) λVB Wq keep=>?_);refine ax (m:=bx.Dict.addKeywords k []) (ba<|ba ?_);have l:∀d m,d≠fq->h.heap.get? d=Z m->VB.get? d=Z m:=λd m f c=>keep d m ⇑f c;refine fin _ z VS (λd m c=>l d m (λi=>by rw[i,v]at c;cases c)<|cL d m c) ?_ Wy (by rw[vv ⋯]at p;exact p) ⋯ C D E;exact zL r B Wy (λd m c=>l d m (λi=>by rw[i,v]at c;cases c)<|cL d m c) λm c=>l k m A c
 |succ H bi=>
  intro b I h z VS a2 VF X cL B Wy p bd C D E;have lt:b<T.length:=⋯
  refine nW F.FA ?_;rw[nd F.uo _];refine ax (m:=gF (.ref fq)) (W.item b h _ _ lt X λu VB Wq bm bn keep=>?_);have l:∀d m,d≠fq->h.heap.get? d=Z m->VB.get? d=Z m:=λd m f c=>keep d m ⇑f c;let⟨t,@n,bs,bv,⟨o,g,@Q,rfl,ca,R,cd⟩⟩:=yi N b (by rw[s.length];exact lt);let⟨@J,S,ce⟩:=s.get bs;rw[bm]at S;cases S;cases ce;have L:∀d m,WN.heap.get? d=Z m->VB.get? d=Z m:=λd m c=>l d m (λi=>by rw[i,v]at c;cases c) (cL d m c);have U:aH a G x j {WN with heap:=VB}:=r.kept (We:=WN.toks) L;have ch:=zL r B Wy L λm c=>l k m A c;let@⟨_,⟨@VP,ci,⟨@m,al,cl,⟨@w,co⟩⟩⟩⟩:=U.aX _ _ ca;let⟨dD,@du,rfl,cr,cs⟩:=tl ci;cases cr;show wpAny (aW a.prog a.w) P.in1 (holding [.ref o] _ >>= λ_=>again _) _ _ _;refine ax (h1<|ax<|mW ?_);unfold bx.Dict.pairItems;refine ax (rN (s:={h with heap:=VB,toks:=Wq}) (⟨m,al,(Prod.mk.inj cl).1⟩:ao.TypeIs {h with heap:=VB,toks:=Wq} (.ref o) "tuple") ?_);rw[aJ ∅];refine ax (fX (s:={h with heap:=VB,toks:=Wq}) al co<|ba ?_);show wpAny (aW a.prog a.w) P.in1 (holding [.ref g,du]<|dictSet k (.ref g) du) _ _ _;refine h1 (I6 (s:={h with heap:=VB,toks:=Wq}) (k:=n.1) (knd:=hX a.prog a.w) (pq ap) (mE (e:=VB) U.aX R) ch (λdb ds cm=>?_) (by
   have:=eA.length Wy;exact fv (show z.length<=1000 by lia) ∅))
  have am:∀d m,d≠k->VB.get? d=Z m->db.get? d=Z m:=λd m f c=>(cm.2 d f).trans c;have dL:=Wy.put n.1 (d:=g) (t:=Q) (J:=du) R cs;have eq:VQ.take (b+1)=VQ.take b++[n]:=by
   have an:=(fY.mp bv);rw[List.take_succ_eq_append_getElem an.1,an.2]
  have ev:e3 j (m8<|VQ.take<|b+1) (hK VS n.1 Q):=by
   rw[eq];unfold m8;rw[Ei];exact e3.put cd p
  refine ba ⟨lF F.uo _,bi (b+1) 0 _ _ _ ⋯ lt (W.frame _ _ _ bn λd f m c=>am d m (λi=>by
    subst i;rcases bO.mp f with i|f
    ·exact A i
    ·exact a1 (cH.mp f)) c) (λd m c=>am d m (λi=>by rw[i,as]at c;cases c)<|L d m c) ds dL ev ?_ C D E⟩
  unfold hK;split
  ·rw[bB];lia
  ·simp;lia
def Nv(v:a.calm=V)(ch:a.A.units+30<b9):eY a (.type "dict") (λz j D=>∃(M:ae) (VR:List ar) (VQ:List (List ab×ab)),z=[.ref M]/\j M=Z (.lst VR)/\eA (yZ j) VR VQ/\VQ.length<=1000/\
  ∀(s:ae) (VS:List (List ab×ar)),j s=Y->e3 j (m8 VQ) VS->D (.ref s) (upd j s<|.aR VS)):=by
 intro G h x j z VZ D l r e;let⟨M,VR,@VQ,rfl,N,Q,R,p⟩:=e;let⟨@J,rfl,S⟩:=ih r;cases S;let@⟨i,⟨VP,@w,T,c⟩⟩:=l.aX M _ N;have B:M<h.heap.objs.size:=cg c;refine callType_codes (Q₁:=λC E=>C=.ref h.heap.objs.size/\E={h with heap:=h.heap.push {cls:=.type "dict",data:=.dict #[]} }) PySem.F.kt_called_dict (PySem.F.kt_typeCall_dict_1 _) PySem.F.entry_dict_init (kt_code_dict_new _ ⟨rfl,rfl⟩) ?_;rintro C E ⟨rfl,rfl⟩;have al:(h.heap.push {cls:=.type "dict",data:=.dict #[]}).DictOfH (hX a.prog a.w) h.heap.objs.size []:=aY.DictOfH.new h.heap;have I:ao.TypeIs {h with heap:=h.heap.push {cls:=.type "dict",data:=.dict #[]} } (.ref h.heap.objs.size) "dict" := ⟨_,dr _ rfl,rfl⟩;have f:(h.heap.push {cls:=.type "dict",data:=.dict #[]}).get? M=Z {cls:=.type "list",data:=.seq VP.toArray w}:=b4 _ c;refine⟨I,PySem.F.args_dict_init_2 _ _,?_⟩;unfold bx.«dict.__init__»;refine ax ?_;unfold bx.Dict.selfAndRest;refine ax (DW I ?_);show wpAny _ _ (pure (h.heap.objs.size,[af.ref M])) _ _ _;refine ba ?_;show wpAny _ _ (bx.Dict.updateFrom "dict.__init__" h.heap.objs.size (.ref M) [] .none) _ _ _;unfold bx.Dict.updateFrom;refine ax (rN (⟨_,f,rfl⟩:ao.TypeIs {h with heap:=h.heap.push {cls:=.type "dict",data:=.dict #[]} } (.ref M) "list") ?_);rw[aJ ∅];refine ax (Me (h:={h with heap:=h.heap.push {cls:=.type "dict",data:=.dict #[]} }) f (l.ok.hd v) λA Wq V8=>?_);rw[aJ (show (Y:Option af).isNone=V from rfl)];refine ax (m:=rule _) (iu ?_);have L:A.IsList M VP.toArray:=⟨_,V8 _ _ f,rfl,w,rfl⟩;refine ax (wpAny_pyIter_list (s:={h with heap:=A,toks:=Wq}) L ?_);have g:h.heap.objs.size<A.objs.size:=cg (V8 _ _<|dr _ rfl);have cL:∀d m,h.heap.get? d=Z m->(A.push {cls:=.type "list_iterator",data:=.fields #[.ref M,.int 0 0]}).get? d=Z m:=λd m n=>b4 _ (V8 d m<|b4 _ n);refine ba ⟨lF PySem.F.uo _,?_⟩;have am:(A.push {cls:=.type "list_iterator",data:=.fields #[.ref M,.int 0 0]}).DictOfH (hX a.prog a.w) h.heap.objs.size []:=zL l (VS:=[]) al .nil cL λm an=>b4 _ (V8 _ _ an);have ap:M≠A.objs.size:=ef (BO B g);refine NF l (P:=a.A.in1) (by show a.A.units+1+20<b9;lia) (k:=h.heap.objs.size) (fq:=A.objs.size) (M:=M) (a8:=λb e=>e.IsListIter A.objs.size M b/\e.IsList M VP.toArray) T Q R ?_ (xh<|bT _) (xh<|tE g) (ef g) (jR B)
  (λVE z VS as a1 a2 bd cl o q t=>?_) VP.length 0 0 _ [] [] rfl (kZ _) ?_ cL am .nil .nil (bT _) rfl rfl rfl
 ·have W:=lj.list (prog:=a.prog) (w:=a.w) (A:=a.A.in1.in1) (l.ok.hd v) A.objs.size M ap VP.toArray;have be:(λ(b:Nat) (u:af)=>VP.toArray[b]?=Z u)=λb u=>VP[b]?=Z u:=by
   funext b u;rw[List.getElem?_toArray]
  rw[be,cX]at W;exact W
 ·let⟨VB,bi,bm,We,bn⟩:=VE;have o:bi=h.gens:=o;have q:bm=h.drawn:=q;have t:bn=h.os:=t;subst o q t;have Aj:j h.heap.objs.size=Y:=l.aX.fresh (bT _);let⟨m,U,@WB,bs,bv,ca,cd,O,ce⟩:=a1;refine⟨rfl,.ref h.heap.objs.size,_,l.laid (m:=.aR VS) (VB:=VB) (We:=We) as (bT _) ⟨fv (show VS.length<=1000 by lia) ∅,Ap.mpr<|fI<|ef l.big,z,a2.keeps λd VR n=>Fq n Aj,m,U,WB,bs,bv,ca,cd,ce⟩,rfl,p _ VS Aj bd⟩
 ·exact⟨⟨_,dr _ rfl,rfl,rfl⟩,L.push _⟩
@[simp] def oW:hE:=λB=>match B with
 |[.lst f]=>(qR f).bind λVQ=>if (VQ.all λo=>ab.keys 7 o.1)=V/\VQ.length<=1000 then Z (.aR<|m8 VQ) else Y
 |_=>Y
def HS(e:a.calm=V)(i:a.A.units+30<b9):g5 a (.type "dict") oW:=by
 refine (Nv e i).imp λz j D k=>?_;let⟨B,@s,l,c,p⟩:=k;unfold oW at c;split at c
 ·rename_i f;let⟨@VQ,m,b⟩:=bM.mp c;split at b
  ·rename_i d;cases b;let⟨@u,rfl,⟨W,o,@VR,rfl,A,C,W⟩⟩:=gv l;rw[M1 m]at C;refine⟨o,VR,VQ,rfl,A,H7 (λp n=>jm.mp d.1 p n) C,d.2,λs VS hd q=>?_⟩;have h:c8 j (upd j s<|.aR VS):=(c8.refl j).upd hd;exact p _ _ [s] h ⟨s,VS,rfl,eW,q.mono h.tupS.tup,rfl⟩ (fN _ _) λg r=>by rw[cH.mp r];exact hd
  ·cases b
 ·cases c
end
section
variable{a:aK}
def S5(Wq k:cf):cf:=(λx j D=>∀o,j o=Y->Wq x (upd j o<|.aR []) λf VL=>k x VL λt V0=>∃d q,f=.ref d/\h2 V0 q d/\V0 o=Z (.aR [])/\D (.ref o) (upd V0 o<|.aR [(q,t)]))
variable{u:bt}
def JF{Wq k:cf}(ap:a.A.units+20<b9)(v:bW a q Wq)(B:bW a u k):bW a (.Dict [Z q] [u] VT) (S5 Wq k):=by
 intro G h x j D l p;have E:=l.aX.fresh (bT h.heap.objs.size);have F:=l.laid (g:=h.heap.objs.size) (m:=.aR []) (VB:=h.heap.push {cls:=.type "dict",data:=.dict #[]}) (We:=h.toks) (λ_ W p=>b4 _ p) (bT _) (Bt h.heap l.big);refine wpAny_Dict_any rfl rfl ↥0 ↥0 ?_;refine pairTrees_cons_walk (b0 (v G _ x _ _ F<|p _ E) λJ H ⟨f,VL,I,L,M⟩=>b0 (B G H x VL _ I M) λdu N ⟨t,V0,b,O,d,n,Ws,e,c,Q⟩=>pairTrees_nil_walk ?_);subst Ws;cases L;let@⟨i,R,⟨@z,Wy,S⟩⟩:=xv b.aX c;cases Wy;unfold storeAll;rw[pH];refine ax (ax (I6 (k:=n) (knd:=hX a.prog a.w) (show a.A.units+10<b9 by lia) (mE b.aX e) S (λVB T cm=>ba ?_)<|kZ _));refine ba ⟨.ref h.heap.objs.size,_,?_,rfl,Q⟩;let⟨o,U,@WB,r,C,al,am,W,an⟩:=T;refine zk (h:=N) b (by rw[c];exact True.intro) cm ⟨o,r⟩ ⟨(show 1<=sizeLine by decide),R,_,de.keeps (de.put (VS:=[]) (z:=[]) .nil n (d:=d) e O) λa1 VR s=>?_,o,U,WB,r,C,al,am,an⟩;rw[cZ (BQ s c<|λi=>nomatch i)];exact s
@[simp] def Gk(a b:aC ak):aC ak:=λk=>(a k).bind λo=>(b o.2).bind λp=>match o.1,p.1 with
 |.im (.tup q),.im s=>if ab.keys 7 q=V then Z (.aR [(q,s)],p.2) else Y
 |_,_=>Y
def Ou{B E:aC ak}(L:a.A.units+20<b9)(M:cw a q B)(N:cw a u E):cw a (.Dict [Z q] [u] VT) (Gk B E):=by
 refine eC (JF L M N) λx j D ⟨k,O,r,VW,X,ah,Q,p⟩ o s=>?_;let⟨@⟨Wb,VK⟩,A,C⟩:=bM.mp Q;let⟨@⟨Wl,Wf⟩,R,l⟩:=bM.mp C;have h:c8 j (L2.upd j o<|.aR []):=(c8.refl j).upd s;have F:o∉O:=λi=>by let⟨@m,c,W⟩:=X.chg o i;rw[s]at c;cases c
 refine⟨k,O,Wb,VK,X.mono h.tupS λg W m c=>h g m c,ah,A,λf VL VY as S V5 v=>?_⟩;have T:=dt.mp v.ah;refine⟨VK,VY,Wl,Wf,S,T.1,R,λt V0 V_ b3 U al n=>?_⟩;dsimp only at l;split at l
 ·rename_i fz a1;split at l
  ·rename_i am;cases l;let@⟨dD,rfl⟩:=V5;let@⟨du,rfl⟩:=al;rw[cj]at v n;have w:=v.seq n;have G:VL o=Z (.aR []):=v.keep o _ eW F;have H:o∉VY:=λi=>by
    rcases v.sub o i with e|e
    ·exact F e
    ·rw[eW]at e;cases e
   have y:V0 o=Z (.aR []):=n.keep o _ G H;have I:o∉V_:=λi=>by
    rcases n.sub o i with e|e
    ·exact H e
    ·rw[G]at e;cases e
   let⟨d,@z,rfl,V8,Wd⟩:=(show cM V0 (.tup fz) f from dD.mono n.tup.tup);refine⟨d,fz,rfl,⟨am,d,z,rfl,V8,Wd⟩,y,?_⟩;have fF:eU V0 (L2.upd V0 o<|.aR [(fz,t)]):=eU.of (λg z c=>by
    have:g≠o:=λi=>by subst i;rw[y]at c;cases c
    rw[cZ this];exact c) λg m J c=>by
    have:g≠o:=λi=>by subst i;rw[y]at c;cases c
    rw[cZ this];exact c
   refine p _ _ V_ [o] (U.mono fF λg b m c=>by
    have ne:g≠o:=λi=>by subst i;exact I b
    rw[cZ ne];exact c) ⟨o,[(fz,t)],rfl,eW,.cons ⟨rfl,du.mono fF.tup⟩ .nil,rfl⟩ ?_
   refine⟨λg m c b=>?_,λg b=>?_,?_,?_,λg m c=>?_⟩
   ·have:g≠o:=λi=>by subst i;rw[s]at c;cases c
    rw[cZ this];exact w.keep g m (by rw[cZ this];exact c) b
   ·rcases dy.mp b with e|e
    ·rcases w.sub g e with VB|VB
     ·exact .inl VB
     ·by_cases c:g=o
      ·exact .inr (c ▸ s)
      ·rw[cZ c]at VB;exact .inr VB
    ·exact .inr (by rw[cH.mp e];exact s)
   ·exact dt.mpr ⟨n.ah,fN _ _,λg b d an c=>I (by rw[cH.mp an]at c;rw[<-c];exact b)⟩
   ·exact (h.tupS.trans w.tup).trans fF
   ·by_cases i:g=o
    ·exact⟨_,by rw[i];exact eW⟩
    ·let⟨@Wj,ap⟩:=w.grow g m (by rw[cZ i];exact c);exact⟨Wj,by rw[cZ i];exact ap⟩
  ·cases l
 ·cases l
end
def U5:String->bx:=((⟨_,rfl⟩:{N:String->bx // N "max" = bx.«max» }).1)
def Oq:String->l9->bx:=((⟨_,rfl⟩:{N:String->l9->bx // N "max" .Gt=bx.«max.loop» }).1)
section
variable{VO:bF}{y:bj}{P:bE}{VD:af->ao->Prop}{h:ao}
def Fp{B k:String}{Wr:l9}(l:(toString B++toString ".loop" : String)=k)(R:builtinKind B=Y)(S:plainId B=V)(T:x4 table B=Z (U5 B))(U:∀g d:af,argsOk B ⟨[g,d],[]⟩)(a:plainId k=V)(p:x4 table k=Z (Oq B Wr)){g d:af}{q:Bool}{D:af->ao->Prop}(al:P.handled=Y)(am:∀VE:ao,(∀n m,h.heap.get? n=Z m->VE.heap.get? n=Z m)->∀(D:af->ao->Prop) (VD:af->ao->Prop),D (.bool q) VE->wpAny (aW VO y) P.in1 (kT Wr d g) D VD VE)(e:∀VB Wq,(∀n m,h.heap.get? n=Z m->VB.get? n=Z m)->D (if q=V then d else g) {h with heap:=VB,toks:=Wq}):wpAny (aW VO y) P (call (.builtin B) [g,d]) D VD h:=by
 refine DL R S T (U _ _) ?_;show wpAny _ P.in1 (bx.Builtins.bindParams B ["key","default"] 0 ⟨[],[]⟩ >>= _) _ _ h;refine ax (vZ (show bx.Builtins.bindParams B ["key","default"] 0 ⟨[],[]⟩=pure [Y,Y] from rfl) ?_);show wpAny _ P.in1 (xa [g,d] >>= _) _ _ h;refine ax (i0 ?_);have z:(h.heap.push {cls:=.type "tuple",data:=.seq #[g,d]}).IsTuple h.heap.objs.size #[g,d]:=⟨_,dr _ rfl,rfl,0,rfl⟩;refine ax (wpAny_pyIter_tuple z<|ax<|i0 ?_);have o:(h.heap.push {cls:=.type "tuple",data:=.seq #[g,d]}).objs.size=h.heap.objs.size+1:=h3 ..;have W:=lj.tuple (prog:=VO) (w:=y) (A:=P.in1) al (h.heap.push {cls:=.type "tuple",data:=.seq #[g,d]}).objs.size h.heap.objs.size (by rw[o];exact ef (sO _)) #[g,d];rw[l];refine ba ⟨lF a _,?_⟩;have r:((h.heap.push {cls:=.type "tuple",data:=.seq #[g,d]}).push {cls:=.type "tuple_iterator",data:=.fields #[.ref h.heap.objs.size,.int 0 0]}).IsTupleIter (h.heap.push {cls:=.type "tuple",data:=.seq #[g,d]}).objs.size h.heap.objs.size 0:=⟨_,dr _ rfl,rfl,rfl⟩;have E:=z.push {cls:=.type "tuple_iterator",data:=.fields #[.ref h.heap.objs.size,.int 0 0]};have s:((h.heap.push {cls:=.type "tuple",data:=.seq #[g,d]}).push {cls:=.type "tuple_iterator",data:=.fields #[.ref h.heap.objs.size,.int 0 0]}).objs.size=h.heap.objs.size+2:=by rw[h3,o]
 have cL:∀n m,h.heap.get? n=Z m->((h.heap.push {cls:=.type "tuple",data:=.seq #[g,d]}).push {cls:=.type "tuple_iterator",data:=.fields #[.ref h.heap.objs.size,.int 0 0]}).get? n=Z m:=λn m c=>b4 _ (b4 _ c);rw[o]at W r;rw[o,s];generalize bn:((h.heap.push {cls:=.type "tuple",data:=.seq #[g,d]}).push {cls:=.type "tuple_iterator",data:=.fields #[.ref h.heap.objs.size,.int 0 0]})=g2 at r E s cL ⊢;have F:(g2.push {cls:=.type "list",data:=.seq ([]:List af).toArray}).get? (h.heap.objs.size+2)=Z {cls:=.type "list",data:=.seq ([]:List af).toArray}:=by rw[<-s];exact dr _ rfl
 have t:h.heap.objs.size+2∉[h.heap.objs.size+1]:=by simp
 have G:∀n∈[h.heap.objs.size+1,h.heap.objs.size],h.heap.objs.size+2≠n:=λn b i=>by
  simp only[bO,kr,eT]at b;rcases b with c|c
  ·rw[c]at i;exact absurd i (jR<|sO _)
  ·rw[c]at i;exact absurd i (jR (Nat.lt_add_of_pos_right ∅))
 have f:∀n m,h.heap.get? n=Z m->n∉[h.heap.objs.size+1]/\n≠h.heap.objs.size+2:=λn m c=>by
  have lt:=cg c;refine⟨λi=>?_,ef<|fk lt<|md _ _⟩;rw[cH.mp i]at lt;exact iU _ (Nat.lt_of_succ_lt lt)
 have fin:∀(VB:aY) (Wq:Nat) (j:af) (H:Nat),(∀n m,h.heap.get? n=Z m->VB.get? n=Z m)->VB.get? (h.heap.objs.size+2)=Z {cls:=.type "list",dict:=Y,data:=.seq #[j,j] H,slots:=#[]}->
   VB.IsTupleIter (h.heap.objs.size+1) h.heap.objs.size 2/\VB.IsTuple h.heap.objs.size #[g,d]->j=(if q=V then d else g)->
   codeAny (aW VO y) P (.builtin k ⟨[.ref (h.heap.objs.size+1),.none,.ref<|h.heap.objs.size+2],[]⟩) (wants D VD) {h with heap:=VB,toks:=Wq}:=by
  intro VB Wq j H V8 I X jg;refine nW p ?_;rw[nd a _];show wpAny _ P.in1 (nI (.ref<|h.heap.objs.size+2) >>= _) _ _ _;refine ax (fX (s:={h with heap:=VB,toks:=Wq}) I rfl ?_);show wpAny _ P.in1 (tryCatch (gF<|.ref<|h.heap.objs.size+1) _ >>= _) _ _ _;refine ax (mW<|W.done {h with heap:=VB,toks:=Wq} _ _ X λC an fz=>?_);have ap:=fz _ _ t I;show wpAny _ P.in1 (uA (h.heap.objs.size+2) (λ_=>#[]) >>= _) _ _ _;refine ax (pv ap rfl<|ax<|iF<|ba ?_);show D j _;rw[jg];exact e _ an λn m c=>(iZ _ _<|fI (f n m c).2).trans (fz n m (f n m c).1 (V8 n m c))
 refine nW p ?_;rw[nd a _];show wpAny _ P.in1 (nI (.ref<|h.heap.objs.size+2) >>= _) _ _ _;refine ax (fX (s:={h with heap:=g2.push {cls:=.type "list",data:=.seq ([]:List af).toArray} }) F rfl ?_);show wpAny _ P.in1 (tryCatch (gF<|.ref<|h.heap.objs.size+1) _ >>= _) _ _ _;refine ax (mW (W.item 0 {h with heap:=g2.push {cls:=.type "list",data:=.seq ([]:List af).toArray} } _ _ ↥0 ⟨let ⟨m,as,a1⟩:=r;⟨m,b4 _ as,a1⟩,E.push _⟩ λu A bs v a2 V8=>?_));cases v;have J:=V8 _ _ t F;show wpAny _ P.in1 (uA (h.heap.objs.size+2) (λ_=>#[g,g]) >>= _) _ _ _;refine ax (pv J rfl ?_);rw[l];refine ba ⟨lF a _,nW p ?_⟩;have L:=oI (bc.mapSeq<|λ_=>(#[g,g]:Array af)) J rfl;have bd:=W.frame _ _ (A.update (h.heap.objs.size+2)<|bc.mapSeq<|λ_=>(#[g,g]:Array af)) a2 λn b m c=>(iZ _ _<|G n b).trans c;have be:∀n m,h.heap.get? n=Z m->(A.update (h.heap.objs.size+2)<|bc.mapSeq<|λ_=>(#[g,g]:Array af)).get? n=Z m:=λn m c=>(iZ _ _<|fI (f n m c).2).trans (V8 n m (f n m c).1 (b4 _<|cL n m c));rw[nd a _];show wpAny _ P.in1 (nI (.ref<|h.heap.objs.size+2) >>= _) _ _ _;refine ax (fX L rfl ?_);show wpAny _ P.in1 (tryCatch (gF<|.ref<|h.heap.objs.size+1) _ >>= _) _ _ _;refine ax (mW (W.item 1 _ _ _ ↥0 bd λu bi M v N O=>?_));cases v;have w:=O _ _ t L;have x:∀n m,h.heap.get? n=Z m->bi.get? n=Z m:=λn m c=>O n m (f n m c).1 (be n m c);show wpAny _ P.in1 (tryCatch (holding [d,d]<|kT Wr d g >>= _) _ >>= _) _ _ _;refine ax (mW<|h1<|ax<|am _ x _ _ ?_);refine ax (h1<|kP ?_);refine ax (iF<|ba ?_);cases Q:q with
 |true=>
  simp only[fl];refine ax (pv w rfl<|ax<|iF ?_);rw[l];have bm:=oI (bc.mapSeq<|λ_=>(#[d,d]:Array af)) w rfl;refine ba ⟨lF a _,fin _ M d _ (λn m c=>(iZ _ _<|fI (f n m c).2).trans<|x n m c) bm (W.frame _ _ _ N λn b m c=>(iZ _ _<|G n b).trans c) (by rw[Q];rfl)⟩
 |false=>
  simp only[gk,fy];refine ax (iF ?_);rw[l];exact ba ⟨lF a _,fin _ M g _ x w N (by rw[Q];rfl)⟩
end
section
variable{VO:bF}{y:bj}{P:bE}{VD:af->ao->Prop}{h:ao}{g d:af}{q:Bool}{D:af->ao->Prop}
def Tw(a:P.handled=Y)(b:∀VE:ao,(∀n m,h.heap.get? n=Z m->VE.heap.get? n=Z m)->∀(D:af->ao->Prop) (VD:af->ao->Prop),D (.bool q) VE->wpAny (aW VO y) P.in1 (kT .Gt d g) D VD VE)(e:∀VB Wq,(∀n m,h.heap.get? n=Z m->VB.get? n=Z m)->D (if q=V then d else g) {h with heap:=VB,toks:=Wq}):wpAny (aW VO y) P (call (.builtin "max") [g,d]) D VD h:=
 Fp ∅ F.kind_max F.plain_max F.entry_max F.args_max2 F.plain_max_loop F.entry_max_loop a b e
def Nk(a:P.handled=Y)(b:∀VE:ao,(∀n m,h.heap.get? n=Z m->VE.heap.get? n=Z m)->∀(D:af->ao->Prop) (VD:af->ao->Prop),D (.bool q) VE->wpAny (aW VO y) P.in1 (kT .Lt d g) D VD VE)(e:∀VB Wq,(∀n m,h.heap.get? n=Z m->VB.get? n=Z m)->D (if q=V then d else g) {h with heap:=VB,toks:=Wq}):wpAny (aW VO y) P (call (.builtin "min") [g,d]) D VD h:=
 Fp ∅ Hj IS HO F.args_min2 nz wX a b e
end
def vw(P:bE)(h:ao)(t f:af)(q:Bool):Prop:=(∀(VO:bF) (y:bj) (VD:af->ao->Prop) (D:af->ao->Prop),D (.bool q) h->wpAny (aW VO y) P (kT .Gt t f) D VD h)
section
open PySem.SeqAt
open PySem.AutoSeq1 (wpAny_loadPart')
open PySem.MeetsSeq PySem.MeetsSeq2 PySem.MeetsSeq3
def PV(M d:ae)(V9 a:Array af)(w x:Nat)(z B:Option ae)(a6 D:Array (Option af))(VQ:List (Bool×Bool))(Q:VQ.length=min V9.size a.size):
  Meets (bx.«tuple.__gt__» ⟨[.ref M,.ref d],[]⟩)
   (λP VI h=>h.heap.get? M=Z {cls:=.type "tuple",dict:=z,data:=.seq V9 w,slots:=a6}/\h.heap.get? d=Z {cls:=.type "tuple",dict:=B,data:=.seq a x,slots:=D}/\
    (∀v (A:v<V9.size) (C:v<a.size) (l:v<VQ.length),EqAt P.in1 h V9[v] a[v] (VQ[v]).1/\((VQ[v]).1=aq->vw P.in1 h V9[v] a[v] (VQ[v]).2))/\
    VI (.ok<|.ret<|.bool<|iy (decide (a.size<V9.size)) VQ) h):=
 .of_wp λVO y P VI h e=>by
  let⟨j,L,s,Wq,VV⟩:=h;let@⟨E,F,G,e⟩:=e;have R:=Gw;have n:(V9.toList.zip a.toList).length=min V9.size a.size:=by simp
  wp_walk using wpAny_loadPart' E,wpAny_loadPart' F,te _ (λdq d VE=>d.1=Y/\VE=⟨j,L,s,Wq,VV⟩/\∃b,dq=(V9.toList.zip a.toList).drop b/\
   VI (.ok<|.ret<|.bool<|iy (decide (a.size<V9.size))<|VQ.drop b) ⟨j,L,s,Wq,VV⟩) _
  case turn=>
   rintro⟨t,f⟩ dq d VE ⟨m,rfl,b,g,i⟩;have o:b<(V9.toList.zip a.toList).length:=by
    rcases pS b (V9.toList.zip a.toList).length with VB|VB
    ·exact VB
    ·rw[m3 VB]at g;cases g
   have S:b<min V9.size a.size:=n ▸ o;have A:b<V9.size:=⋯
   have C:b<a.size:=⋯
   have l:b<VQ.length:=⋯
   rw[jZ o]at g;injection g with p H;have I:t=V9[b]:=by have:=congrArg Prod.fst p;simpa using this
   have J:f=a[b]:=by have:=congrArg Prod.snd p;simpa using this
   subst I J;rw[jZ l]at i;let@⟨r,u⟩:=G b A C l;generalize VQ[b]=N at i r u;let⟨c,q⟩:=N;refine ax (r VO y _ _ ?_);cases c with
   |true=>
    have k:VI (.ok<|.ret<|.bool<|iy (decide (a.size<V9.size))<|VQ.drop<|b+1) ⟨j,L,s,Wq,VV⟩:=i
    wp_walk
    exact⟨rfl,rfl,b+1,H,k⟩
   |false=>
    have k:VI (.ok<|.ret<|.bool q) ⟨j,L,s,Wq,VV⟩:=i;have O:=u rfl VO y
    wp_walk using O
    exact⟨_,rfl,by simpa using k⟩
  case fin=>
   rintro⟨aU,aV⟩ VE ⟨m,rfl,b,g,i⟩;simp only at m;subst m;have T:min V9.size a.size<=b:=by
    rcases pS b (V9.toList.zip a.toList).length with VB|VB
    ·rw[jZ VB]at g;cases g
    ·exact n ▸ VB
   rw[m3 ⋯]at i;have k:VI (.ok<|.ret<|.bool<|decide (a.size<V9.size)) ⟨j,L,s,Wq,VV⟩:=i
   wp_walk
   exact⟨_,rfl,by simpa [bx.Tuple.tupleCompareSizes] using k⟩
  case h=>
   exact⟨rfl,rfl,0,rfl,by simpa using e⟩
end
def k3(B U:List ab):List (Bool×Bool):=((B.zip U).map λo=>(cz o.1 o.2,a7 o.2 o.1))
def Ow(g d:ab):ab.beq g d=ab.beq d g:=by
 rw[k8,ab.beq_iff,ab.beq_iff];exact⟨λe=>e.symm,λe=>e.symm⟩
theorem Hw:∀{w:Nat}{B U:List ab},f_ w B U=V->iy (decide (U.length<B.length)) (k3 B U)=gu U B
 |_,[],[],_=>rfl
 |w,g::r,d::I,e=>by
  rw[f_,cV]at e;show (if cz g d=V then iy (decide (I.length+1<r.length+1)) (k3 r I) else a7 d g)=gu (d::I) (g::r);rw[gu,(qB e.1).2.2,<-Hw e.2,Ow,kd.mpr Ad]
 |_,[],_::_,_=>rfl
 |_,_::_,[],_=>rfl
def O2{b v:Int}(a:dB h.heap (.int b) J)(c:dB h.heap (.int v) u):vw P h J u (a7 (.int v)<|.int b):=by
 let⟨@I,rfl⟩:=a;let⟨@We,rfl⟩:=c;intro VO y VD D p;rw[a7]at p;exact (Q2 p:wpAny (aW VO y) P (ea .Gt (.int b I)<|.int v We) D VD h)
def Iq{f t:ab}(M:Ab f t)(a:dB h.heap f J)(e:dB h.heap t u):vw P h J u (a7 t f):=by
 rcases M with ⟨b,v,rfl,rfl⟩|⟨g,d,rfl,rfl⟩
 ·exact O2 a e
 ·let⟨I,rfl⟩:=a;let⟨We,rfl⟩:=e;intro VO y VD D p;rw[a7]at p;exact richCompare_gives (op:=.Gt) (zO h g I) (zO h d We) PySem.F.slot_str_gt PySem.F.entry_str_gt (PySem.F.args_str_gt_2 _ _) (PySem.gives_str_gt g d I We) (λc=>nomatch c) p
def PW(w:Nat):∀{P:bE}{f t:ab}{J u:af},eF w f t=V->P.units+w+2<b9->dB h.heap f J->dB h.heap t u->vw P h J u (a7 t f):=by
 induction w with
 |zero=>
  intro P f t J u e L a b;rcases oC e with M|⟨H,_,_,c,_⟩
  ·exact Iq M a b
  ·cases c
 |succ w N=>
  intro P f t J u e L a b;rcases oC e with M|⟨H,B,U,c,rfl,rfl,e⟩
  ·exact Iq M a b
  cases c;let⟨g,m,VP,@H,rfl,A,C,j,k⟩:=a;let⟨d,Wj,S,@Q,rfl,l,n,o,q⟩:=b;let⟨cls,R,data,a6⟩:=m;let⟨a1,T,a2,al⟩:=Wj;simp only at C j n o;subst C j n o;have r:B.length=VP.size:=by rw[k.length,f6]
  have s:U.length=S.size:=by rw[q.length,f6]
  intro VO y VD D p;rw[a7,<-Hw e,r,s]at p;have am:(k3 B U).length=min VP.size S.size:=by rw[k3,bB,wL,r,s]
  refine DF (op:=.Gt) ⟨_,A,rfl⟩ ⟨_,l,rfl⟩ PySem.F.slot_tuple_gt PySem.F.entry_tuple_gt (PySem.F.args_tuple_gt_2 _ _) (PV g d VP S H Q R T a6 al (k3 B U) am)
   ⟨A,l,λv bK an ap=>?_,show af.bool (iy (decide (S.size<VP.size))<|k3 B U)≠af.notImplemented/\D (.bool<|iy (decide (S.size<VP.size))<|k3 B U) h from ⟨(λf=>nomatch f),p⟩⟩ ⋯;let⟨@Wb,x,z⟩:=k.get (v:=v) (u:=VP[v]) (by rw[hq];simp[bK]);let⟨@Wl,E,G⟩:=q.get (v:=v) (u:=S[v]) (by rw[hq];simp[an]);have lk:=zK e x E;have I:=qB lk;have as:(k3 B U)[v]=(cz Wb Wl,a7 Wl Wb):=by
   have:(k3 B U)[v]?=Z (cz Wb Wl,a7 Wl Wb):=by
    rw[k3,hb,(B_ (z:=(Wb,Wl))).mpr ⟨x,E⟩];rfl
   rw[fL ap]at this;exact Option.some.inj this
  rw[as];exact⟨iP w I.1 I.2.1 (by show P.units+1+w+1<b9;lia) z G,λ_=>N lk (by show P.units+1+w+2<b9;lia) z G⟩
section
variable{a:aK}
def Oh(f:a.calm=V)(k:a.A.units+20<b9):eY a (.builtin "max") (λz j D=>∃(s c:ab) (u J:ar),z=[u,J]/\eF 6 c s=V/\cM j s u/\cM j c J/\D (if a7 s c=V then J else u) j):=by
 intro G h x j z VZ D l r e;let⟨s,c,u,@J,rfl,lk,A,C,p⟩:=e;let⟨n,@o,rfl,b,d⟩:=tl r;refine Tw (q:=a7 s c) (l.ok.hd f) (λVE q D VD i=>?_) λVB Wq q=>⟨if a7 s c=V then J else u,j,l.kept q,?_,p⟩
 ·exact PW 6 lk (by show a.A.units+1+6+2<b9;lia) ((C.e8 l.aX d).keep λg m W W c W W=>q g m c) ((A.e8 l.aX b).keep λg m W W c W W=>q g m c) a.prog a.w VD D i
 ·split
  ·exact d
  ·exact b
def MX(f:a.calm=V)(k:a.A.units+20<b9):eY a (.builtin "min") (λz j D=>∃(s c:ab) (u J:ar),z=[u,J]/\eF 6 c s=V/\cM j s u/\cM j c J/\D (if a7 c s=V then J else u) j):=by
 intro G h x j z VZ D l r e;let⟨s,c,u,@J,rfl,lk,A,C,p⟩:=e;let⟨n,@o,rfl,b,d⟩:=tl r;refine Nk (q:=a7 c s) (l.ok.hd f) (λVE q D VD i=>?_) λVB Wq q=>⟨if a7 c s=V then J else u,j,l.kept q,?_,p⟩
 ·exact tJ 6 lk (by show a.A.units+1+6+2<b9;lia) ((C.e8 l.aX d).keep λg m W W c W W=>q g m c) ((A.e8 l.aX b).keep λg m W W c W W=>q g m c) a.prog a.w VD D i
 ·split
  ·exact d
  ·exact b
def vt:hE:=(λB=>match B with
 |[.im (.int b),.im<|.int v]=>rf [.im (.int b),.im<|.int v]
 |[.im (.tup g),.im<|.tup d]=>if eF 6 (.tup d) (.tup g)=V then Z (.im<|if a7 (.tup g) (.tup d)=V then .tup d else .tup g) else Y
 |_=>Y)
def v9:hE:=(λB=>match B with
 |[.im (.int b),.im<|.int v]=>sA [.im (.int b),.im<|.int v]
 |[.im (.tup g),.im<|.tup d]=>if eF 6 (.tup d) (.tup g)=V then Z (.im<|if a7 (.tup d) (.tup g)=V then .tup d else .tup g) else Y
 |_=>Y)
def Lf(e:a.calm=V)(k:a.A.units+20<b9):g5 a (.builtin "max") vt:=by
 intro G h x j z VZ D l r m;let⟨B,@s,f,c,p⟩:=m;unfold vt at c;split at c
 ·exact BL e G h x j z VZ D l r ⟨_,s,f,c,p⟩
 ·split at c
  ·rename_i g d lk;cases c;let⟨u,@J,rfl,A,C⟩:=zJ f;refine Oh e k G h x j _ VZ D l r ⟨_,_,u,J,rfl,lk,A,C,cb.i p ?_⟩;split
   ·exact C
   ·exact A
  ·cases c
 ·cases c
def MG(e:a.calm=V)(k:a.A.units+20<b9):g5 a (.builtin "min") v9:=by
 intro G h x j z VZ D l r m;let⟨B,@s,f,c,p⟩:=m;unfold v9 at c;split at c
 ·exact Bh e G h x j z VZ D l r ⟨_,s,f,c,p⟩
 ·split at c
  ·rename_i g d lk;cases c;let⟨u,@J,rfl,A,C⟩:=zJ f;refine MX e k G h x j _ VZ D l r ⟨_,_,u,J,rfl,lk,A,C,cb.i p ?_⟩;split
   ·exact C
   ·exact A
  ·cases c
 ·cases c
end
mutual
def sG:ab->nG
 |.int b=>.int b
 |.aF d=>.bool d
 |.str f=>.str f
 |.tup B=>.tuple (nL B)
 |_=>.none
def nL:List ab->List nG
 |[]=>[]
 |s::r=>sG s::nL r
end
mutual
theorem TU{e:aY}:∀{w:Nat}{s:ab}{J:af},ab.bA w s=V->dB e s J->Reads e J (sG s) []
 |_,.aS,J,_,c=>by cases (show J=.none from c);exact .none
 |_,.aF d,J,_,c=>by cases (show J=.bool d from c);exact .bool d
 |_,.int b,J,_,c=>by let⟨@I,rfl⟩:=c;exact .int b I
 |_,.str f,J,_,c=>by let⟨@I,rfl⟩:=c;exact .str f I
 |w+1,.tup B,J,q,c=>by
  let⟨g,m,V9,@H,rfl,A,C,a,h⟩:=c;exact .tuple A C a (DZ (w:=w) q h)
 |0,.tup B,J,q,c=>by cases q
 |w,.fn g,J,q,c=>by cases w<;>cases q
 |w,.a3 g,J,q,c=>by cases w<;>cases q
 |w,.fd,J,q,c=>by cases w<;>cases q
theorem DZ{e:aY}:∀{w:Nat}{B:List ab}{VZ:List af},ab.cO w B=V->eb e B VZ->ReadsAll e VZ (nL B) []
 |_,[],VZ,_,c=>by rw[show VZ=[] from c];exact .nil
 |w,s::B,VZ,q,c=>by
  let⟨u,@r,rfl,A,C⟩:=c;rw[ab.cO,cV]at q;exact .cons (TU q.1 A) (DZ q.2 C)
end
mutual
theorem Q5:∀s:ab,nG.hasDict (sG s)=aq
 |.aS=>rfl
 |.aF _=>rfl
 |.int _=>rfl
 |.str _=>rfl
 |.fn _=>rfl
 |.a3 _=>rfl
 |.fd=>rfl
 |.tup B=>GS B
theorem GS:∀B:List ab,nG.hasDictAll (nL B)=aq
 |[]=>rfl
 |s::r=>by
  show (nG.hasDict (sG s) || PyData.hasDictAll (nL r))=aq;rw[Q5 s,GS r];rfl
end
def Ts(B:List ab):Bool:=(ab.cO 7 B&&nG.showableAll (nL B)&&decide (nG.depthAll (nL B)<=8)&&decide ((tupleText<|nG.shownAll<|nL B).length<=100000))
@[simp] def Vf:hE:=λB=>match B with
 |[.im (.tup f)]=>if Ts f=V then Z (.im<|.str (sG<|.tup f).shown) else Y
 |_=>Y
section
variable{a:aK}
def wZ(V2:List Int):Int:=(preSum (λb=>(V2[b]?).getD 0) V2.length)
@[simp] def vG:hE:=λB=>match B with
 |[.lst f]=>(my f).map λV2=>.im (.int<|wZ V2)
 |_=>Y
def Uw(q:a.calm=V):g5 a (.builtin "sum") vG:=by
 intro G h x j z VZ D l r t;let⟨B,@s,v,c,p⟩:=t;unfold vG at c;split at c
 ·rename_i f;let⟨@V2,y,E⟩:=cv.mp c;cases E;let⟨@u,rfl,⟨W,M,@VR,rfl,A,C,W⟩⟩:=gv v;cases z8 y;cases AE C;let⟨@J,rfl,F⟩:=ih r;cases F;let@⟨i,⟨VP,@w,g,c⟩⟩:=l.aX M _ A;have k:h.heap.IsList M VP.toArray:=⟨_,c,rfl,w,rfl⟩;have H:VP.length=V2.length:=by rw[<-g.length,bB]
  refine call_sum_walkAnyS (wpAny_pyIter_list k ⟨h.heap.objs.size,[h.heap.objs.size,M],[h.heap.objs.size],_,VP.toArray.size,_,_,λb=>(V2[b]?).getD 0,rfl,(lj.list (A:=a.A.in1) (l.ok.hd q) _ M (ef<|cg c) VP.toArray).toS,
   ⟨⟨_,dr _ rfl,rfl,rfl⟩,k.push _⟩,λd e=>?_,λb u I=>Mb g b u ⇑I,λVE We n=>?_⟩)
  ·show d<(h.heap.push _).objs.size;rw[h3];rcases bO.mp e with rfl|e
   ·exact sO _
   ·rw[cH.mp e];exact Nat.lt_succ_of_lt (cg c)
  ·have L:∀d m,h.heap.get? d=Z m->VE.heap.get? d=Z m:=λd m o=>
    n.heap d m (λN=>absurd (cg o) (by rw[cH.mp N];exact iU _)) (b4 _ o);rw[Moved.eq_with n,cX,H];exact⟨.int _,j,l.kept L,⟨_,rfl⟩,cb.i p rfl⟩
 ·cases c
end
end L2
namespace G
open L2
variable{n d g:Int×Int}{VG:List (Int×Int)}{e:ak}{w:Nat}
def CP:bo:=((cG<|c0<|aj (aa<|bV v9<|aj (ag 0)<|aj (ag 1) ay)<|aj (aa<|bV vt<|aj (ag 0)<|aj (ag 1) ay) ay))
def r6:cU:=(c6 2 2 [0,1] CP)
def Tj:bo:=((bL (ee (bJ<|av qH (aa<|av a9 (ag 0)<|aa<|au<|.int 0)<|aa<|au<|.int 0) (bL (cn 2<|av f3 (aa<|av a9 (ag 0)<|aa<|au<|.int 0)<|ag 1)<|bL (fP (av oA (aa<|av a9 (ag 0)<|aa<|au<|.int 0)<|ag 1)<|j5 0 (au<|.int 0) mT)<|cG<|fB 2) fa)<|bL (fP (av dp (aa<|av a9 (ag 0)<|aa<|au<|.int 2)<|aa<|au<|.int 1)<|j5 0 (au<|.int 2) mT)<|bL (cn 3<|av f3 (aa<|av et (aa<|av dp (aa<|av a9 (ag 0)<|aa<|au<|.int 1)<|aa<|av et (aa<|av a9 (ag 0)<|aa<|au<|.int 2)<|aa<|au<|.int 104729)<|aa<|au<|.int 48271)<|aa<|au<|.int 2305843009213693951)<|bL (fP (av f3 (aa<|av et (ag 3)<|aa<|av dp (aa<|av f3 (ag 3)<|aa<|au<|.int 1009)<|aa<|au<|.int 69621)<|aa<|au<|.int 2305843009213693951)<|j5 0 (au<|.int 1) mT)<|cG<|av f3 (aa<|av oA (aa<|av a9 (ag 0)<|aa<|au<|.int 1)<|aa<|au<|.int 1000003)<|ag 1))
def sQ:cU:=(c6 2 4 [0,1] Tj)
def JE:bo:=((cG<|eI<|aj (aa<|c0<|aj (aa<|av hH (aa<|av a9 (ag 0)<|aa<|au<|.int 0)<|aa<|au<|.int 1)<|aj (aa<|av a9 (ag 0)<|aa<|au<|.int 1) ay)<|aj (aa<|c0<|aj (aa<|av a9 (ag 0)<|aa<|au<|.int 0)<|aj (aa<|av hH (aa<|av a9 (ag 0)<|aa<|au<|.int 1)<|aa<|au<|.int 1) ay)<|aj (aa<|c0<|aj (aa<|av a9 (ag 0)<|aa<|au<|.int 0)<|aj (aa<|av dp (aa<|av a9 (ag 0)<|aa<|au<|.int 1)<|aa<|au<|.int 1) ay)<|aj (aa<|c0<|aj (aa<|av dp (aa<|av a9 (ag 0)<|aa<|au<|.int 0)<|aa<|au<|.int 1)<|aj (aa<|av a9 (ag 0)<|aa<|au<|.int 1) ay) ay))
def LV:cU:=(c6 1 1 [0] JE)
def Ri:bo:=((bL (cn 4<|av a9 (aa<|bf 1 G.LV<|aj (aa<|av a9 (ag 2)<|aa<|bf 2 G.sQ<|aj (ag 0)<|aj (aa<|bV eO<|aj (ag 2) ay) ay) ay)<|aa<|bf 2 G.sQ<|aj (ag 0)<|aj (aa<|au<|.int 4) ay)<|ee (e1 (bJ<|av ml (ag 4)<|ag 2)<|e1 (bJ<|gP fc fc (aa<|au<|.int 0) (aa<|av a9 (ag 4)<|aa<|au<|.int 0)<|aa<|au<|.int 24)<|bJ<|gP fc fc (aa<|au<|.int 0) (aa<|av a9 (ag 4)<|aa<|au<|.int 1)<|aa<|au<|.int 24) (hn<|fH hl 2 ha<|aj (ag 4) ay) fa))
def Nu:bo:=((bL (cn 2<|eI<|aj (aa<|c0<|aj (aa<|au<|.int 12)<|aj (aa<|au<|.int 12) ay) ay)<|bL (g0 (mM<|aj (aa<|bf 2 G.sQ<|aj (ag 0)<|aj (ag 1) ay) ay) (br 3) G.Ri)<|cG<|fB 2))
def Tt:cU:=(c6 2 5 [0,1] Nu)
def TL:bo:=((hn<|fH hl 5 pT<|aj (aa<|bf 2 G.sQ<|aj (ag 0)<|aj (aa<|bV eO<|aj (ag 5) ay) ay) ay))
def LI:aC ak:=((fB 0))
def J9:aC Bool:=((bJ<|av eN (aa<|av et (aa<|av f3 (aa<|av a9 (ag 0)<|aa<|au<|.int 0)<|aa<|au<|.int 2)<|aa<|av f3 (aa<|av f3 (aa<|av a9 (ag 0)<|aa<|au<|.int 1)<|aa<|au<|.int 3)<|aa<|au<|.int 2)<|aa<|au<|.int 0))
def ai(o:Int×Int):ab:=(.tup [.int o.1,.int o.2])
abbrev aT(VQ:List (Int×Int)):ak:=.im (.tup<|VQ.map ai)
abbrev aN(VQ:List (Int×Int)):ak:=.lst (VQ.map ai)
abbrev hu(s h I:Int):ak:=.lst [.int s,.int h,.int I]
def gx(w:Nat)(e:ak):Prop:=(∃s h I,e=hu s h I/\0<=s/\0<=h/\h<2^62/\0<=I/\I+w<2^40)
def gx.mono{H:Nat}(f:gx w e)(c:H<=w):gx H e:=by
 let⟨s,h,@I,rfl,A,C,a,b,d⟩:=f;exact⟨s,h,I,rfl,A,C,a,b,⋯⟩
def gx.lst(f:gx w e):∃p,e=.lst p:=by
 let⟨s,h,@I,rfl,W⟩:=f;exact⟨_,rfl⟩
def d3(o:Int×Int):List ab:=([.int o.1,.int o.2])
def xi(o:Int×Int):ai o=.tup (d3 o):=rfl
def qW(e:d3 g=d3 d):g=d:=by
 unfold d3 at e;simp at e;exact el e.1 e.2
def xr(e:ai g=ai d):g=d:=by
 rw[xi,xi]at e;exact qW (by injection e)
def ML(o:Int×Int):ab.keys 7 (d3 o)=V:=rfl
def pd:ab->Int×Int
 |.tup [.int g,.int d]=>(g,d)
 |_=>(0,0)
def BG(o:Int×Int):pd (ai o)=o:=rfl
def rB(o:Int×Int):ab.bA 8 (ai o)=V:=rfl
theorem xH:∀VQ:List (Int×Int),ab.cO 8 (VQ.map ai)=V
 |[]=>rfl
 |o::r=>by rw[cS,ab.cO,rB,xH r];rfl
def mm(g d:Int×Int):cz (ai g) (ai d)=decide (g=d):=by
 show ((g.1==d.1)&&((g.2==d.2)&&V))=_;let⟨a,b⟩:=g;let⟨aU,aV⟩:=d;by_cases A:a=aU<;>by_cases C:b=aV<;>simp[A,C]
def UO(VQ:List (Int×Int))(n:Int×Int):((VQ.map ai).any λf=>cz f<|ai n)=decide (n∈VQ):=by
 rw[xp,k8,oH,hD];constructor
 ·rintro⟨f,a,c⟩;have:decide (f=n)=V:=by rw[<-mm];exact c
  rw[<-e9 this];exact a
 ·intro e;refine⟨n,e,?_⟩;show cz (ai n) (ai n)=V;rw[mm];exact dJ rfl
theorem G3:∀(M:List ab) (VG:List (Int×Int)),(∀f∈M,f∈VG.map ai)->M=(M.map pd).map ai
 |[],_,_=>rfl
 |f::M,VG,e=>by
  let⟨@o,W,c⟩:=dK.mp (e f<|.head _);rw[cS,cS,<-G3 M VG λt a=>e t<|.tail _ a,<-c,BG]
def E5{M:List ab}(e:M.Perm (VG.map ai)):∃x:List (Int×Int),x.Perm VG/\M=x.map ai:=by
 refine⟨M.map pd,?_,G3 M VG λf a=>e.mem_iff.mp a⟩;have:=yf pd e;rw[f5]at this;have c:(pd ∘ ai:Int×Int->Int×Int)=id:=funext BG;rw[c,zd]at this;exact this
def rJ(ah:VG.Nodup)(a:VG.length<=1000):o8 (VG.map ai):=by
 refine⟨⟨by rw[bB];exact a,λg b d e=>?_,?_⟩,.inl λs hd=>?_⟩
 ·let⟨@f,W,rfl⟩:=dK.mp b;let⟨@t,W,rfl⟩:=dK.mp e;rfl
 ·exact IX ai (λg d w c=>w<|xr c) ah
 ·let⟨@f,W,rfl⟩:=dK.mp hd;rfl
def Qb{VS:List (List ab×ab)}{q:List ab}:(eZ VS q).isSome=VS.any λo=>decide (o.1=q):=by
 unfold eZ;rw[vm,List.isSome_find?]
def bS(VG:List (Int×Int)):List (List ab×ab):=(VG.map λn=>(d3 n,.aF V))
def xP(VG:List (Int×Int))(n:Int×Int):((bS VG).any λo=>decide (o.1=d3 n))=decide (n∈VG):=by
 unfold bS;rw[xp,k8,oH,hD];constructor
 ·rintro⟨f,a,c⟩;have:d3 f=d3 n:=e9 c;rw[<-qW this];exact a
 ·intro e;exact⟨n,e,dJ rfl⟩
def KW(VG:List (Int×Int))(n:Int×Int):(eZ (bS VG)<|d3 n).isSome=decide (n∈VG):=by rw[Qb,xP]
def Kr(e:n∉VG):g9 (bS VG) (d3 n) (.aF V)=bS (VG++[n]):=by
 unfold g9;rw[aP (by rw[xP];simpa using e)];unfold bS;rw[fM];rfl
def Pb{V7:Type}{a:List V7}(e:a≠[]):∃b y,a=b++[y]:=⟨a.dropLast,a.getLast e,(List.dropLast_concat_getLast e).symm⟩
def RP(o:Int×Int):e5 [ab.int o.1,.int o.2] 0=Z (.int o.1):=rfl
def MT(o:Int×Int):e5 [ab.int o.1,.int o.2] 1=Z (.int o.2):=rfl
def uW{cs:List (Int×Int)}{b:Int}(WE:0<=b)(e:cs[b.toNat]?=Z n):e5 (cs.map ai) b=Z (ai n):=xU WE (by rw[hb,e];rfl)
def Jm(VQ:List (Int×Int))(n:Int×Int):hW (ai n) (aN VQ)=Z (decide (n∈VQ)):=by
 rw[OC,rB,xH,UO];rfl
theorem Bv{V7 WL:Type}(N:V7->WL):∀(M:List V7) (q:Nat),(M.map N).eraseIdx q=(M.eraseIdx q).map N
 |[],_=>rfl
 |_::_,0=>rfl
 |g::M,q+1=>by simp[Bv N M q]
def mid:bo:=((ee (jY (bJ<|av eN (ag 2)<|aa<|au<|.int 1)<|bJ<|av eN (ag 2)<|aa<|au<|.int 2) (g0 (mM<|aj (aa<|bf 2 G.sQ<|aj (ag 0)<|aj (aa<|av dp (aa<|au<|.int 1)<|aa<|av oA (aa<|bV eO<|aj (ag 5) ay)<|aa<|au<|.int 2) ay) ay) (br 6) G.TL)<|ee (bJ<|av eN (ag 2)<|aa<|au<|.int 3) (cn 5<|dg 1 [] (dn<|ag 5) (br 0) G.J9 G.LI)<|ee (bJ<|av qH (ag 2)<|aa<|au<|.int 3) (cn 5<|bf 2 G.Tt<|aj (ag 0)<|aj (ag 1) ay) fa))
abbrev a4:=(Int×Int)×(Int×Int)
def ic(c:a4):List ab:=([ai c.1,ai c.2])
def Fn{g d:a4}(e:ic g=ic d):g=d:=by
 unfold ic at e;injection e with A C;injection C with C _;exact el (xr A) (xr C)
def hQ(g d:Int×Int):a4:=((if a7 (ai d) (ai g)=V then d else g,if a7 (ai g) (ai d)=V then d else g))
def L6(g d:Int×Int):v9 [.im (ai g),.im<|ai d]=Z (.im<|ai (hQ g d).1):=by
 show (if eF 6 (ai d) (ai g)=V then Z (ak.im<|if a7 (ai d) (ai g)=V then ai d else ai g) else Y)=Z (.im<|ai<|if a7 (ai d) (ai g)=V then d else g);rw[aJ (show eF 6 (ai d) (ai g)=V from rfl)];split<;>rfl
def RN(g d:Int×Int):vt [.im (ai g),.im<|ai d]=Z (.im<|ai (hQ g d).2):=by
 show (if eF 6 (ai d) (ai g)=V then Z (ak.im<|if a7 (ai g) (ai d)=V then ai d else ai g) else Y)=Z (.im<|ai<|if a7 (ai g) (ai d)=V then d else g);rw[aJ (show eF 6 (ai d) (ai g)=V from rfl)];split<;>rfl
def HD:List (a4×Int)->a4->List (a4×Int)
 |[],c=>[(c,1)]
 | (N,w)::r,c=>if N=c then (N,w+1)::r else (N,w)::HD r c
def cnt(WI:List (a4×Int))(VQ:List a4):List (a4×Int):=(VQ.foldl (λWI o=>HD WI<|hQ o.1 o.2) WI)
def Tr(g d:Int×Int):r6 [.im (ai g),.im<|ai d]=Z (.im<|.tup<|ic<|hQ g d,[.im (ai g),.im<|ai d]):=by
 have A:=L6 g d;have C:=RN g d;simp -implicitDefEqProofs [r6,CP,A,C,ic]
end G
namespace L2
open Spec PyProof.Rows PySem.W
variable{v b:Int}{g:ae}
def jD:List ab->ab->Option Nat
 |[],_=>Y
 |f::r,s=>if cz f s=V then Z 0 else (jD r s).map (·+1)
theorem Iz{e:aY}{s:ab}:∀{B:List ab}{T:List af}{v:Nat},ab.cO 8 B=V->eb e B T->jD B s=Z v->
  ∃u,T[v]?=Z u/\lH e s u=V/\∀H J,H<v->T[H]?=Z J->lH e s J=aq
 |[],T,v,_,_,c=>by cases c
 |f::B,T,v,q,g,c=>by
  let⟨u,@r,rfl,A,C⟩:=g;rw[ab.cO,cV]at q;unfold jD at c;split at c
  ·rename_i i;cases c;exact⟨u,rfl,by rw[nO q.1 A];exact i,λH J a=>absurd a<|Nat.not_lt_zero H⟩
  ·rename_i i;let⟨@b,h,rfl⟩:=cv.mp c;let⟨@y,j,k,l⟩:=Iz q.2 C h;refine⟨y,j,k,λH J a d=>?_⟩;cases H with
   |zero=>
    cases d;rw[nO q.1 A];exact Bool.eq_false_iff.mpr i
   |succ H=>exact l H J ⋯ d
section
variable{a:aK}
def MI(am:a.A.units+20<b9):vL a "list.index" (λf T j D=>∃(s:ab) (B:List ab) (t:ar) (v:Nat),T=[t]/\cM j s t/\e6 j (.lst B) f/\ab.bA 8 s=V/\ab.cO 8 B=V/\jD B s=Z v/\v<100000/\D (.int v) j):=by
 intro G h x j f T u VZ D l r E e;let⟨s,B,t,@v,rfl,I,L,V8,Wd,c,an,p⟩:=e;let⟨@J,rfl,M⟩:=E.one;let⟨W,g,@z,rfl,A,C,W⟩:=L;cases r;let@⟨i,⟨VP,@w,N,k⟩⟩:=l.aX g _ A;have n:=C.e8 l.aX N;let⟨@y,Q,R,S⟩:=Iz Wd n c;let⟨@U,b⟩:=fY.mp Q;refine m6 IV ⟨_,k,rfl⟩ F.entry_list_index (F.args_list_index_2 _ _) (SeqAt.list_indexAt g VP.toArray w _ _ J (lH h.heap s) v ⇑U ⋯ (by simpa [b] using R) (λH ap al=>S H _ al ↥0)) ⟨k,λy b=>?_,?_⟩
 ·let⟨@i,o,q⟩:=pQ Wd n ⇑b;rw[nO o q];exact iP 8 o V8 (by show a.A.units+1+8+1<b9;lia) q (I.e8 l.aX M)
 ·exact⟨.int v,j,l.kept (We:=h.toks+1) λd m c=>c,⟨_,rfl⟩,p⟩
@[simp] def p2:fO:=λg d=>match g,d with
 |.lst B,.im s=>if (ab.bA 8 s&&ab.cO 8 B)=V/\B.length<=100000 then (jD B s).map λ(v:Nat)=>ak.im (.int (v:Int)) else Y
 |_,_=>Y
theorem Ci:∀{B:List ab}{s:ab}{v:Nat},jD B s=Z v->v<B.length
 |[],s,v,c=>by cases c
 |f::B,s,v,c=>by
  unfold jD at c;split at c
  ·cases c;exact Nat.succ_pos _
  ·let⟨@b,a,rfl⟩:=cv.mp c;exact Nat.succ_lt_succ (Ci a)
def PK{g d s:ak}(e:p2 g d=Z s):∃B a v,g=.lst B/\d=.im a/\ab.bA 8 a=V/\ab.cO 8 B=V/\jD B a=Z v/\v<100000/\s=.im (.int (v:Nat)):=by
 unfold p2 at e;split at e
 ·rename_i B a;split at e
  ·rename_i b;let⟨@v,c,f⟩:=cv.mp e;rw[cV]at b;exact⟨B,a,v,rfl,rfl,b.1.1,b.1.2,c,fk (Ci c) b.2,f.symm⟩
  ·cases e
 ·cases e
@[simp] def xX:ak->Bool
 |.lst _=>V
 |_=>aq
@[simp] def s_(go WD:aC bI):aC ak:=λk=>(go k).bind λo=>(cY o.2 o.1).bind λM=>if xX M=V then (WD o.2).bind λp=>(cY p.2 o.1).bind λWb=>(cY p.2 p.1).bind λWl=>(p2 Wb Wl).map λs=>(s,p.2) else Y
def SW{m c:bt}{go WD:aC bI}{E WT:Pos}(y:a.A.units+20<b9)(z:dC a m go)(h:dC a c WD)(G:sk m "index" a.env (b_ m a.env)=b_ m a.env:=by rfl)(H:((fE WT<|bP [c] a.env).all (λf=>!f.1)&&(AL WT<|AM [] a.env).all (λf=>f.1.isSome)
   && decide ([c].length+([]:List oz).length+(if ([]:List oz).isEmpty then 0 else 1)<30))=V:=by rfl)(I:(E.endLine==WT.line)=V:=by rfl)(VN:bP [c] a.env=(aq,b_ c a.env)::bP [] a.env:=by rfl)(L:(fE WT<|bP [] a.env).any (·.1)=aq:=by rfl):
  cw a (.Call (.Attribute m "index" E) [c] [] WT) (s_ go WD):=by
 refine eC (G6 F.plainAttrs_list IV F.type_list_index (MI y) z (nr h l2 VN) G H I VN L) λx j D N=>?_;let⟨k,O,r,@VW,X,ah,d,p⟩:=N;unfold s_ at d;let⟨@⟨f,VK⟩,h,d⟩:=bM.mp d;let⟨@M,Q,d⟩:=bM.mp d;split at d
 ·rename_i R;let⟨@⟨t,Wf⟩,S,d⟩:=bM.mp d;let⟨@Wb,A,d⟩:=bM.mp d;let⟨@Wl,C,d⟩:=bM.mp d;let⟨@s,U,d⟩:=cv.mp d;cases d;refine⟨k,O,f,VK,X,ah,h,λu VL VY al w V5 l=>⟨?_,VK,VY,[t],_,w,(dt.mp l.ah).1,by unfold aj;rw[S];rfl,λT V0 V_ b3 n o q=>?_⟩⟩
  ·have am:=V5.read w Q;let⟨@VI,an⟩:=am;refine ju VL M u VI an ?_;cases M<;>first|rfl|cases R
  ·let⟨J,Wz,ap,@bs,rfl,o,@⟨rfl,rfl⟩,rfl⟩:=o;have as:=V5.mono q.tup λg h m c=>q.keep g m c λe=>(dt.mp l.ah).2.2 g e g h rfl;have a1:=as.read n A;have a2:=o.read n C;let⟨B,bd,@v,rfl,rfl,be,Wo,bi,bm,rfl⟩:=PK U;refine⟨bd,B,J,v,rfl,a2.i,a1,be,Wo,bi,bm,?_⟩;refine p (.int v) V0 V_ [] n ⟨rfl,rfl⟩ ?_;have bn:=l.trans q V5.chg;exact bn.less (aG:=ap++al) ↥0
 ·cases d
end
structure lB(R:Φ)(VJ:bF)(y:bj)(Wy:List (ae×List ab))(cD:List (ae×List (List ab×ae))):Prop where
 tup:∀o∈Wy,∃z,(∀j,cu R j o.1 z)/\∀j,bN j o.2 z
 PH:∀o∈cD,∃z:List (List ab×ae×af),(∀e:aY,R.In e->e.DictOfH (hX VJ y) o.1 z)/\(z.map λf=>(f.1,f.2.2))=o.2.map λp=>(p.1,af.ref p.2)
structure dQ where
 gI:ae
 kt:List (ae×List ab)
 cD:List (ae×List (List ab×ae))
@[simp] def tw(cD:List (ae×List (List ab×ae)))(g:ae)(q:List ab):Option ae:=(cD.find? λo=>decide (o.1=g)).bind λo=>(o.2.find? λp=>decide (p.1=q)).map (·.2)
@[simp] def kK(Wy:List (ae×List ab))(g:ae)(b:Int):Option ab:=(Wy.find? λo=>decide (o.1=g)).bind λo=>e5 o.2 b
@[simp] def ei(Wy:List (ae×List ab))(cD:List (ae×List (List ab×ae))):fO:=λg d=>match g,d with
 |.im (.fn g),.im (.int b)=>(kK Wy g b).map .im
 |.im (.fn g),.im (.tup q)=>if ab.keys 7 q=V then (tw cD g q).map λs=>.im (.fn s) else Y
 |g,d=>a9 g d
theorem CF:∀{z:List (List ab×ae×af)}{VR:List (List ab×ae)}{q:List ab}{p:List ab×ae},(z.map λf=>(f.1,f.2.2))=(VR.map λp=>(p.1,af.ref p.2))->(VR.find? λp=>decide (p.1=q))=Z p->∃n,kA z q=Z (n,.ref p.2)
 |[],[],q,p,_,N=>by cases N
 |[],t::VR,q,p,c,N=>by cases c
 |f::z,[],q,p,c,N=>by cases c
 |f::z,t::VR,q,p,c,N=>by
  rw[cS,cS]at c;injection c with a b;injection a with d g;rw[jb]at N;unfold kA;rw[jb,d];split at N
  ·rename_i e;cases N;rw[e];exact⟨f.2.1,by rw[<-g];rfl⟩
  ·rename_i e;rw[e];exact CF b N
section
variable{a:aK}{Wy:List (ae×List ab)}{cD:List (ae×List (List ab×ae))}
def K_(e:a.A.units+20<b9)(F:lB a.K a.prog a.w Wy cD):ij a (λf t j D=>∃g q d s,f=.ref g/\t=.ref d/\h2 j q d/\tw cD g q=Z s/\D (.ref s) j):=by
 intro E M G h x j f t u J D l i m ⟨g,q,d,s,r,v,B,hd,p⟩ VN;subst r v;cases i;cases m;let⟨@o,c,C⟩:=bM.mp hd;let⟨@z,k,Ws⟩:=F.PH o (DG c);have bU:=E7 c;have bU:o.1=g:=e9 bU;let⟨@H,I,rfl⟩:=cv.mp C;have b:=k h.heap l.kp;rw[bU]at b;let⟨@n,L⟩:=CF Ws I;exact yF b.typeIs Jw.lookup (F_ (pq e) (mE l.aX B) b L ⟨.ref H.2,j,l.tok _,rfl,p⟩) VN
def jM(m:a.A.units+20<b9)(F:lB a.K a.prog a.w Wy cD):ij a (λf t j D=>∃Wb Wl s,e6 j Wb f/\e6 j Wl t/\ei Wy cD Wb Wl=Z s/\∀u Q VI,c8 j Q->cJ Q s u VI->VI.Nodup->(∀g∈VI,j g=Y)->D u Q):=by
 refine ((G4 m).or<|H_.or<|K_ m F).imp λf t j D r=>?_;let⟨Wb,Wl,@s,e,h,c,p⟩:=r;unfold ei at c;split at c
 ·let⟨@n,k,l⟩:=cv.mp c;cases l;let⟨@o,q,v⟩:=bM.mp k;let⟨@z,VU,Wk⟩:=F.tup o (DG q);have bU:=E7 q;have bU:=e9 bU;let⟨@u,x,B⟩:=vg (Wk j) v;exact .inr (.inl ⟨o.1,z,_,u,by rw[bU];exact e.i,h.i,VU j,x,cb.i p B⟩)
 ·split at c
  ·rename_i C;let⟨@n,k,l⟩:=cv.mp c;cases l;let⟨d,@z,rfl,V8,Wd⟩:=h.i;exact .inr (.inr ⟨_,_,d,n,e.i,rfl,⟨C,d,z,rfl,V8,Wd⟩,k,cb.i p rfl⟩)
  ·cases c
 ·exact .inl ⟨Wb,Wl,s,e,h,c,p⟩
end
def oh(a l WQ b V5 c d e f g h i j:ae):dQ:=(⟨a,[(l,[.fn WQ,.fn b]),(V5,[.fn c,.fn d]),(e,[.fn f,.fn g]),(h,[.fn i,.fn j]),(WQ,[.int (-1),.int 0]),(b,[.int 0,.int 1]),(c,[.int 0,.int 1]),(d,[.int 1,.int 0]),(f,[.int 1,.int 0]),(g,[.int 0,.int<|-1]),(i,[.int 0,.int<|-1]),(j,[.int (-1),.int 0])],
 [(a,[([.int 0,.int 0],l),([.int 0,.int 1],V5),([.int 1,.int 1],e),([.int 1,.int 0],h)])]⟩)
def hv(R:Φ)(g:ae)(b v:Int):Prop:=(∃s I J w h,R.lookup g=Z ⟨.type "tuple",s,.seq #[.int b I,.int v J] w,h⟩)
def oj(R:Φ)(g f t:ae):Prop:=(∃s w h,R.lookup g=Z ⟨.type "tuple",s,.seq #[.ref f,.ref t] w,h⟩)
variable{R:Φ}{VJ:bF}{y:bj}
def hv.tup(e:hv R g b v):∃z,(∀j,cu R j g z)/\∀j,bN j [.int b,.int v] z:=by
 let⟨s,I,J,w,@h,c⟩:=e;refine⟨[.int b,.int v],λj=>.inr ⟨_,_,w,c,rfl,rfl,by show 2<=sizeLine;decide,.cons ⟨I,rfl⟩<|.cons ⟨J,rfl⟩ .nil⟩,λj=>⟨_,_,rfl,rfl,_,_,rfl,rfl,rfl⟩⟩
def oj.tup{f t:ae}(e:oj R g f t):∃z,(∀j,cu R j g z)/\∀j,bN j [.fn f,.fn t] z:=by
 let⟨s,w,@h,c⟩:=e;refine⟨[.ref f,.ref t],λj=>.inr ⟨_,_,w,c,rfl,rfl,by show 2<=sizeLine;decide,.cons rfl<|.cons rfl .nil⟩,λj=>⟨_,_,rfl,rfl,_,_,rfl,rfl,rfl⟩⟩
def hv.is(e:hv R g b v){d:aY}(a:R.In d):(hX VJ y).is d [.int b,.int v] g:=by
 let⟨s,I,J,w,@h,c⟩:=e;exact⟨rfl,g,_,_,w,rfl,a _ _ c,rfl,rfl,_,_,rfl,⟨I,rfl⟩,_,_,rfl,⟨J,rfl⟩,rfl⟩
def FO{p q l WQ g V8 V5 h i Wd b j k r c m n:ae}{WE A C s:Int}{w:Nat}(u:R.lookup p=Z ⟨.type "dict",Y,.dict #[⟨WE,.ref q,.ref l⟩,⟨A,.ref V8,.ref V5⟩,⟨C,.ref Wd,.ref b⟩,⟨s,.ref r,.ref c⟩] w,#[]⟩)(v:WE=m2 y (.tup [.int 0,.int 0]))(x:A=m2 y (.tup [.int 0,.int 1]))(z:C=m2 y (.tup [.int 1,.int 1]))(B:s=m2 y (.tup [.int 1,.int 0]))(D:hv R q 0 0)(E:hv R V8 0 1)(F:hv R Wd 1 1)(G:hv R r 1 0)(H:oj R l WQ g)(I:oj R V5 h i)(J:oj R b j k)(L:oj R c m n)(WN:hv R WQ (-1) 0)(M:hv R g 0 1)(N:hv R h 0 1)(O:hv R i 1 0)(P:hv R j 1 0)(Q:hv R k 0 (-1))(S:hv R m 0 (-1))(T:hv R n (-1) 0):
  lB R VJ y (oh p l WQ g V5 h i b j k c m n).kt (oh p l WQ g V5 h i b j k c m n).cD:=by
 constructor
 ·intro o d;simp only[oh,bO,gz,eT]at d;rcases d with e|e|e|e|e|e|e|e|e|e|e|e<;>subst e
  ·exact H.tup
  ·exact I.tup
  ·exact J.tup
  ·exact L.tup
  ·exact WN.tup
  ·exact M.tup
  ·exact N.tup
  ·exact O.tup
  ·exact P.tup
  ·exact Q.tup
  ·exact S.tup
  ·exact T.tup
 ·intro o d;simp only[oh,bO,gz,eT]at d;subst d;subst v x z B;refine⟨[([.int 0,.int 0],q,.ref l),([.int 0,.int 1],V8,.ref V5),([.int 1,.int 1],Wd,.ref b),([.int 1,.int 0],r,.ref c)],λe a=>⟨_,_,w,a _ _ u,⟨rfl,rfl,rfl⟩,rfl,rfl,λf t=>?_,?_⟩,rfl⟩
  ·simp only[bO,gz,eT]at t;rcases t with e|e|e|e<;>subst e
   ·exact D.is a
   ·exact E.is a
   ·exact F.is a
   ·exact G.is a
  ·simp
end L2
namespace L2
open Spec PyProof.Rows PySem.W
variable{b:Nat}
def pf(k:a5)(b:Nat)(B:List ab):Bool:=(match k[b]? with
 |some (Z<|.lst t)=>decide (t=B)
 |_=>aq)
def lx(b:Nat)(B:List ab)(Wh:fs)(d:bo):List ab->bo
 |[]=>λk=>if pf k b B=V then Z (.aI,k) else Y
 |f::r=>λk=>if pf k b B=V then (Wh (.im f) k).bind λVK=>(d VK).bind λp=>match p.1 with
  |.aI=>lx b B Wh d r p.2
  |.cI=>lx b B Wh d r p.2
  |.dO=>Z (.aI,p.2)
  |.cB s=>Z (.cB s,p.2) else Y
def w9(b:Nat)(Wh:fs)(d:bo):bo:=(λk=>match k[b]? with
 |some (Z<|.lst B)=>lx b B Wh d B k
 |_=>Y)
def Ds{k:a5}{B:List ab}(e:pf k b B=V):k[b]?=Z (Z<|.lst B):=by
 unfold pf at e;split at e
 ·rename_i t c;rw[c,e9 e]
 ·cases e
section
variable{a:aK}
def RB{V4 Ww:List Nat}{Wh WG:bt}{WU:List bC}{t:fs}{Wx:bo}{VT:Pos}(bn:pZ (aW a.prog a.w) a.A a.env a.cQ)(bs:a.calm=V)(VF:dC a WG (ag b))(bv:h6 a Ww Wh t)(ca:hR a Ww WU Wx)(cd:∀b∈V4,b∈Ww)(VN:b∈Ww)(ce:∀f,mQ WG a.env f=pure f:=by intro W;rfl):gH a V4 (.For Wh WG WU [] VT) (w9 b t Wx):=by
 refine kb (BU bn bs (IH VF) bv ca ce) λVD x j ch=>?_;let⟨k,O,N,@Wf,X,ah,L,p⟩:=ch;unfold w9 at L;split at L
 ·rename_i B ap;refine⟨k,O,.a6 b,k,X,ah,by unfold ag;rw[ap],λu VL VY VI as V5 a1=>?_⟩;let@⟨V5,rfl⟩:=V5;rw[cj]at a1;have T:∀{Q:aA}{d:a5}{i:a8}{Wc:List ae},bD Q d i Wc->i[b]?=Z (Z u)->d[b]?=Z (Z<|.lst B)->∃g z,u=.ref g/\Q g=Z (.lst z)/\bN Q B z:=λD ci cl=>by
   let⟨f1,f2,@f4,a2,co,W⟩:=D.out cl;rw[ci]at a2;cases a2;let⟨g,@z,c,A,C,W⟩:=co;exact⟨g,z,c,A,C⟩
  let⟨g,@z,rfl,A,C⟩:=T as V5 ap;refine⟨g,rfl,.inl ⟨⟨z,dv.of A⟩,?_⟩⟩;have U:∀{E:a8},c_ Ww x E->c_ V4 x E:=λN=>⟨N.1,λb VF=>N.2 b<|cd b VF⟩;refine⟨λv H i Q=>H+v=B.length/\∃d Wc,c_ Ww x i/\bD Q d i Wc/\bk j O Q Wc/\lx b B t Wx (B.drop v) d=Z (N,Wf),⟨B.length,rfl,k,VY,c_.refl,as,a1,L⟩,?_⟩;rintro v H i Q ⟨f8,d,Wc,l,D,VE,h⟩;by_cases bd:v<B.length
  ·rw[jZ bd,lx]at h;dsimp only at h;split at h
   ·rename_i al;let⟨cr,@cs,c,V8,Wd⟩:=T D ((l.2 b VN).trans V5) (Ds al);cases c;let@⟨db,ds⟩:=(xJ (R:=a.K) V8 Wd).go Q (eU.of (λ_ W c=>c)<|λ_ W W c=>c) (λ_ W W c=>c) v B[v] (by simp[bd]);let⟨@F,dD,du⟩:=bM.mp h;let⟨@⟨be,am⟩,fA,M⟩:=bM.mp du;refine .inr ⟨db,λE V0=>(H-1)+(v+1)=B.length/\∃d Wc,c_ Ww x E/\bD V0 d E Wc/\bk j O V0 Wc/\lx b B t Wx (B.drop<|v+1) d=Z (N,Wf),λE V0 e=>⟨H-1,⋯,e⟩,λf V0 dL=>?_⟩;let@⟨an,eq⟩:=ds f V0 dL;have ev:=D.mono an.tupS λg W m c=>an g m c;have bi:=VE.same an;refine⟨d,Wc,.im B[v],[],F,ev,⟨eq,rfl⟩,by rw[cj];exact bi.ah,dD,λga ex bm S fd iX=>?_⟩;have G:bk j O ex bm:=bi.seq (by rw[cj]at iX;exact iX);refine⟨F,bm,be,am,fd,G.ah,fA,?_⟩;cases be with
    |aI=>exact λI J n o q r=>⟨⋯,am,n,(l.trans S).trans o,q,G.seq r,M⟩
    |cI=>exact λI J n o q r=>⟨⋯,am,n,(l.trans S).trans o,q,G.seq r,M⟩
    |dO=>
     cases M;exact λI J n o q r=>p I J n (U<|(l.trans S).trans o) q (G.seq r)
    |cB s=>
     cases M;exact λu I J n fn o q fr r=>p u I J n fn (U<|(l.trans S).trans o) q fr (G.seq r)
   ·cases h
  ·have f0:v=B.length:=⋯
   subst f0;rw[m3 (bT _),lx]at h;dsimp only at h;split at h
   ·rename_i al;cases h;let⟨cr,@cs,c,V8,Wd⟩:=T D ((l.2 b VN).trans V5) (Ds al);cases c;exact .inl ⟨(xJ (R:=a.K) V8 Wd).stop Q (eU.of (λ_ W c=>c)<|λ_ W W c=>c)<|λ_ W W c=>c,p i Q Wc (U l) D VE⟩
   ·cases h
 ·cases L
end
end L2
namespace G
open L2
def CR:bo:=((cG<|c0<|aj (aa<|av hH (aa<|av a9 (ag 1)<|aa<|au<|.int 0)<|aa<|av f3 (aa<|av hH (aa<|av a9 (ag 1)<|aa<|au<|.int 0)<|aa<|av a9 (aa<|av a9 (ag 0)<|aa<|au<|.int 0)<|aa<|au<|.int 0)<|aa<|au<|.int 2)<|aj (aa<|av hH (aa<|av a9 (ag 1)<|aa<|au<|.int 1)<|aa<|av f3 (aa<|av hH (aa<|av a9 (ag 1)<|aa<|au<|.int 1)<|aa<|av a9 (aa<|av a9 (ag 0)<|aa<|au<|.int 0)<|aa<|au<|.int 1)<|aa<|au<|.int 2) ay))
def oM:cU:=(c6 2 2 [0,1] CR)
def C8(VG:dQ):bo:=((cG<|c0<|aj (aa<|av dp (aa<|av (ei VG.kt VG.cD) (ag 0)<|aa<|au<|.int 0)<|aa<|av et (aa<|av (ei VG.kt VG.cD) (ag 1)<|aa<|au<|.int 0)<|ag 2)<|aj (aa<|av dp (aa<|av (ei VG.kt VG.cD) (ag 0)<|aa<|au<|.int 1)<|aa<|av et (aa<|av (ei VG.kt VG.cD) (ag 1)<|aa<|au<|.int 1)<|ag 2) ay))
def me(VG:dQ):cU:=(c6 3 3 [0,1,2] (C8 VG))
def Dm(VG:dQ):bo:=((bL (cn 3<|bf 2 G.oM<|aj (ag 0)<|aj (ag 2) ay)<|bL (cn 4<|av (ei VG.kt VG.cD) (aa<|au<|.fn VG.gI)<|aa<|c0<|aj (aa<|av hH (aa<|av (ei VG.kt VG.cD) (ag 2)<|aa<|au<|.int 0)<|aa<|av (ei VG.kt VG.cD) (ag 3)<|aa<|au<|.int 0)<|aj (aa<|av hH (aa<|av (ei VG.kt VG.cD) (ag 2)<|aa<|au<|.int 1)<|aa<|av (ei VG.kt VG.cD) (ag 3)<|aa<|au<|.int 1) ay)<|bL (ee (bJ<|av j6 (aa<|bf 2 G.r6<|aj (ag 3)<|aj (aa<|bf 3 (G.me VG)<|aj (ag 3)<|aj (aa<|av (ei VG.kt VG.cD) (ag 4)<|aa<|au<|.int 0)<|aj (aa<|au<|.int 2) ay) ay)<|ag 1) (cG<|bf 3 (G.me VG)<|aj (ag 2)<|aj (aa<|av (ei VG.kt VG.cD) (ag 4)<|aa<|au<|.int 0)<|aj (aa<|au<|.int 1) ay) fa)<|cG<|bf 3 (G.me VG)<|aj (ag 2)<|aj (aa<|av (ei VG.kt VG.cD) (ag 4)<|aa<|au<|.int 1)<|aj (aa<|au<|.int 1) ay))
def qp(VG:dQ):cU:=(c6 3 5 [0,1,2] (Dm VG))
def y7:bo:=((bL (ee (bJ<|av n1 (ag 1)<|aa<|bV eO<|aj (ag 0) ay) (cG<|av a9 (ag 0)<|ag 1) fa)<|cG<|au<|.int 0))
def sy:cU:=(c6 2 2 [0,1] y7)
def Hv:bo:=((bL (cn 2<|bf 2 G.sy<|aj (ag 0)<|aj (ag 1) ay)<|bL (cn 3<|av et (aa<|av et (aa<|av nX (aa<|au<|.int 10)<|aa<|au<|.int 60)<|aa<|av nX (aa<|au<|.int 10)<|aa<|au<|.int 60)<|aa<|av nX (aa<|au<|.int 10)<|aa<|au<|.int 60)<|bL (cn 4<|av f3 (aa<|av et (aa<|av dp (aa<|av dp (aa<|av f3 (ag 2)<|aa<|au<|.int 2147483629)<|aa<|av et (aa<|av et (aa<|au<|.int 7919)<|ag 1)<|ag 1)<|aa<|au<|.int 11)<|aa<|au<|.int 48271)<|aa<|au<|.int 2147483647)<|cG<|eI<|aj (aa<|av et (aa<|av f3 (ag 2)<|ag 3)<|aa<|bV vInt<|aj (aa<|av Et (ag 2)<|aa<|av nX (aa<|au<|.int 10)<|aa<|au<|.int 18) ay)<|aj (ag 4)<|aj (aa<|au<|.int 0) ay))
def rS:cU:=(c6 2 5 [0,1] Hv)
def AA:bo:=((bL (ee (bJ<|av qH (aa<|av a9 (ag 0)<|aa<|au<|.int 0)<|aa<|au<|.int 0) (bL (cn 2<|av f3 (aa<|av a9 (ag 0)<|aa<|au<|.int 0)<|ag 1)<|bL (fP (av oA (aa<|av a9 (ag 0)<|aa<|au<|.int 0)<|ag 1)<|j5 0 (au<|.int 0) mT)<|cG<|fB 2) fa)<|bL (fP (av dp (aa<|av a9 (ag 0)<|aa<|au<|.int 2)<|aa<|au<|.int 1)<|j5 0 (au<|.int 2) mT)<|bL (fP (av f3 (aa<|av dp (aa<|av dp (aa<|av et (aa<|av a9 (ag 0)<|aa<|au<|.int 1)<|aa<|au<|.int 48271)<|aa<|au<|.int 12345)<|aa<|av et (aa<|au<|.int 7919)<|aa<|av a9 (ag 0)<|aa<|au<|.int 2)<|aa<|au<|.int 2147483647)<|j5 0 (au<|.int 1) mT)<|cG<|av f3 (aa<|av oA (aa<|av f3 (aa<|av et (aa<|av a9 (ag 0)<|aa<|au<|.int 1)<|aa<|av a9 (ag 0)<|aa<|au<|.int 1)<|aa<|au<|.int 1999999973)<|aa<|au<|.int 31)<|ag 1))
def gp:cU:=(c6 2 3 [0,1] AA)
def tY:bo:=((bL (fP (av a9 (ag 2)<|aa<|bf 2 G.gp<|aj (ag 0)<|aj (aa<|bV eO<|aj (ag 2) ay) ay)<|e_ 2<|c3 (br 4)<|c3 (br 5) fj)<|bL (ee (bJ<|av eN (aa<|bf 2 G.gp<|aj (ag 0)<|aj (aa<|au<|.int 3) ay)<|aa<|au<|.int 0) (fP (av a9 (ag 2)<|aa<|lb<|au<|.int 1)<|e_ 2<|c3 (br 4)<|c3 (br 5) fj) fa)<|bL (fP (av a9 (aa<|eI<|aj (aa<|c0<|aj (aa<|au<|.int 0)<|aj (aa<|au<|.int 2) ay)<|aj (aa<|c0<|aj (aa<|au<|.int 2)<|aj (aa<|au<|.int 0) ay)<|aj (aa<|c0<|aj (aa<|au<|.int 0)<|aj (aa<|lb<|au<|.int 2) ay)<|aj (aa<|c0<|aj (aa<|lb<|au<|.int 2)<|aj (aa<|au<|.int 0) ay) ay)<|aa<|bf 2 G.gp<|aj (ag 0)<|aj (aa<|au<|.int 4) ay)<|e_ 2<|c3 (br 6)<|c3 (br 7) fj)<|bL (cn 8<|c0<|aj (aa<|av dp (ag 4)<|ag 6)<|aj (aa<|av dp (ag 5)<|ag 7) ay)<|ee (e1 (bJ<|av ml (ag 8)<|ag 2)<|e1 (bJ<|av n1 (aa<|bV eO<|aj (ag 2) ay)<|ag 1)<|e1 (bJ<|gP fc fc (aa<|au<|.int 0) (aa<|av a9 (ag 8)<|aa<|au<|.int 0)<|aa<|au<|.int 29)<|bJ<|gP fc fc (aa<|au<|.int 0) (aa<|av a9 (ag 8)<|aa<|au<|.int 1)<|aa<|au<|.int 29) (hn<|fH hl 2 ha<|aj (ag 8) ay) fa))
def Er:bo:=((bL (cn 1<|av dp (aa<|au<|.int 1)<|aa<|bf 2 G.gp<|aj (ag 0)<|aj (aa<|av a9 (aa<|eI<|aj (aa<|au<|.int 3)<|aj (aa<|au<|.int 8)<|aj (aa<|au<|.int 14)<|aj (aa<|au<|.int 40) ay)<|aa<|bf 2 G.gp<|aj (ag 0)<|aj (aa<|au<|.int 4) ay) ay)<|bL (cn 2<|eI<|aj (aa<|c0<|aj (aa<|bf 2 G.gp<|aj (ag 0)<|aj (aa<|au<|.int 30) ay)<|aj (aa<|bf 2 G.gp<|aj (ag 0)<|aj (aa<|au<|.int 30) ay) ay) ay)<|bL (g0 (mM<|aj (aa<|av et (aa<|au<|.int 3)<|ag 1) ay) (br 3) G.tY)<|cG<|bV eM<|aj (ag 2) ay))
def ro:cU:=(c6 1 9 [0] Er)
def IT:bo:=((bL (fP (fB 0)<|e_ 2<|c3 (br 1)<|c3 (br 2) fj)<|cG<|eI<|aj (aa<|c0<|aj (ag 1)<|aj (ag 2) ay)<|aj (aa<|c0<|aj (ag 1)<|aj (aa<|av dp (ag 2)<|aa<|au<|.int 1) ay)<|aj (aa<|c0<|aj (aa<|av dp (ag 1)<|aa<|au<|.int 1)<|aj (aa<|av dp (ag 2)<|aa<|au<|.int 1) ay)<|aj (aa<|c0<|aj (aa<|av dp (ag 1)<|aa<|au<|.int 1)<|aj (ag 2) ay) ay))
def q2:cU:=(c6 1 3 [0] IT)
def vq:bo:=((hn<|fH hl 1 nu<|aj (aa<|bf 1 G.q2<|aj (ag 2) ay) ay))
def ED:bo:=((bL (cn 1<|eI ay)<|bL (g0 (dn<|ag 0) (br 2) G.vq)<|cG<|bV iH<|aj (aa<|bV eM<|aj (ag 1) ay) ay))
def ig:cU:=(c6 1 3 [0] ED)
def EO:aC ak:=((c0<|aj (aa<|c0<|aj (ag 2)<|aj (ag 3) ay)<|aj (ag 0) ay))
def Ck:aC Bool:=((bJ<|av j6 (ag 0)<|ag 1))
def rl:bo:=((hn<|fH hl 1 nu<|aj (aa<|dg 1 [0,2,3] (dn<|aa<|eI<|aj (aa<|c0<|aj (ag 2)<|aj (aa<|av dp (ag 3)<|aa<|au<|.int 2) ay)<|aj (aa<|c0<|aj (aa<|av dp (ag 2)<|aa<|au<|.int 2)<|aj (ag 3) ay) ay) (br 0) G.Ck G.EO) ay))
def EV:bo:=((bL (cn 1<|eI ay)<|bL (w9 0 (e_ 2<|c3 (br 2)<|c3 (br 3) fj) G.rl)<|cG<|bV eM<|aj (ag 1) ay))
def sl:cU:=(c6 1 4 [0] EV)
def zZ:aC ak:=((c0<|aj (ag 0)<|aj (ag 0) ay))
def BS:aC ak:=((c0<|aj (ag 0)<|aj (aa<|pk (bJ<|av eN (aa<|av a9 (ag 1)<|ag 0)<|ag 2) (fB 3)<|av a9 (ag 1)<|ag 0) ay))
def HK:aC Bool:=((bJ<|av gj (ag 2)<|aa<|eI ay))
def wU:bo:=((bL (fP (fH hl 2 pT<|aj (aa<|bf 2 G.gp<|aj (ag 0)<|aj (aa<|bV eO<|aj (ag 2) ay) ay) ay)<|e_ 2<|c3 (br 5)<|c3 (br 6) fj)<|ee (bJ<|av gj (aa<|av a9 (ag 4)<|ag 5)<|aa<|av a9 (ag 4)<|ag 6) (bL (hn<|fH hl 3 ha<|aj (aa<|c0<|aj (ag 5)<|aj (ag 6) ay) ay)<|bL (fP (c0<|aj (aa<|av a9 (ag 4)<|ag 5)<|aj (aa<|av a9 (ag 4)<|ag 6) ay)<|e_ 2<|c3 (br 7)<|c3 (br 8) fj)<|cn 4<|bV oW<|aj (aa<|dg 1 [4,7,8] (dn<|ag 1) (br 0) d8 G.BS) ay) fa))
def GX:bo:=((bL (p0 2 3<|aj (aa<|bf 1 G.sl<|aj (ag 1) ay)<|aj (aa<|eI ay) ay)<|bL (cn 4<|bV oW<|aj (aa<|dg 1 [] (dn<|ag 1) (br 0) d8 G.zZ) ay)<|bL (j_ G.HK G.wU 1000000)<|cG<|bV iH<|aj (aa<|bV eM<|aj (ag 3) ay) ay))
def sX:cU:=(c6 2 9 [0,1] GX)
end G
namespace L2
open Spec PyProof.Rows PySem.W
def wy:ak->ak
 |.im (.a3 f)=>.dE f
 |s=>s
@[simp] theorem Vh(f:List ab):wy (.im<|.a3 f)=.dE f:=rfl
@[simp] theorem Vj(f:List ab):wy (.im<|.tup f)=.im (.tup f):=rfl
@[simp] def pa(L:aC ak):aC ak:=λk=>(L k).map λo=>(wy o.1,o.2)
section
variable{a:aK}
def GZ{c:bt}{L:aC ak}(e:cw a c L):cw a c (pa L):=by
 refine eC e λx j D h=>?_;let⟨k,O,r,@VW,X,ah,i,p⟩:=h;let⟨@⟨d,VK⟩,A,C⟩:=cv.mp i;cases C;refine⟨k,O,d,VK,X,ah,A,λu VL VY VI l b n=>p u VL VY VI l ?_ n⟩;cases d with
 |im s=>
  cases s with
  |a3 f=>
   let@⟨⟨g,z,@m,rfl,V8,Wd⟩,rfl⟩:=b;exact⟨g,z,m,rfl,V8,Wd,rfl⟩
  |_=>exact b
 |_=>exact b
end
end L2
namespace L2
section
variable{k VK Wf:a5}
variable{s:ak}
def cC{L:aC ak}(e:L k=Z (s,VK)):aa L k=Z (.cA s,VK):=by unfold aa;rw[e];rfl
variable{f:bI}
def di{L:aC bI}{e:aC (List bI)}{z:List bI}(a:L k=Z (f,VK))(b:e VK=Z (z,Wf)):aj L e k=Z (f::z,Wf):=by unfold aj;rw[a];show (e VK).map _=_;rw[b];rfl
variable{WD:aC bI}{t:bI}{Wb Wl:ak}
def d_{Wr:ak->ak->Option ak}{Wx:aC bI}(a:WD k=Z (f,VK))(b:Wx VK=Z (t,Wf))(c:cY Wf f=Z Wb)(d:cY Wf t=Z Wl)(e:Wr Wb Wl=Z s):av Wr WD Wx k=Z (s,Wf):=by
 unfold av;rw[a];show (Wx VK).bind _=_;rw[b];show (cY Wf f).bind _=_;rw[c];show (cY Wf t).bind _=_;rw[d];show (Wr Wb Wl).map _=_;rw[e];rfl
variable{L:aC (List bI)}{w:Nat}{VV:List bI}{B i:List ak}
def g8{S:cU}{r:ak}(a:L k=Z (VV,VK))(b:VV.length=w)(c:ek VV VK=Z (B,Wf))(d:S B=Z (r,i)):bf w S L k=Z (r,gV VV i Wf):=by
 unfold bf;rw[a];show (if VV.length=w then _ else _)=_;rw[aJ b];show (ek VV VK).bind _=_;rw[c];show (S B).map _=_;rw[d];rfl
def nN{Wr:List ak->Option ak}(a:L k=Z (VV,VK))(b:ir VK VV=Z B)(c:Wr B=Z s):bV Wr L k=Z (s,VK):=by
 unfold bV;rw[a];show (ir VK VV).bind _=_;rw[b];show (Wr B).map _=_;rw[c];rfl
variable{d:Bool}
def sV{L:aC ak}(c:L k=Z (.im<|.aF d,VK)):bJ L k=Z (d,VK):=by unfold bJ;rw[c];rfl
def xM{L:aC Bool}(c:L k=Z (d,VK)):gi L k=Z (!d,VK):=by unfold gi;rw[c];rfl
def R4{L:aC bI}(c:L k=Z (f,VK))(a:cY VK f=Z s)(b:pN s=Z d):gy L k=Z (d,VK):=by
 unfold gy;rw[c];show (cY VK f).bind _=_;rw[a];show (pN s).map _=_;rw[b];rfl
def jv{L:aC ak}{e:fs}(c:L k=Z (s,VK))(a:e s VK=Z Wf):fP L e k=Z (.aI,Wf):=by unfold fP;rw[c];show (e s VK).map _=_;rw[a];rfl
def lg{L:aC ak}(c:L k=Z (s,VK)):hn L k=Z (.aI,VK):=by unfold hn;rw[c];rfl
variable{F:a5}
def j7{ty:ak->Bool}{b:Nat}{bS:ak->List ak->Option (ak×ak)}{a n r c:ak}(d:k[b]?=Z (Z a))(e:ty a=V)(f:L k=Z (VV,VK))(g:ek VV VK=Z (B,Wf))(h:Wf[b]?=Z (Z n))(i:bS n B=Z (r,c))(q:Wf.set b (Z c)=F):fH ty b bS L k=Z (r,F):=by
 subst q;unfold fH;rw[d];show (if ty a=V then _ else _)=_;rw[aJ e,f];show (ek VV VK).bind _=_;rw[g];show (match Wf[b]? with|some (Z n)=>_|_=>Y)=_;rw[h];show (bS n B).map _=_;rw[i];rfl
def rW(a:L k=Z (VV,VK))(b:ek VV VK=Z (B,Wf))(c:B.length<=100000)(q:rt B=s):c0 L k=Z (s,Wf):=by
 unfold c0;rw[a];show (ek VV VK).bind _=_;rw[b];show (if _ then _ else _)=_;rw[aJ c,q]
def tn(a:L k=Z (VV,VK))(b:ek VV VK=Z (B,Wf))(c:B.length<=100000)(q:r_ B=s):eI L k=Z (s,Wf):=by
 unfold eI;rw[a];show (ek VV VK).bind _=_;rw[b];show (if _ then _ else _)=_;rw[aJ c,q]
variable{b:Int}
def Iw{L:aC ak}(c:L k=Z (.im<|.int b,VK)):lb L k=Z (.im<|.int<|-b,VK):=by unfold lb;rw[c];rfl
variable{f:List ab}
def uk{s:ab}(e:f.length<100000):ha (.lst f) [.im s]=Z (.im .aS,.lst<|f++[s]):=aJ e
def qx(b v:Int):eN (.im<|.int b) (.im<|.int v)=Z (.im<|.aF<|decide (b=v)):=by
 show Z (ak.im<|.aF<|b==v)=_;by_cases e:b=v<;>simp[e]
def Rc(b v:Int):gj (.im<|.int b) (.im<|.int v)=Z (.im<|.aF<|!decide (b=v)):=by
 show Z (ak.im<|.aF<|!(b==v))=_;by_cases e:b=v<;>simp[e]
variable{v:Int}
def iQ(e:gC b v=V):et (.im<|.int b) (.im<|.int v)=Z (.im<|.int<|b*v):=aJ e
def mc(e:0<v):f3 (.im<|.int b) (.im<|.int v)=Z (.im<|.int<|b%v):=aJ (dJ e)
def I4(e:0<v)(C:v<1073741824):oA (.im<|.int b) (.im<|.int v)=Z (.im<|.int<|b/v):=aJ (dJ (⟨e,C⟩:0<v/\v<1073741824))
def A4(e:decide (0<=v/\v<=1000000/\b.natAbs<2^64)=V):nX (.im<|.int b) (.im<|.int v)=Z (.im<|.int<|b^v.toNat):=aJ e
variable{r:Option (n0×a5)}{d:bo}{n:aC Bool}
theorem pw{g:bo}(c:n k=Z (V,VK))(e:g VK=r):ee n g d k=r:=(nx c).trans e
theorem il{g:bo}(c:n k=Z (aq,VK))(e:d VK=r):ee n g d k=r:=(qL c).trans e
theorem cW{L e:bo}(c:L k=Z (.aI,VK))(q:e VK=r):bL L e k=r:=(ej c).trans q
variable{b:Nat}
theorem h7{L:aC ak}(c:L k=Z (s,VK))(e:b<VK.length)(q:VK.set b (Z s)=Wf):cn b L k=Z (.aI,Wf):=(sW c e).trans (by rw[q])
variable{z:List ab}{Wh:fs}{m:Option (Nat×ak)}
theorem jC{L:jr}{a3:n0}(c:L k=Z ((z,m),VK))(e:ed Wh d z VK=Z (a3,Wf))(q:l8 m Wf=F):g0 L Wh d k=Z (a3,F):=(Gi c e).trans (by rw[q])
theorem kQ{own:Nat}{Wi:List Nat}{E:jr}{c:aC ak}{a:a5}{B:List ab}(A:E k=Z ((z,m),VK))(C:h8 own Wh n c z [] (kX Wi VK)=Z (B,a))(q:l8 m (jq Wi a VK)=F):dg own Wi E Wh n c k=Z (.lst B,F):=(oO A C).trans (by rw[q])
variable{r:Option (Bool×a5)}{d g:aC Bool}
def m_(c:g k=Z (aq,VK))(e:d VK=r):jY g d k=r:=by unfold jY;rw[c];exact e
def l3(c:g k=Z (V,VK))(e:d VK=r):e1 g d k=r:=by unfold e1;rw[c];exact e
def qJ(c:g k=Z (aq,VK)):e1 g d k=Z (aq,VK):=by unfold e1;rw[c];rfl
def UJ{go:aC bI}{f:bI}{M:ak}(a:go k=Z (f,VK))(b:cY VK f=Z M)(c:xX M=V)(d:WD VK=Z (t,Wf))(e:cY Wf f=Z Wb)(g:cY Wf t=Z Wl)(h:p2 Wb Wl=Z s):s_ go WD k=Z (s,Wf):=by
 unfold s_;rw[a];show (cY VK f).bind _=_;rw[b];show (if xX M=V then _ else _)=_;rw[aJ c,d];show (cY Wf f).bind _=_;rw[e];show (cY Wf t).bind _=_;rw[g];show (p2 Wb Wl).map _=_;rw[h];rfl
variable{r:Option (ak×a5)}{d g:aC ak}
def Kw(c:n k=Z (V,VK))(e:g VK=r):pk n g d k=r:=by unfold pk;rw[c];exact e
def KA(c:n k=Z (aq,VK))(e:d VK=r):pk n g d k=r:=by unfold pk;rw[c];exact e
def DY{v:Nat}(a:L k=Z (VV,VK))(c:ek VV VK=Z ([Wb,Wl],Wf))(VF:b<Wf.length)(d:v<Wf.length)(q:(Wf.set b<|Z Wb).set v (Z Wl)=F):p0 b v L k=Z (.aI,F):=by
 unfold p0;rw[a];show (ek VV VK).bind _=_;rw[c];show (if b<Wf.length/\v<Wf.length then _ else _)=_;rw[aJ ⟨VF,d⟩,q]
def uB{L:aC Bool}{d:Bool}(c:L k=Z (d,VK)):ho L k=Z (.im<|.aF d,VK):=by unfold ho;rw[c];rfl
variable{r:ak}
def c5{S:cU}(a:L k=Z (VV,VK))(b:VV.length=w)(c:ek VV VK=Z (B,Wf))(d:S B=Z (r,i))(q:gV VV i Wf=F):bf w S L k=Z (r,F):=by rw[<-q];exact g8 a b c d
def lO{L:aC Bool}(c:L k=Z (V,VK)):gi L k=Z (aq,VK):=xM c
def Ly{L:aC Bool}(c:L k=Z (aq,VK)):gi L k=Z (V,VK):=xM c
variable{t:List ab}
def C_(a:L k=Z (VV,VK))(b:ir VK VV=Z [.im (.tup f),.im<|.tup t]):oy L k=Z ((fi f t,Y),VK):=by
 unfold oy;rw[a];show (ir VK VV).bind _=_;rw[b];rfl
def HP{V5 a:bI}(b:L k=Z ([V5,a],VK))(c:ek [V5,a] VK=Z ([Wb,Wl],Wf))(d:gG Wb=Z f)(e:gG Wl=Z t)(g:Wl.dH=V)(q:(if Wb.dH=V then Y else r2 V5 Wb)=m):oD L k=Z ((fi f t,m),Wf):=by
 unfold oD;rw[b];show (ek [V5,a] VK).bind _=_;rw[c];show (gG Wb).bind _=_;rw[d];show (gG Wl).bind _=_;rw[e];show (if Wl.dH=V then _ else _)=_;rw[aJ g,q]
def vr{L:aC bI}{M e:aC (Option Int)}{f:bI}{E VF:Option Int}{a:ak}(b:L k=Z (f,VK))(c:M VK=Z (E,Wf))(d:e Wf=Z (VF,F))(g:cY F f=Z s)(h:kH s E VF=Z a):iE L M e k=Z (a,F):=by
 unfold iE;rw[b];show (M VK).bind _=_;rw[c];show (e Wf).bind _=_;rw[d];show (cY F f).bind _=_;rw[g];show (kH s E VF).map _=_;rw[h];rfl
def En{L:aC ak}(c:L k=Z (s,VK)):oP L k=Z (wm s,VK):=by unfold oP;rw[c];rfl
def Hf{L:aC ak}(c:L k=Z (s,VK)):pa L k=Z (wy s,VK):=by unfold pa;rw[c];rfl
def zX(a:L k=Z (VV,VK))(b:ir VK VV=Z [.im (.int v)])(e:sI v):mM L k=Z ((iD 0 v.toNat,Y),VK):=by
 unfold mM;rw[a];show (ir VK VV).bind _=_;rw[b];show (if sI v then _ else _)=_;rw[aJ e]
def ff{H:Nat}{V4:List Nat}{L:bo}(a:B.length=w)(c:L (B.map Z++replicate (H-w) Y)=Z (.cB r,k))(b:j4 V4 B k 0=i):c6 w H V4 L B=Z (r,i):=ix k a c b
end
end L2
namespace G
open L2
variable{F:List a4}
abbrev aw:=Int×Int
variable{E:List aw}{n d:aw}
def bR(d:aw):Nat->aw
 |0=>d
 |1=>(d.1,d.2+1)
 |2=>(d.1+1,d.2+1)
 |_=>(d.1+1,d.2)
def c4(d:aw):Nat->aw
 |0=>(d.1-2,d.2)
 |1=>(d.1,d.2+2)
 |2=>(d.1+2,d.2)
 |_=>(d.1,d.2-2)
def dW(d:aw):List aw:=([d,(d.1,d.2+1),(d.1+1,d.2+1),(d.1+1,d.2)])
def ew(F:List a4)(g d:aw):Bool:=(decide ((g,d)∈F\/(d,g)∈F))
def Jy(F:List a4)(g d:aw):ew F g d=ew F d g:=by
 unfold ew;rw[k8,hD,hD];exact Or.comm
def aI(F:List a4)(o:aw×Nat):aw×Nat:=(if ew F o.1 (c4 o.1 o.2)=V then (c4 o.1 o.2,(o.2+3)%4) else (o.1,(o.2+1)%4))
def jH(F:List a4)(o:aw×Nat):aw×Nat:=(if ew F o.1 (c4 o.1<|(o.2+3)%4)=V then (c4 o.1<|(o.2+3)%4,(o.2+1)%4) else (o.1,(o.2+3)%4))
def yx(F:List a4)(d:aw){q:Nat}(a:q<4):jH F (aI F (d,q))=(d,q):=by
 unfold aI;by_cases e:ew F d (c4 d q)=V
 ·rw[aJ e];rw[Jy]at e;have c:c4 (c4 d q) (((q+3)%4+3)%4)=d:=by
   match q,a with
   |0,_=>simp[c4]
   |1,_=>simp[c4]
   |2,_=>simp[c4]
   |3,_=>simp[c4]
  unfold jH;dsimp only;rw[c,aJ e];exact el rfl (by show ((q+3)%4+1)%4=q;omega)
 ·rw[aP e];have c:((q+1)%4+3)%4=q:=by omega
  unfold jH;dsimp only;rw[c,aP e]
def pE(F:List a4)(o:aw×Nat):(aI F o).2<4:=by
 unfold aI;split<;>exact vB _ ∅
structure dF(E:List aw):Prop where
 ne:E≠[]
 ah:E.Nodup
 len:E.length<=40
 lM:∀d∈E,0<=d.1/\d.1<=29/\0<=d.2/\d.2<=29
 par:∀g∈E,∀d∈E,(g.1-d.1)%2=0/\(g.2-d.2)%2=0
 con:∀o:aw->aw,(∀g∈E,∀d∈E,(d=(g.1,g.2+2)\/d=(g.1+2,g.2))->o g=o d)->∀g∈E,∀d∈E,o g=o d
def sH:n∈dW d↔(n.1=d.1\/n.1=d.1+1)/\(n.2=d.2\/n.2=d.2+1):=by
 let⟨f,t⟩:=n;let⟨J,u⟩:=d;simp only[dW,bO,gz,eT,ib];constructor
 ·lia
 ·lia
def wK(d:aw){q:Nat}(a:q<4):bR d q∈dW d:=by
 match q,a with
 |0,_=>simp[bR,dW]
 |1,_=>simp[bR,dW]
 |2,_=>simp[bR,dW]
 |3,_=>simp[bR,dW]
def N5(e:n∈dW d):∃q,q<4/\n=bR d q:=by
 simp only[dW,bO,gz,eT]at e;rcases e with e|e|e|e
 ·exact⟨0,by decide,e⟩
 ·exact⟨1,by decide,e⟩
 ·exact⟨2,by decide,e⟩
 ·exact⟨3,by decide,e⟩
def dF.one(V3:dF E){g d n:aw}(a:g∈E)(b:d∈E)(A:n∈dW g)(C:n∈dW d):g=d:=by
 have o:=V3.par g a d b;rw[sH]at A C;exact el (by omega) (by omega)
def Lr{q v:Nat}(a:q<4)(b:v<4)(e:bR d q=bR d v):q=v:=by
 let⟨f,t⟩:=d
 match q,a,v,b with
 |0,_,0,_=>rfl
 |1,_,1,_=>rfl
 |2,_,2,_=>rfl
 |3,_,3,_=>rfl
 |0,_,1,_|0,_,2,_|0,_,3,_|1,_,0,_|1,_,2,_|1,_,3,_|2,_,0,_|2,_,1,_|2,_,3,_|3,_,0,_|3,_,1,_|3,_,2,_=>
  simp only[bR,ib]at e;lia
def aF(m n:aw):aw:=((n.1-(n.1-m.1)%2,n.2-(n.2-m.2)%2))
def fz(m n:aw):Nat:=(if (n.1-m.1)%2=0 then (if (n.2-m.2)%2=0 then 0 else 1) else (if (n.2-m.2)%2=0 then 3 else 2))
def SY{m:aw}(A:(d.1-m.1)%2=0)(C:(d.2-m.2)%2=0){q:Nat}(a:q<4):aF m (bR d q)=d/\fz m (bR d q)=q:=by
 match q,a with
 |0,_=>
  refine⟨el ?_ ?_,?_⟩
  ·simp only[aF,bR];lia
  ·simp only[aF,bR];lia
  ·simp only[fz,bR];rw[aJ A,aJ C]
 |1,_=>
  refine⟨el ?_ ?_,?_⟩
  ·simp only[aF,bR];lia
  ·simp only[aF,bR];lia
  ·simp only[fz,bR];rw[aJ A,aP ⋯]
 |2,_=>
  refine⟨el ?_ ?_,?_⟩
  ·simp only[aF,bR];lia
  ·simp only[aF,bR];lia
  ·simp only[fz,bR];rw[aP ⋯,aP ⋯]
 |3,_=>
  refine⟨el ?_ ?_,?_⟩
  ·simp only[aF,bR];lia
  ·simp only[aF,bR];lia
  ·simp only[fz,bR];rw[aP ⋯,aJ C]
def es(o:aw×Nat):aw:=(bR o.1 o.2)
def eV(E:List aw)(c:a4):Prop:=(c.1∈E/\c.2∈E/\(c.2=(c.1.1,c.1.2+2)\/c.2=(c.1.1+2,c.1.2)))
def PJ(a:∀c∈F,eV E c){g d:aw}(e:ew F g d=V):g∈E/\d∈E:=by
 rcases e9 e with e|e
 ·exact⟨(a _ e).1,(a _ e).2.1⟩
 ·exact⟨(a _ e).2.1,(a _ e).1⟩
def JD(a:∀c∈F,eV E c){d:aw}(b:d∈E)(q:Nat):(aI F (d,q)).1∈E:=by
 unfold aI;split
 ·rename_i e;exact (PJ a e).2
 ·exact b
theorem r8{V7:Type}[DecidableEq V7]:∀{M H:List V7},M.Nodup->(∀f∈M,f∈H)->H.length<=M.length->M.Perm H
 |[],H,_,_,e=>by rw[List.length_eq_zero_iff.mp (Jl.mp e)]
 |f::M,H,ah,h,e=>by
  have b:=h f (.head _);let@⟨d,g⟩:=hN.mp ah;have o:=HT b;refine .trans (.cons f (r8 g (λt a=>(Az (λc=>d (by rw[<-c];exact a))).mpr<|h t<|.tail _ a) ?_)) o.symm;have:=o.length_eq;simp at this e;lia
def cells(E:List aw):List aw:=(E.flatMap dW)
def Eu:n∈cells E↔∃d∈E,∃q,q<4/\n=bR d q:=by
 unfold cells;rw[lZ];constructor
 ·rintro⟨d,a,e⟩;exact⟨d,a,N5 e⟩
 ·rintro⟨d,a,q,b,rfl⟩;exact⟨d,a,wK d b⟩
def IE(d:aw):(dW d).Nodup:=by
 let⟨f,t⟩:=d;simp[dW,hN];lia
theorem um{V7 WL:Type}{N:V7->List WL}:∀{M:List V7},M.Nodup->(∀g∈M,(N g).Nodup)->(∀g∈M,∀d∈M,∀f,f∈N g->f∈N d->g=d)->(M.flatMap N).Nodup
 |[],_,_,_=>by simp
 |g::M,ah,A,C=>by
  let@⟨e,h⟩:=hN.mp ah;rw[nc,dt];refine⟨A g<|.head _,um h (λd a=>A d<|.tail _ a)<|λd a n i=>C d (.tail _ a) n<|.tail _ i,λf j t b c=>?_⟩;let⟨@d,a,b⟩:=lZ.mp b;subst c;have:=C g (.head _) d (.tail _ a) f j b;subst this;exact e a
def dF.Fw(V3:dF E):(cells E).Nodup:=um V3.ah (λd W=>IE d) λg a d b f A C=>V3.one a b A C
theorem qN:∀E:List aw,(cells E).length=4*E.length
 |[]=>rfl
 |d::E=>by
  have:=qN E;unfold cells at *;rw[nc,d7,this];simp[dW];lia
def kS{V7 WL:Type}{N:V7->WL}{M:List V7}(ah:M.Nodup)(e:∀g∈M,∀d∈M,N g=N d->g=d):(M.map N).Nodup:=by
 unfold List.Nodup;rw[oF];exact N3 (λa b w c=>w<|e _ a _ b c) ah
end G
namespace L2
section
variable{k VK:a5}
variable{s:ak}
def aZ{L:aC ak}(e:L k=Z (s,k)):aa L k=Z (.cA s,k):=cC e
variable{f:bI}
def bX{L:aC bI}{e:aC (List bI)}{z:List bI}(a:L k=Z (f,k))(b:e k=Z (z,k)):aj L e k=Z (f::z,k):=di a b
variable{Wr:ak->ak->Option ak}{WD Wx:aC bI}{t:bI}{Wb Wl:ak}
def b7(a:WD k=Z (f,k))(b:Wx k=Z (t,k))(c:cY k f=Z Wb)(d:cY k t=Z Wl)(e:Wr Wb Wl=Z s):av Wr WD Wx k=Z (s,k):=d_ a b c d e
def dA(a:Wr Wb Wl=Z s)(b:WD k=Z (f,k):=by rfl)(c:Wx k=Z (t,k):=by rfl)(d:cY k f=Z Wb:=by rfl)(e:cY k t=Z Wl:=by rfl):av Wr WD Wx k=Z (s,k):=d_ b c d e a
variable{L:aC (List bI)}{VV:List bI}{B:List ak}
def er{Wr:List ak->Option ak}(a:L k=Z (VV,k))(b:ir k VV=Z B)(c:Wr B=Z s):bV Wr L k=Z (s,k):=nN a b c
variable{d:Bool}
def eD{L:aC ak}(c:L k=Z (.im<|.aF d,k)):bJ L k=Z (d,k):=sV c
def i7{L:aC bI}(c:L k=Z (f,k))(a:cY k f=Z s)(b:pN s=Z d):gy L k=Z (d,k):=R4 c a b
def mr(a:L k=Z (VV,k))(b:ek VV k=Z (B,k))(c:B.length<=100000)(q:rt B=s):c0 L k=Z (s,k):=rW a b c q
def FY(a:L k=Z (VV,k))(b:ek VV k=Z (B,k))(c:B.length<=100000)(q:r_ B=s):eI L k=Z (s,k):=tn a b c q
def u5{L:aC bI}{M e:aC (Option Int)}{E VF:Option Int}{a:ak}(b:L k=Z (f,k))(c:M k=Z (E,k))(d:e k=Z (VF,k))(g:cY k f=Z s)(h:kH s E VF=Z a):iE L M e k=Z (a,k):=vr b c d g h
def lz{b:Nat}{L:aC ak}(c:L k=Z (s,k))(e:b<k.length)(q:k.set b (Z s)=VK):cn b L k=Z (.aI,VK):=h7 c e q
end
end L2
namespace G
open L2
variable{F VG:List a4}{aE x E:List aw}{Wb O q H:Int}{n m d:aw}{o:aw->aw}{L:aC ak}{VK k:a5}{b w:Nat}{D B a Wv:Option ak}{V2:List Int}{e:ak}
def nH(f:gx (w+1) e)(a:0<H)(c:H<1073741824):∃u VB,gp [e,aL H]=Z (aL u,[VB,aL H])/\0<=u/\u<H/\gx w VB:=by
 let⟨s,h,@I,rfl,A,C,g,i,r⟩:=f;have v:¬ H=0:=⋯
 by_cases hd:0<s
 ·refine⟨s%H,hu (s/H) h I,?_,rx _ ⋯,wb _ a,s/H,h,I,rfl,Int.ediv_nonneg A ⋯,C,g,i,⋯⟩;unfold gp AA;have t:qH (aL s) (aL 0)=Z (.im<|.aF V):=congrArg (λd=>Z<|ak.im<|.aF d) (dJ hd);refine ix [Z (hu (s/H) h I),Z<|aL H,Z<|aL<|s%H] rfl (q0 ((nx<|eD<|b7 (aZ<|b7 (s:=aL s) rfl rfl rfl rfl rfl) rfl rfl rfl t).trans ((ej ((sW (b7 (aZ<|b7 (s:=aL s) rfl rfl rfl rfl rfl) rfl rfl rfl<|mc a) (show 2<3 by decide)).trans rfl)).trans<|(ej<|jv (Wf:=[Z (hu (s/H) h I),Z<|aL H,Z<|aL<|s%H]) (b7 (aZ<|b7 (s:=aL s) rfl rfl rfl rfl rfl) rfl rfl rfl<|I4 a c) rfl).trans rfl))) rfl
 ·obtain⟨VE,b⟩:∃VE:Int,VE=(h*48271+12345+7919*(I+1))%2147483647:=⟨_,rfl⟩;have j:0<=VE:=by rw[b];exact rx _ ∅
  have x:VE<2147483647:=by
   rw[b];exact wb _ ∅
  have k:gC h 48271=V:=mi ∅ ∅;have l:gC 7919 (I+1)=V:=yw ∅ ∅;have m:gC VE VE=V:=mi ⋯ ⋯;refine⟨VE*VE%1999999973/31%H,hu s VE<|I+1,?_,rx _ ⋯,wb _ a,s,VE,I+1,rfl,A,j,⋯,⋯,⋯⟩;unfold gp AA;have t:qH (aL s) (aL 0)=Z (.im<|.aF aq):=congrArg (λd=>Z<|ak.im<|.aF d) (eB hd);have n:av et (aa<|av a9 (ag 0)<|aa<|au<|.int 1) (aa<|au<|.int 48271) [Z (hu s h<|I+1),Z<|aL H,Y]=Z (aL<|h*48271,[Z (hu s h<|I+1),Z<|aL H,Y]):=b7 (aZ<|b7 (s:=aL h) rfl rfl rfl rfl rfl) rfl rfl rfl (iQ k);have o:av et (aa<|au<|.int 7919) (aa<|av a9 (ag 0)<|aa<|au<|.int 2) [Z (hu s h<|I+1),Z<|aL H,Y]=Z (aL<|7919*(I+1),[Z (hu s h<|I+1),Z<|aL H,Y]):=b7 rfl (aZ<|b7 (s:=aL (I+1)) rfl rfl rfl rfl rfl) rfl rfl (iQ l);have p:av f3 (aa<|av dp (aa<|av dp (aa<|av et (aa<|av a9 (ag 0)<|aa<|au<|.int 1)<|aa<|au<|.int 48271)<|aa<|au<|.int 12345)<|aa<|av et (aa<|au<|.int 7919)<|aa<|av a9 (ag 0)<|aa<|au<|.int 2) (aa<|au<|.int 2147483647) [Z (hu s h<|I+1),Z<|aL H,Y]=Z (aL VE,[Z (hu s h<|I+1),Z<|aL H,Y]):=by
   rw[b];exact b7 (aZ<|b7 (aZ<|b7 (aZ n) rfl rfl rfl rfl) (aZ o) rfl rfl rfl) rfl rfl rfl (mc ∅)
  have q:av et (aa<|av a9 (ag 0)<|aa<|au<|.int 1) (aa<|av a9 (ag 0)<|aa<|au<|.int 1) [Z (hu s VE<|I+1),Z<|aL H,Y]=Z (aL<|VE*VE,[Z (hu s VE<|I+1),Z<|aL H,Y]):=b7 (aZ<|b7 (s:=aL VE) rfl rfl rfl rfl rfl) (aZ<|b7 (s:=aL VE) rfl rfl rfl rfl rfl) rfl rfl (iQ m);exact ix [Z (hu s VE<|I+1),Z<|aL H,Y] rfl ((ej<|(qL<|eD<|b7 (aZ<|b7 (s:=aL s) rfl rfl rfl rfl rfl) rfl rfl rfl t).trans rfl).trans ((ej<|jv (Wf:=[Z (hu s h<|I+1),Z<|aL H,Y]) (b7 (s:=aL (I+1)) (aZ<|b7 (s:=aL I) rfl rfl rfl rfl rfl) rfl rfl rfl rfl) rfl).trans ((ej<|jv (Wf:=[Z (hu s VE<|I+1),Z<|aL H,Y]) p rfl).trans (dY (b7 (aZ (b7 (aZ (b7 (aZ q) rfl rfl rfl (mc ∅))) rfl rfl rfl (I4 ∅ ∅))) rfl rfl rfl<|mc a))))) rfl
def P9(b:0<=q):∃n,sy [.dE (V2.map .int),aL q]=Z (aL n,[.dE (V2.map .int),aL q]):=by
 by_cases a:q<(V2.length:Int)
 ·obtain⟨n,c⟩:∃n,V2[q.toNat]?=Z n:=⟨V2[q.toNat]'(by omega),by simp⟩;have e:e5 (V2.map ab.int) q=Z (.int n):=xU b (by rw[hb,c];rfl);have lt:n1 (aL q) (aL ((V2.map ab.int).length:Int))=Z (.im<|.aF V):=congrArg (λd=>Z<|ak.im<|.aF d) (dJ (by rw[bB];exact a));have f:a9 (.dE<|V2.map .int) (aL q)=Z (aL n):=congrArg (Option.map ak.im) e;unfold sy y7;exact⟨n,ix [Z (.dE<|V2.map .int),Z<|aL q] rfl (q0<|(nx<|eD<|b7 rfl (aZ<|er rfl rfl rfl) rfl rfl lt).trans<|dY<|dA f) rfl⟩
 ·have lt:n1 (aL q) (aL ((V2.map ab.int).length:Int))=Z (.im<|.aF aq):=congrArg (λd=>Z<|ak.im<|.aF d) (eB (by rw[bB];exact a));unfold sy y7;exact⟨0,ix [Z (.dE<|V2.map .int),Z<|aL q] rfl ((ej<|(qL<|eD<|b7 rfl (aZ<|er rfl rfl rfl) rfl rfl lt).trans rfl).trans rfl) rfl⟩
def JV(c:0<=q)(r:q<1000):∃e,rS [.dE (V2.map .int),aL q]=Z (e,[.dE (V2.map .int),aL q])/\gx 1000000 e:=by
 let⟨@n,g⟩:=P9 (V2:=V2) c;have i:gC 7919 q=V:=yw ∅ ∅;have j:gC (7919*q) q=V:=mi ⋯ ⋯;have k:gC (n%2147483629+7919*q*q+11) 48271=V:=mi ∅ ∅;obtain⟨h,VN⟩:∃h:Int,h=(n%2147483629+7919*q*q+11)*48271%2147483647:=⟨_,rfl⟩;have WN:0<=h:=by rw[VN];exact rx _ ∅
 have s:h<2147483647:=by rw[VN];exact wb _ ∅
 have l:gC (10^60) (10^60)=V:=by decide +kernel
 have Wo:gC (10^60*10^60) (10^60)=V:=by decide +kernel
 have m:∀(f:Int) (d:Bool),gC f (if d then 1 else 0)=V:=λf d=>mi (by cases d<;>decide) (by cases d<;>decide);have o:(0:Int)<10^60*10^60*10^60:=by decide
 have a:nX (aL 10) (aL 60)=Z (aL<|10^(60:Int).toNat):=A4 ∅;have b:nX (aL 10) (aL 18)=Z (aL<|10^(18:Int).toNat):=A4 ∅;rw[show (60:Int).toNat=60 from rfl]at a;rw[show (18:Int).toNat=18 from rfl]at b;have S:gx 1000000 (hu (n%(10^60*10^60*10^60)*(if decide ((10:Int)^18<=n) then 1 else 0)) h 0):=by
  have A:=rx n (show (10^60*10^60*10^60:Int)≠0 by decide);refine⟨_,_,_,rfl,?_,WN,⋯,lY 0,by decide⟩;split
  ·rw[IJ];exact A
  ·rw[Int.mul_zero];exact lY 0
 refine⟨_,?_,S⟩;generalize (10:Int)^60=VJ at *;generalize (10:Int)^18=VI at *;unfold rS Hv;have p:cn 4 (av f3 (aa<|av et (aa<|av dp (aa<|av dp (aa<|av f3 (ag 2)<|aa<|au<|.int 2147483629)<|aa<|av et (aa<|av et (aa<|au<|.int 7919)<|ag 1)<|ag 1)<|aa<|au<|.int 11)<|aa<|au<|.int 48271)<|aa<|au<|.int 2147483647) [Z (.dE<|V2.map .int),Z<|aL q,Z<|aL n,Z<|aL<|VJ*VJ*VJ,Y]=Z (.aI,[Z (.dE<|V2.map .int),Z<|aL q,Z<|aL n,Z<|aL<|VJ*VJ*VJ,Z<|aL h]):=by
  rw[VN];exact lz (b7 (aZ (b7 (aZ (b7 (aZ (b7 (aZ (dA (mc ∅))) (aZ<|b7 (aZ<|dA<|iQ i) rfl rfl rfl<|iQ j) rfl rfl rfl)) rfl rfl rfl rfl)) rfl rfl rfl<|iQ k)) rfl rfl rfl (mc ∅)) (show 4<5 by decide) rfl
 exact ff rfl (cW (h7 (g8 rfl rfl rfl g) (show 2<5 by decide) rfl) (cW (h7 (d_ (cC<|d_ (cC<|d_ rfl rfl rfl rfl a) (cC<|d_ rfl rfl rfl rfl a) rfl rfl<|iQ l) (cC<|d_ rfl rfl rfl rfl a) rfl rfl<|iQ Wo) (show 3<5 by decide) rfl)<|cW p<|dY<|tn (di (cC<|d_ (cC<|d_ rfl rfl rfl rfl<|mc o) (cC<|nN (di (cC<|d_ rfl (cC<|d_ rfl rfl rfl rfl b) rfl rfl rfl) rfl) rfl rfl) rfl rfl<|iQ<|m _ _) rfl) rfl (fu rfl) rfl)) rfl
def Ej{E:List (Int×Int)}{m:Int×Int}(e:E.length<100000):ha (aN E) [.im (ai m)]=Z (.im .aS,aN<|E++[m]):=by
 have:ha (aN E) [.im (ai m)]=Z (.im .aS,.lst<|E.map ai++[ai m]):=uk (by rw[bB];exact e);rw[this];simp
def z3(E:List (Int×Int)):eO [aN E]=Z (aL (E.length:Int)):=by
 show Z (aL ((E.map ai).length:Int))=_;rw[bB]
def tN(E:List (Int×Int)):eO [aT E]=Z (aL (E.length:Int)):=by
 show Z (aL ((E.map ai).length:Int))=_;rw[bB]
def GL{WD Wx WJ:aC bI}{f t i:bI}{g d n:Int}(b:WD k=Z (f,k))(c:Wx k=Z (t,k))(e:cY k f=Z (aL g))(a:cY k t=Z (aL d))(h:WJ k=Z (i,k))(j:cY k i=Z (aL n):=by rfl):bJ (gP fc fc WD Wx WJ) k=Z (decide (g<=d)&&decide (d<=n),k):=by
 unfold bJ gP;rw[b];show ((Wx k).bind _).bind _=_;rw[c];show ((cY k f).bind _).bind _=_;rw[e];show ((cY k t).bind _).bind _=_;rw[a];show ((if decide (g<=d)=V then _ else _):Option (ak×a5)).bind _=_;cases decide (g<=d) with
 |false=>rfl
 |true=>
  rw[aJ rfl];show ((WJ k).bind _).bind _=_;rw[h];show ((cY k t).bind _).bind _=_;rw[a];show ((cY k i).bind _).bind _=_;rw[j];rfl
structure ob(H:Int)(E:List aw):Prop where
 ne:E≠[]
 ah:E.Nodup
 len:(E.length:Int)<=H
 lM:∀d∈E,0<=d.1/\d.1<=29/\0<=d.2/\d.2<=29
 par:∀g∈E,∀d∈E,(g.1-d.1)%2=0/\(g.2-d.2)%2=0
 con:∀o:aw->aw,(∀g∈E,∀d∈E,(d=(g.1,g.2+2)\/d=(g.1+2,g.2))->o g=o d)->∀g∈E,∀d∈E,o g=o d
def ti:List aw:=([(0,2),(2,0),(0,-2),(-2,0)])
def ob.add{H:Int}{E:List aw}(L:ob H E){n s:aw}(l:n∈E)(hd:s∈ti)(p:(n.1+s.1,n.2+s.2)∉E)(w:(E.length:Int)<H)(q:0<=n.1+s.1/\n.1+s.1<=29/\0<=n.2+s.2/\n.2+s.2<=29):ob H (E++[(n.1+s.1,n.2+s.2)]):=by
 have Wl:s.1%2=0/\s.2%2=0:=by
  simp only[ti,bO,gz,eT]at hd;rcases hd with e|e|e|e<;>subst e<;>exact⟨by decide,by decide⟩
 refine⟨by simp,dt.mpr ⟨L.ah,fN _ _,λf b t r c=>p (by rw[cH.mp r]at c;rw[<-c];exact b)⟩,by simp;lia,λd a=>?_,λg h d a=>?_,λo i g h d a=>?_⟩
 ·rcases dy.mp a with e|e
  ·exact L.lM d e
  ·rw[cH.mp e];exact q
 ·have S:∀f∈E,(f.1-(n.1+s.1))%2=0/\(f.2-(n.2+s.2))%2=0:=λf b=>by
   have:=L.par f b n l;exact⟨⋯,⋯⟩
  rcases dy.mp h with A|A<;>rcases dy.mp a with C|C
  ·exact L.par g A d C
  ·rw[cH.mp C];exact S g A
  ·rw[cH.mp A];have:=S d C;exact⟨by show ((n.1+s.1)-d.1)%2=0;lia,by show ((n.2+s.2)-d.2)%2=0;lia⟩
  ·rw[cH.mp A,cH.mp C];exact⟨by simp,by simp⟩
 ·have u:=L.con o λg h d a=>i g (eL _ h) d (eL _ a);have j:n∈E++[(n.1+s.1,n.2+s.2)]:=eL _ l;have k:(n.1+s.1,n.2+s.2)∈E++[(n.1+s.1,n.2+s.2)]:=ez _ (.head _);have v:o n=o (n.1+s.1,n.2+s.2):=by
   simp only[ti,bO,gz,eT]at hd;rcases hd with e|e|e|e
   ·subst e;exact i _ j _ k (.inl (el ↥0 ↥0))
   ·subst e;exact i _ j _ k (.inr (el ↥0 ↥0))
   ·subst e;exact (i _ k _ j (.inl (el ↥0 (by simp;lia)))).symm
   ·subst e;exact (i _ k _ j (.inr (el (by simp;lia) ↥0))).symm
  have m:∀f∈E++[(n.1+s.1,n.2+s.2)],o f=o n:=λf b=>by
   rcases dy.mp b with e|e
   ·exact u f e n l
   ·rw[cH.mp e];exact v.symm
  rw[m g h,m d a]
abbrev i3(e:ak)(H:Int)(E:List aw)(q Wt Wv a B D:Option ak):a5:=[Z e,Z<|aL H,Z<|aN E,q,Wt,Wv,a,B,D]
def Qx{q Wt:Option ak}(j:gx (w+3) e)(L:ob H E)(db:H<=40):
  ∃VB x U al am an ap,tY (i3 e H E q Wt Wv a B D)=Z (.aI,i3 VB H x q U al am an ap)/\gx w VB/\ob H x:=by
 have ds:=mH.mpr L.ne;have dL:=L.len;let⟨y,@A,as,a1,eq,VL⟩:=nH (w:=w+2) (H:=(E.length:Int)) j ⋯ ⋯;obtain⟨f,z⟩:∃n,E[y.toNat]?=Z n:=⟨E[y.toNat]'⋯,by simp⟩;let⟨l,@C,F,aU,aV,V0⟩:=nH (w:=w+1) (H:=3) VL ⋯ ⋯;let⟨h,@ev,a2,Wb,Wl,u⟩:=nH (w:=w) (H:=4) V0 ⋯ ⋯;obtain⟨s,hd⟩:∃s,ti[h.toNat]?=Z s:=⟨ti[h.toNat]'(by show h.toNat<4;lia),by simp⟩;have bd:=uW a1 z;have be:=uW Wb hd;let⟨I,@M,rfl⟩:=Pb L.ne;have bi:e5 ((I++[M]).map ai) (-1)=Z (ai M):=II ↥0;let⟨@bm,rfl⟩:=j.lst;let⟨@J,rfl⟩:=VL.lst;let⟨@N,rfl⟩:=V0.lst;let⟨@g,rfl⟩:=u.lst;generalize bn:I++[M]=E at *;have O:fP (av a9 (ag 2)<|aa<|bf 2 G.gp<|aj (ag 0)<|aj (aa<|bV eO<|aj (ag 2) ay) ay) (e_ 2<|c3 (br 4)<|c3 (br 5) fj) (i3 (.lst bm) H E q Wt Wv a B D)=Z (.aI,i3 (.lst J) H E q (Z<|aL f.1) (Z<|aL f.2) a B D):=by
  exact jv (d_ rfl (cC<|g8 (di rfl<|di (cC<|nN rfl rfl<|z3 E) rfl) rfl rfl as) rfl rfl<|congrArg (Option.map ak.im) bd) rfl
 obtain⟨n,bs,P⟩:∃n∈E,ee (bJ<|av eN (aa<|bf 2 G.gp<|aj (ag 0)<|aj (aa<|au<|.int 3) ay)<|aa<|au<|.int 0) (fP (av a9 (ag 2)<|aa<|lb<|au<|.int 1)<|e_ 2<|c3 (br 4)<|c3 (br 5) fj) fa (i3 (.lst J) H E q (Z<|aL f.1) (Z<|aL f.2) a B D)=Z (.aI,i3 (.lst N) H E q (Z<|aL n.1) (Z<|aL n.2) a B D):=by
  by_cases Q:l=0
  ·have p:=qx l 0;rw[dJ Q]at p;exact⟨M,by rw[<-bn];simp,pw (sV<|d_ (cC<|g8 rfl rfl rfl F) rfl rfl rfl p)<|jv (d_ rfl (cC<|Iw rfl) rfl rfl<|congrArg (Option.map ak.im) bi) rfl⟩
  ·have p:=qx l 0;rw[eB Q]at p;exact⟨f,jJ z,il (sV<|d_ (cC<|g8 rfl rfl rfl F) rfl rfl rfl p) rfl⟩
 have R:fP (av a9 (aa<|eI<|aj (aa<|c0<|aj (aa<|au<|.int 0)<|aj (aa<|au<|.int 2) ay)<|aj (aa<|c0<|aj (aa<|au<|.int 2)<|aj (aa<|au<|.int 0) ay)<|aj (aa<|c0<|aj (aa<|au<|.int 0)<|aj (aa<|lb<|au<|.int 2) ay)<|aj (aa<|c0<|aj (aa<|lb<|au<|.int 2)<|aj (aa<|au<|.int 0) ay) ay)<|aa<|bf 2 G.gp<|aj (ag 0)<|aj (aa<|au<|.int 4) ay) (e_ 2<|c3 (br 6)<|c3 (br 7) fj) (i3 (.lst N) H E q (Z<|aL n.1) (Z<|aL n.2) a B D)=Z (.aI,i3 (.lst g) H E q (Z<|aL n.1) (Z<|aL n.2) (Z<|aL s.1) (Z<|aL s.2) D):=by
  have bv:e5 [ab.tup [.int 0,.int 2],.tup [.int 2,.int 0],.tup [.int 0,.int<|-2],.tup [.int (-2),.int 0]] h=Z (.tup [.int s.1,.int s.2]):=be;exact jv (d_ rfl (cC<|g8 rfl rfl rfl a2) rfl rfl<|congrArg (Option.map ak.im) bv) rfl
 obtain⟨m,v⟩:∃m:aw,m=(n.1+s.1,n.2+s.2):=⟨_,rfl⟩;obtain⟨k,b⟩:∃k:a5,k=i3 (.lst g) H E q (Z<|aL n.1) (Z<|aL n.2) (Z<|aL s.1) (Z<|aL s.2) (Z<|.im<|ai m):=⟨_,rfl⟩;have T:cn 8 (c0<|aj (aa<|av dp (ag 4)<|ag 6)<|aj (aa<|av dp (ag 5)<|ag 7) ay) (i3 (.lst g) H E q (Z<|aL n.1) (Z<|aL n.2) (Z<|aL s.1) (Z<|aL s.2) D)=Z (.aI,k):=by
  rw[b,v];rfl
 have ca:=Jm E m;have ex:=RP m;have fd:=MT m;have cd:bJ (av ml (ag 8)<|ag 2) k=Z (!decide (m∈E),k):=by
  rw[b];show (((hW (ai m)<|aN E).map λr=>ak.im<|.aF<|!r).map λs=>(s,_)).bind (λo=>(mU o.1).map λd=>(d,o.2))=_;rw[ca];rfl
 have ce:bJ (gP fc fc (aa<|au<|.int 0) (aa<|av a9 (ag 8)<|aa<|au<|.int 0)<|aa<|au<|.int 29) k=Z (decide (0<=m.1)&&decide (m.1<=29),k):=by
  rw[b];exact GL rfl rfl rfl rfl rfl
 have ch:bJ (gP fc fc (aa<|au<|.int 0) (aa<|av a9 (ag 8)<|aa<|au<|.int 1)<|aa<|au<|.int 29) k=Z (decide (0<=m.2)&&decide (m.2<=29),k):=by
  rw[b];exact GL rfl rfl rfl rfl rfl
 have ci:bJ (av n1 (aa<|bV eO<|aj (ag 2) ay)<|ag 1) k=Z (decide ((E.length:Int)<H),k):=by
  rw[b];exact eD (b7 (aZ<|er rfl rfl<|z3 E) rfl rfl rfl rfl)
 have fin:∀d:Bool,d=(!decide (m∈E)&&(decide ((E.length:Int)<H)&&((decide (0<=m.1)&&decide (m.1<=29))&&(decide (0<=m.2)&&decide (m.2<=29)))))->
   e1 (bJ<|av ml (ag 8)<|ag 2) (e1 (bJ<|av n1 (aa<|bV eO<|aj (ag 2) ay)<|ag 1)<|e1 (bJ<|gP fc fc (aa<|au<|.int 0) (aa<|av a9 (ag 8)<|aa<|au<|.int 0)<|aa<|au<|.int 29)<|bJ<|gP fc fc (aa<|au<|.int 0) (aa<|av a9 (ag 8)<|aa<|au<|.int 1)<|aa<|au<|.int 29) k=Z (d,k):=by
  intro d cl;rw[cl];simp -implicitDefEqProofs only[e1,cd,ce,ch,ci,qP];generalize (decide (0<=m.1)&&decide (m.1<=29))=t;generalize (decide (0<=m.2)&&decide (m.2<=29))=i;cases decide (m∈E)<;>cases decide ((E.length:Int)<H)<;>cases t<;>rfl
 unfold tY;by_cases c:m∉E/\(E.length:Int)<H/\0<=m.1/\m.1<=29/\0<=m.2/\m.2<=29
 ·have co:=fin V (by simp[c]);refine⟨.lst g,E++[m],Z<|aL n.1,Z<|aL n.2,Z<|aL s.1,Z<|aL s.2,Z<|.im<|ai m,(ej O).trans<|(ej P).trans<|(ej R).trans<|(ej T).trans<|(nx co).trans ?_,u,?_⟩
  ·have cr:E.length<100000:=⋯
   rw[b];exact lg (j7 rfl rfl rfl rfl rfl (Ej cr) rfl)
  ·rw[v];rw[v]at c;exact L.add bs (jJ hd) c.1 c.2.1 c.2.2
 ·have cs:=fin aq (by
   cases i:(!decide (m∈E)&&(decide ((E.length:Int)<H)&&((decide (0<=m.1)&&decide (m.1<=29))&&(decide (0<=m.2)&&decide (m.2<=29))))) with
   |false=>rfl
   |true=>
    simp at i;exact absurd ⟨i.1,⋯,i.2.2.1.1,i.2.2.1.2,i.2.2.2.1,i.2.2.2.2⟩ c)
  exact⟨.lst g,E,Z<|aL n.1,Z<|aL n.2,Z<|aL s.1,Z<|aL s.2,Z<|.im<|ai m,(ej O).trans ((ej P).trans ((ej R).trans ((ej T).trans ((qL cs).trans (by rw[b];rfl))))),u,L⟩
def kI{g:aw}:a7 (ai g) (ai d)=V↔g.1<d.1\/(g.1=d.1/\g.2<d.2):=by
 let⟨f,t⟩:=g;let⟨J,u⟩:=d;show (if ab.beq (.int f) (.int J)=V then (if ab.beq (.int t) (.int u)=V then aq else decide (t<u)) else decide (f<J))=V↔_;have c:∀b v:Int,ab.beq (.int b) (.int v)=decide (b=v):=λb v=>by
  show (b==v)=_;by_cases e:b=v<;>simp[e]
 rw[c,c];by_cases A:f=J<;>by_cases C:t=u<;>simp[A,C]
def fK(M:List aw):Prop:=((M.map ai).Pairwise (λg d=>a7 g d=V))
def we{VG:List aw}(ah:VG.Nodup)(c:VG.length<=1000):∃x:List aw,x.Perm VG/\gE (VG.map ai)=Z (aN x)/\fK x:=by
 have a:=rJ ah c;let⟨@x,Wa,b⟩:=E5 (iL<|VG.map ai);refine⟨x,Wa,?_,?_⟩
 ·unfold gE;rw[aJ (mw.mpr a),b]
 ·unfold fK;rw[<-b];exact oT a.1.3 a.1.2
def Dh{VG:List aw}(o:x.Perm VG)(r:fK x)(b:VG.length<=1000)(ah:VG.Nodup):gE (VG.map ai)=Z (aN x):=by
 have a:=rJ ah b;unfold gE;rw[aJ (mw.mpr a),<-AU a.1 (o.map ai) r]
theorem rT:∀{f:List ab},(∀s∈f,∃r,s=.tup r)->eM [.lst f]=gE f
 |[],_=>rfl
 |s::f,e=>by
  let⟨@r,rfl⟩:=e s (.head _);rfl
def EI{VG:List aw}(a:k[b]?=Z (Z<|aN VG))(e:gE (VG.map ai)=Z (aN x)):bV eM (aj (ag b) ay) k=Z (aN x,k):=by
 have c:eM [aN VG]=Z (aN x):=by
  rw[rT,e];intro s hd;let⟨@n,W,rfl⟩:=dK.mp hd;exact⟨_,rfl⟩
 simp -implicitDefEqProofs only[bV,aj,ag,tQ,a,qP,rz,uz,vV,Bq,rH,c]
def vQ{f:List ab}(e:L k=Z (.lst f,VK)):bV iH (aj (aa L) ay) k=Z (.im<|.tup f,VK):=by
 simp -implicitDefEqProofs only[bV,aj,aa,tQ,e,qP,rz,uz,vV,Cu,iH,gG]
def Rg(j:gx (w+1000) e):∃VB E,ro [e]=Z (aN E,[VB])/\gx w VB/\dF E/\fK E:=by
 let⟨m,@WE,J,cd,ce,W8⟩:=nH (w:=w+999) (H:=4) j ⋯ ⋯;obtain⟨y,M,dD,du⟩:∃y:Int,e5 [ab.int 3,.int 8,.int 14,.int 40] m=Z (.int y)/\0<y/\y<=40:=by
  have:m=0\/m=1\/m=2\/m=3:=⋯
  rcases this with rfl|rfl|rfl|rfl
  ·exact⟨3,rfl,by decide,by decide⟩
  ·exact⟨8,rfl,by decide,by decide⟩
  ·exact⟨14,rfl,by decide,by decide⟩
  ·exact⟨40,rfl,by decide,by decide⟩
 let⟨N,@A,O,aU,aV,VL⟩:=nH (w:=w+998) (H:=y) W8 dD ⋯;let⟨n,@C,P,R,ch,V0⟩:=nH (w:=w+997) (H:=30) VL ⋯ ⋯;let⟨r,@v,T,Wb,Wl,F⟩:=nH (w:=w+996) (H:=30) V0 ⋯ ⋯;obtain⟨H,al⟩:∃H:Int,H=1+N:=⟨_,rfl⟩;have am:ob H [(n,r)]:=⟨by simp,by simp,by simp;lia,λd h=>by rw[cH.mp h];exact⟨R,by show n<=29;lia,Wb,by show r<=29;lia⟩,λg l d h=>by rw[cH.mp h,cH.mp l];exact⟨by simp,by simp⟩,λo W g l d h=>by rw[cH.mp h,cH.mp l]⟩;let⟨@VW,an,⟨ap,E,s,Wt,Wv,a,B,@D,rfl,u,L⟩⟩:=z1 (Wh:=br 3) (d:=tY) (z:=iD 0 (3*H).toNat) (λb k=>∃e E s Wt Wv a B D,k=i3 e H E s Wt Wv a B D/\gx (w+996-3*b) e/\ob H E) (k:=i3 v H [(n,r)] Y Y Y Y Y Y) ⟨v,[(n,r)],Y,Y,Y,Y,Y,Y,rfl,F,am⟩
  (λb f k as a1=>by
   let⟨e,E,s,Wt,Wv,a,B,@D,rfl,a2,L⟩:=a1;have VF:b<(3*H).toNat:=by
    have:=(fY.mp as).1
    rwa [iD,bB,ky]at this
   let⟨VB,bd,ci,cl,co,cr,@cs,c,Q,be⟩:=Qx (w:=w+996-3*(b+1)) (q:=Z (.im f)) (Wt:=Wt) (Wv:=Wv) (a:=a) (B:=B) (D:=D) (a2.mono ⋯) L ⋯;exact⟨i3 e H E (Z<|.im f) Wt Wv a B D,.aI,_,rfl,c,.inl rfl,VB,bd,_,_,_,_,_,_,rfl,Q,be⟩)
 have bi:(iD 0 (3*H).toNat).length=(3*H).toNat:=by rw[iD,bB,ky]
 rw[bi]at u;have db:=L.len;let⟨@x,Wa,U,t⟩:=we L.ah ⋯;refine⟨ap,x,?_,u.mono ⋯,⟨λi=>?_,Wa.nodup_iff.mpr L.ah,by rw[Wa.length_eq];lia,λd h=>L.lM d<|Wa.mem_iff.mp h,λg l d h=>L.par g (Wa.mem_iff.mp l) d<|Wa.mem_iff.mp h,λo bm g l d h=>L.con o (λg l d h=>bm g (Wa.mem_iff.mpr l) d<|Wa.mem_iff.mpr h) g (Wa.mem_iff.mp l) d<|Wa.mem_iff.mp h⟩,t⟩
 ·let⟨@p,rfl⟩:=j.lst;let⟨@ds,rfl⟩:=W8.lst;let⟨@I,rfl⟩:=VL.lst;let⟨@dL,rfl⟩:=V0.lst;let⟨@bn,rfl⟩:=F.lst;let⟨@eq,rfl⟩:=u.lst;have bs:sI (3*H):=⟨⋯,⋯⟩;have mk:gC 3 H=V:=yw ∅ ∅;have bv:cn 1 (av dp (aa<|au<|.int 1)<|aa<|bf 2 G.gp<|aj (ag 0)<|aj (aa<|av a9 (aa<|eI<|aj (aa<|au<|.int 3)<|aj (aa<|au<|.int 8)<|aj (aa<|au<|.int 14)<|aj (aa<|au<|.int 40) ay)<|aa<|bf 2 G.gp<|aj (ag 0)<|aj (aa<|au<|.int 4) ay) ay) [Z (.lst p),Y,Y,Y,Y,Y,Y,Y,Y]=Z (.aI,[Z (.lst I),Z<|aL H,Y,Y,Y,Y,Y,Y,Y]):=by
   rw[al];exact h7 (d_ rfl (cC<|g8 (di rfl<|di (cC<|d_ (cC<|tn rfl rfl (fu rfl) rfl) (cC<|g8 rfl rfl rfl J) rfl rfl<|congrArg (Option.map ak.im) M) rfl) rfl rfl O) rfl rfl rfl) (show 1<9 by decide) rfl
  have ca:cn 2 (eI<|aj (aa<|c0<|aj (aa<|bf 2 G.gp<|aj (ag 0)<|aj (aa<|au<|.int 30) ay)<|aj (aa<|bf 2 G.gp<|aj (ag 0)<|aj (aa<|au<|.int 30) ay) ay) ay) [Z (.lst I),Z<|aL H,Y,Y,Y,Y,Y,Y,Y]=Z (.aI,i3 (.lst bn) H [(n,r)] Y Y Y Y Y Y):=
   h7 (tn (di (cC<|rW (di (cC<|g8 rfl rfl rfl P)<|di (cC<|g8 rfl rfl rfl T) rfl) rfl (fu rfl) rfl) rfl) rfl (fu rfl) rfl) (show 2<9 by decide) rfl;unfold ro Er;exact ff rfl (cW bv<|cW ca<|cW (jC (zX (bX (aZ<|dA<|iQ mk) rfl) rfl bs) an rfl)<|dY<|EI rfl U) rfl
 ·subst i;have:=Wa.length_eq;have A:=mH.mpr L.ne;simp at this;lia
def Jz(d:aw):q2 [.im (ai d)]=Z (aN<|dW d,[.im (ai d)]):=by
 unfold q2 IT;exact ix [Z (.im<|ai d),Z<|aL d.1,Z<|aL d.2] rfl rfl rfl
theorem Bs:∀(E done:List aw) (l a:Option ak),4*(done.length+E.length)<=1000->∃b,ed (br 2) vq (E.map ai) [l,Z<|aN<|cells done,a]=Z (.aI,[l,Z<|aN<|cells<|done++E,b])
 |[],done,l,a,_=>⟨a,by rw[cj];rfl⟩
 |d::E,done,l,a,e=>by
  rw[dV]at e;let⟨@b,f⟩:=Bs E (done++[d]) l (Z<|.im<|ai d) (by rw[d7,ko];lia);refine⟨b,?_⟩;have c:=Jz d;have bR:=qN done;have g:(cells done).length+4<=100000:=⋯
  have h:(cells done).map ai++(dW d).map ai=(cells<|done++[d]).map ai:=by
   unfold cells;rw[List.flatMap_append];simp
  have i:(cells done).length+(dW d).length<=100000:=g;rw[cS,ed];dsimp only;rw[show br 2 (.im<|ai d) [l,Z<|aN<|cells done,a]=Z [l,Z<|aN<|cells done,Z<|.im<|ai d] from rfl];show (vq _).bind _=_;have j:nu (aN<|cells done) [aN (dW d)]=Z (.im .aS,aN<|cells<|done++[d]):=by
   show _=Z (ak.im .aS,ak.lst<|(cells<|done++[d]).map ai);rw[<-h];exact aJ (by rw[bB,bB];exact i)
  rw[show vq [l,Z<|aN<|cells done,Z<|.im<|ai d]=Z (.aI,[l,Z<|aN<|cells<|done++[d],Z<|.im<|ai d]) from lg (j7 rfl rfl (di (cC<|g8 rfl rfl rfl c) rfl) rfl rfl j (by rfl))];rw[show done++d::E=done++[d]++E by simp];exact f
def TG(V3:dF E):∃aE,ig [aN E]=Z (aT aE,[aN E])/\aE.Perm (cells E)/\fK aE:=by
 have d:=V3.len;have bR:=qN E;let⟨@a,c⟩:=Bs E [] (Z<|.dS) Y (by simp;lia);let⟨@aE,Wa,U,t⟩:=we V3.Fw ⋯;refine⟨aE,?_,Wa,t⟩;unfold ig ED;refine ix [Z (aN E),Z<|aN<|cells E,a] rfl ((ej (VK:=[Z (aN E),Z<|aN<|cells [],Y]) rfl).trans<|(ej<|(Gi (m:=Z (0,aN E)) (z:=E.map ai) (VK:=[Z .dS,Z<|aN<|cells [],Y]) rfl c).trans rfl).trans<|dY ?_) rfl;exact vQ (EI (k:=[Z (aN E),Z<|aN<|cells E,a]) (b:=1) rfl U)
def aQ(c:a4):ab:=(.tup (ic c))
abbrev bh(U:List a4):ak:=.lst (U.map aQ)
def rG:ab->a4
 |.tup [g,d]=>(pd g,pd d)
 |_=>((0,0),(0,0))
def vA(c:a4):rG (aQ c)=c:=rfl
def G0{g d:a4}(e:aQ g=aQ d):g=d:=by rw[<-vA g,e,vA]
theorem Ff:∀(M:List ab) (VG:List a4),(∀f∈M,f∈VG.map aQ)->M=(M.map rG).map aQ
 |[],_,_=>rfl
 |f::M,VG,e=>by
  let⟨@o,W,c⟩:=dK.mp (e f<|.head _);rw[cS,cS,<-Ff M VG λt a=>e t<|.tail _ a,<-c,vA]
def GQ{M:List ab}(e:M.Perm (VG.map aQ)):∃x:List a4,x.Perm VG/\M=x.map aQ:=by
 refine⟨M.map rG,?_,Ff M VG λf a=>e.mem_iff.mp a⟩;have:=yf rG e;rw[f5]at this;have c:(rG ∘ aQ:a4->a4)=id:=funext vA;rw[c,zd]at this;exact this
def xA(ah:VG.Nodup)(a:VG.length<=1000):o8 (VG.map aQ):=by
 refine⟨⟨by rw[bB];exact a,λg b d e=>?_,?_⟩,.inr λs hd=>?_⟩
 ·let⟨@f,W,rfl⟩:=dK.mp b;let⟨@t,W,rfl⟩:=dK.mp e;rfl
 ·exact IX aQ (λg d w c=>w<|G0 c) ah
 ·let⟨@f,W,rfl⟩:=dK.mp hd;rfl
def Cy(ah:VG.Nodup)(e:VG.length<=1000)(f:k[b]?=Z (Z<|bh VG)):∃x:List a4,x.Perm VG/\bV eM (aj (ag b) ay) k=Z (bh x,k)/\(x.map aQ).Pairwise (λg d=>a7 g d=V):=by
 have a:=xA ah e;let⟨@x,Wa,c⟩:=GQ (iL<|VG.map aQ);refine⟨x,Wa,?_,by rw[<-c];exact oT a.1.3 a.1.2⟩;have h:eM [bh VG]=Z (bh x):=by
  rw[rT]
  ·unfold gE;rw[aJ (mw.mpr a),c]
  ·intro s hd;let⟨@n,W,rfl⟩:=dK.mp hd;exact⟨_,rfl⟩
 simp -implicitDefEqProofs only[bV,aj,ag,tQ,f,qP,rz,uz,vV,Bq,rH,h]
def TB(ah:VG.Nodup)(a:VG.length<=1000)(c:k[b]?=Z (Z<|bh VG)):∃x:List a4,x.Perm VG/\bV eM (aj (ag b) ay) k=Z (bh x,k):=by
 let⟨@x,A,C,W⟩:=Cy ah a c;exact⟨x,A,C⟩
def fo(E:List aw)(d:aw):List a4:=(([(d.1,d.2+2),(d.1+2,d.2)].filter λm=>decide (m∈E)).map λm=>(d,m))
def dP(E:List aw):List a4:=(E.flatMap (fo E))
def kh{c:a4}:c∈dP E↔eV E c:=by
 unfold dP fo eV;simp only[lZ,dK,zB,bO,gz,eT,uF];constructor
 ·rintro⟨d,a,m,⟨b,C⟩,rfl⟩;exact⟨a,C,b⟩
 ·rintro⟨A,C,e⟩;exact⟨c.1,A,c.2,⟨e,C⟩,rfl⟩
def sF(E:List aw)(d:aw):(fo E d).length<=2:=by
 unfold fo;rw[bB];exact List.length_filter_le _ _
theorem sP(E:List aw):∀M:List aw,(M.flatMap<|fo E).length<=2*M.length
 |[]=>bT _
 |d::M=>by
  rw[nc,d7,dV];have:=sP E M;have:=sF E d;lia
def xm(ah:E.Nodup):(dP E).Nodup:=by
 refine um ah (λd W=>?_) λg W d W f A C=>?_
 ·unfold fo;refine kS (RM _ ?_) λg W d W c=>by injection c
  simp;lia
 ·unfold fo at A C;let⟨@m,W,rfl⟩:=dK.mp A;let⟨@Wj,W,c⟩:=dK.mp C;injection c with a b;exact a.symm
def Lv{VQ:List a4}(f:VQ.length<=1000):rl [Z (aN E),Z<|bh VQ,Z<|aL d.1,Z<|aL d.2]=Z (.aI,[Z (aN E),Z<|bh<|VQ++fo E d,Z<|aL d.1,Z<|aL d.2]):=by
 have a:dg 1 [0,2,3] (dn<|aa<|eI<|aj (aa<|c0<|aj (ag 2)<|aj (aa<|av dp (ag 3)<|aa<|au<|.int 2) ay)<|aj (aa<|c0<|aj (aa<|av dp (ag 2)<|aa<|au<|.int 2)<|aj (ag 3) ay) ay) (br 0) G.Ck G.EO [Z (aN E),Z<|bh VQ,Z<|aL d.1,Z<|aL d.2]=Z (bh<|fo E d,[Z (aN E),Z<|bh VQ,Z<|aL d.1,Z<|aL d.2]):=by
  refine (oO (z:=[(d.1,d.2+2),(d.1+2,d.2)].map ai) (m:=Y) (VK:=[Z (aN E),Z<|bh VQ,Z<|aL d.1,Z<|aL d.2]) ?_ (q4 _ (λm=>decide (m∈E)) (λm=>aQ (d,m)) [(d.1,d.2+2),(d.1+2,d.2)] [] (λm g=>?_) (by show 0+2<=100000;decide))).trans ?_
  ·rfl
  ·refine⟨[Z (.im<|ai m),Z<|aN E,Z<|aL d.1,Z<|aL d.2],[Z (.im<|ai m),Z<|aN E,Z<|aL d.1,Z<|aL d.2],rfl,?_,λ_=>rfl,λ_=>⟨_,rfl,rfl⟩⟩;have b:=Jm E m;show (((hW (ai m)<|aN E).map λr=>ak.im<|.aF r).map λs=>(s,_)).bind (λo=>(mU o.1).map λd=>(d,o.2))=_;rw[b];rfl
  ·show Z (ak.lst _,_)=Z (ak.lst<|(fo E d).map aQ,_);unfold fo;rw[f5];rfl
 have bA:=sF E d;have c:(VQ.map aQ).length+((fo E d).map aQ).length<=100000:=by rw[bB,bB];lia
 have e:nu (bh VQ) [bh (fo E d)]=Z (.im .aS,bh<|VQ++fo E d):=by
  show (if _ then _ else _)=_;rw[aJ c,<-fM]
 unfold rl;exact lg (j7 rfl rfl (bX (aZ a) rfl) rfl rfl e rfl)
def HE(E:List aw)(r:a5):pf (Z (aN E)::r) 0 (E.map ai)=V:=by
 unfold pf;simp
theorem B3{E:List aw}:∀(a:List aw) (VQ:List a4) (b c:Option ak),VQ.length+2*a.length<=1000->∃Wo e,lx 0 (E.map ai) (e_ 2<|c3 (br 2)<|c3 (br 3) fj) rl (a.map ai) [Z (aN E),Z<|bh VQ,b,c]=Z (.aI,[Z (aN E),Z<|bh<|VQ++a.flatMap (fo E),Wo,e])
 |[],VQ,b,c,_=>⟨b,c,by
  rw[vz,lx];dsimp only;rw[aJ (HE E _),DV,cj]⟩
 |d::a,VQ,b,c,f=>by
  rw[dV]at f;have bA:=sF E d;let⟨Wo,e,g⟩:=B3 a (VQ++fo E d) (Z<|aL d.1) (Z<|aL d.2) (by rw[d7];lia);refine⟨Wo,e,?_⟩;rw[cS,lx];dsimp only;rw[aJ (HE E _),show e_ 2 (c3 (br 2)<|c3 (br 3) fj) (.im<|ai d) [Z (aN E),Z<|bh VQ,b,c]=Z [Z (aN E),Z<|bh VQ,Z<|aL d.1,Z<|aL d.2] from rfl];show (rl _).bind _=_;rw[Lv ⋯,nc,<-bz];exact g
def L1(V3:dF E):∃VQ,sl [aN E]=Z (bh VQ,[aN E])/\VQ.Perm (dP E):=by
 have e:=V3.len;have bA:=sP E E;let⟨Wo,@a,d⟩:=B3 (E:=E) E [] Y Y (by simp;lia);rw[k7]at d;let⟨@VQ,Wa,c⟩:=TB (k:=[Z (aN E),Z<|bh<|dP E,Wo,a]) (b:=1) (xm V3.ah) (by show (E.flatMap<|fo E).length<=1000;lia) rfl;refine⟨VQ,?_,Wa⟩;unfold sl EV;exact ix [Z (aN E),Z<|bh<|dP E,Wo,a] rfl ((ej (VK:=[Z (aN E),Z<|bh [],Y,Y]) rfl).trans<|(ej (VK:=[Z (aN E),Z<|bh<|dP E,Wo,a]) d).trans<|dY c) rfl
def cp(E:List aw)(o:aw->aw):List (List ab×ab):=(E.map λd=>(d3 d,ai<|o d))
theorem F5:∀(M a:List (List ab×ab)),((a++M).map (·.1)).Nodup->M.foldl (λg o=>g9 g o.1 o.2) a=a++M
 |[],a,_=>by simp
 |o::M,a,ah=>by
  have e:¬ (a.any λb=>decide (b.1=o.1))=V:=λi=>by
   let⟨@p,d,c⟩:=oH.mp i;have c:=e9 c;rw[fM,dt]at ah;exact ah.2.2 p.1 (oV d) o.1 ↥0 c
  rw[nU,show g9 a o.1 o.2=a++[o] by unfold g9;rw[aP e],F5 M (a++[o]) (by rw[bz];exact ah),bz];rfl
def Nl(ah:E.Nodup)(o:aw->aw):m8 (cp E o)=cp E o:=by
 unfold m8;rw[F5 _ [] ?_,k7];unfold cp;rw[k7,f5];exact kS ah λg W d W c=>qW c
def K3(o:aw->aw){n:aw}(e:n∈E):eZ (cp E o) (d3 n)=Z (ai<|o n):=by
 induction E with
 |nil=>cases e
 |cons d E a=>
  unfold eZ cp;rw[cS,jb];by_cases c:d=n
  ·subst c;simp
  ·rw[show decide (((d3 d,ai<|o d):List ab×ab).1=d3 n)=aq from eB λi=>c<|qW i];exact a ((bO.mp e).resolve_left λi=>c i.symm)
def Pr(E:List aw)(o:aw->aw):qR (E.map λd=>.tup [ai d,ai<|o d])=Z (cp E o):=by
 unfold cp;induction E with
 |nil=>rfl
 |cons n r a=>
  rw[cS,xi,qR,a];rfl
def UX(E:List aw)(o:aw->aw):((cp E o).all λp=>ab.keys 7 p.1)=V:=by
 unfold cp;rw[yn,jm];intro n W;rfl
def A5(ah:E.Nodup)(a:E.length<=1000)(e:L k=Z (.lst<|E.map λd=>.tup [ai d,ai<|o d],VK)):bV oW (aj (aa L) ay) k=Z (.aR<|cp E o,VK):=by
 have M:(cp E o).length<=1000:=by unfold cp;rw[bB];exact a
 have m:=UX E o;have N:=Nl ah o;have r:=Pr E o;simp -implicitDefEqProofs only[bV,aj,aa,e,tQ,qP,rz,uz,Cu,vV,oW,r,m,M,N,and_self,fl]
inductive hY (E:List aw):List a4->(aw->aw)->Prop where
 |nil:hY E [] λd=>d
 |add {aM:List a4}{o:aw->aw}{c:a4}:hY E aM o->eV E c->o c.1≠o c.2->hY E (aM++[c]) λd=>if o d=o c.1 then o c.2 else o d
def hY.zf{aM:List a4}(q:hY E aM o):∀c∈aM,eV E c:=by
 induction q with
 |nil=>intro c e;cases e
 |add q A C a=>
  intro c e;rcases dy.mp e with e|e
  ·exact a c e
  ·rw[cH.mp e];exact A
structure kq(E:List aw)(t aM:List a4)(o:aw->aw):Prop where
 hy:hY E aM o
 ah:(aM++t).Nodup
 len:aM.length+t.length<=80
 eJ:∀c∈t,eV E c
 zE:∀c,eV E c->c∈t\/o c.1=o c.2
def kq.drop{t aM:List a4}(R:kq E t aM o){v:Nat}{c:a4}(d:t[v]?=Z c)(g:o c.1=o c.2):kq E (t.eraseIdx v) aM o:=by
 let⟨@h,j⟩:=fY.mp d;refine⟨R.hy,R.ah.sublist<|Ki (List.eraseIdx_sublist _ _) _,?_,λf a=>R.eJ f<|Ea a,λf a=>?_⟩
 ·have:=R.len;rw[A1,aJ h];lia
 ·rcases R.zE f a with e|e
  ·by_cases i:f=c
   ·rw[i];exact .inr g
   ·left;rw[List.mem_eraseIdx_iff_getElem?];let⟨@b,VF⟩:=Cs.mp e;exact⟨b,λp=>i (by rw[p,d]at VF;exact (Option.some.inj VF).symm),VF⟩
  ·exact .inr e
theorem CD{V7:Type}:∀{M:List V7}{v:Nat} (e:v<M.length),(M[v]::M.eraseIdx v).Perm M
 |g::M,0,_=>List.Perm.refl _
 |g::M,v+1,e=>(List.Perm.swap _ _ _).trans (.cons g<|CD<|Nat.lt_of_succ_lt_succ e)
def kq.take{t aM:List a4}(R:kq E t aM o){v:Nat}{c:a4}(b:t[v]?=Z c)(j:o c.1≠o c.2):kq E (t.eraseIdx v) (aM++[c]) (λd=>if o d=o c.1 then o c.2 else o d):=by
 let⟨@g,k⟩:=fY.mp b;have h:(c::t.eraseIdx v).Perm t:=by
  rw[<-k];exact CD g
 refine⟨.add R.hy (R.eJ c<|jJ b) j,?_,?_,λf a=>R.eJ f<|Ea a,λf a=>?_⟩
 ·rw[bz];exact (en aM h).nodup_iff.mpr R.ah
 ·have:=R.len;rw[A1,aJ g,d7,ko];omega
 ·by_cases i:f=c
  ·right;subst i;show (if o f.1=o f.1 then _ else _)=(if o f.2=o f.1 then _ else _);rw[aJ rfl];split<;>rfl
  ·rcases R.zE f a with e|e
   ·left;rcases bO.mp (h.mem_iff.mpr e) with e|e
    ·exact absurd e i
    ·exact e
   ·right;show (if o f.1=o c.1 then _ else _)=(if o f.2=o c.1 then _ else _);rw[e]
abbrev hM(e:ak)(E:List aw)(t aM:List a4)(o:aw->aw)(Wv a B D:Option ak):a5:=[Z e,Z<|aN E,Z<|bh t,Z<|bh aM,Z<|.aR<|cp E o,Wv,a,B,D]
def zQ(g d:aw):gj (.im<|ai g) (.im<|ai d)=Z (.im<|.aF<|!decide (g=d)):=by
 have e:=mm g d;show (if ab.bA 8 (ai g)=V then Z (ak.im<|.aF<|!cz (ai g) (ai d)) else Y)=_;rw[aJ (rB g),e]
def HZ(g d:aw):eN (.im<|ai g) (.im<|ai d)=Z (.im<|.aF<|decide (g=d)):=by
 have e:=mm g d;show (if ab.bA 8 (ai g)=V then Z (ak.im<|.aF<|cz (ai g)<|ai d) else Y)=_;rw[aJ (rB g),e]
def qq(o:aw->aw){n:aw}(e:n∈E):a9 (.aR<|cp E o) (.im<|ai n)=Z (.im<|ai<|o n):=by
 have L:=K3 o e;show (if ab.keys 7 (d3 n)=V then (eZ (cp E o)<|d3 n).map ak.im else Y)=_;rw[aJ (ML n),L];rfl
def Ky(E:List a4):eO [bh E]=Z (aL (E.length:Int)):=by
 show Z (aL ((E.map aQ).length:Int))=_;rw[bB]
def Kg{t aM:List a4}{y:aw}(c:E.length<=1000):dg 1 [4,7,8] (dn<|ag 1) (br 0) d8 G.BS (hM e E t aM o Wv a (Z<|.im<|ai m)<|Z<|.im<|ai y)=Z (.lst<|E.map λd=>.tup [ai d,ai<|if o d=m then y else o d],hM e E t aM o Wv a (Z<|.im<|ai m)<|Z<|.im<|ai y):=by
 refine (oO (z:=E.map ai) (m:=Z (1,aN E)) (VK:=[Z e,Z .dS,Z<|bh t,Z<|bh aM,Z<|.aR<|cp E o,Wv,a,Z<|.im<|ai m,Z<|.im<|ai y]) rfl (jn _ (λd=>.tup [ai d,ai<|if o d=m then y else o d]) E (λd b=>?_) ⋯)).trans rfl;have f:=qq o b;have p:=HZ (o d) m;refine⟨[Z (.im<|ai d),Z<|.aR<|cp E o,Z<|.im<|ai m,Z<|.im<|ai y],_,[Z (.im<|ai d),Z<|.aR<|cp E o,Z<|.im<|ai m,Z<|.im<|ai y],rfl,rfl,?_,rfl⟩;by_cases i:o d=m
 ·rw[aJ i];rw[dJ i]at p;exact mr (bX rfl<|bX (aZ<|Kw (eD<|b7 (aZ<|dA f) rfl rfl rfl p) rfl) rfl) rfl (fu rfl) rfl
 ·rw[aP i];rw[eB i]at p;exact mr (bX rfl<|bX (aZ<|KA (eD<|b7 (aZ<|dA f) rfl rfl rfl p)<|dA f) rfl) rfl (fu rfl) rfl
def QV{t aM:List a4}(V3:dF E)(j:gx (w+1) e)(R:kq E t aM o)(x:t≠[]):
  ∃VB h n p y z C F,wU (hM e E t aM o Wv a B D)=Z (.aI,hM VB E h n p y z C F)/\gx w VB/\kq E h n p/\h.length<t.length:=by
 have U:=mH.mpr x;have al:=R.len;have aF:=V3.len;let⟨u,@A,I,J,L,VL⟩:=nH (w:=w) (H:=(t.length:Int)) j (by omega) (by omega);obtain⟨c,d⟩:∃c,t[u.toNat]?=Z c:=⟨t[u.toNat]'(by omega),by simp⟩;let⟨@M,rfl⟩:=j.lst;let⟨@b,rfl⟩:=VL.lst;have q:=R.eJ c (jJ d);have l:fP (fH hl 2 pT<|aj (aa<|bf 2 G.gp<|aj (ag 0)<|aj (aa<|bV eO<|aj (ag 2) ay) ay) ay) (e_ 2<|c3 (br 5)<|c3 (br 6) fj) (hM (.lst M) E t aM o Wv a B D)=Z (.aI,hM (.lst b) E (t.eraseIdx u.toNat) aM o (Z<|.im<|ai c.1) (Z<|.im<|ai c.2) B D):=by
  have N:(t.map aQ)[u.toNat]?=Z (aQ c):=by rw[hb,d];rfl
  have O:(0<=u/\u<((t.map aQ).length:Int)):=⟨J,by rw[bB];exact L⟩;have P:=Bv aQ t u.toNat;have m:pT (bh t) [aL u]=Z (.im<|aQ c,bh<|t.eraseIdx u.toNat):=by
   show (if 0<=u/\u<((t.map aQ).length:Int) then _ else Y)=_;rw[aJ O,N,P];rfl
  exact jv (j7 rfl rfl (di (cC<|g8 (di rfl<|di (cC<|nN rfl rfl<|Ky t) rfl) rfl rfl I) rfl) rfl rfl m (by rfl)) (by rfl)
 have r:(t.eraseIdx u.toNat).length<t.length:=by rw[A1,aJ (by omega)];omega
 have s:=qq o q.1;have v:=qq o q.2.1;have Q:=zQ (o c.1) (o c.2);obtain⟨k,f⟩:∃k:a5,k=hM (.lst b) E (t.eraseIdx u.toNat) aM o (Z<|.im<|ai c.1) (Z<|.im<|ai c.2) B D:=⟨_,rfl⟩;have g:bJ (av gj (aa<|av a9 (ag 4)<|ag 5)<|aa<|av a9 (ag 4)<|ag 6) k=Z (!decide (o c.1=o c.2),k):=by
  rw[f];exact eD (b7 (aZ<|dA s) (aZ<|dA v) rfl rfl Q)
 rw[<-f]at l;unfold wU;by_cases i:o c.1=o c.2
 ·rw[dJ i]at g;exact⟨.lst b,_,aM,o,Z<|.im<|ai c.1,Z<|.im<|ai c.2,B,D,(ej l).trans ((qL g).trans (by rw[f];rfl)),VL,R.drop d i,r⟩
 ·rw[eB i]at g;refine⟨.lst b,_,aM++[c],_,Z<|.im<|ai c.1,Z<|.im<|ai c.2,Z<|.im<|ai<|o c.1,Z<|.im<|ai<|o c.2,(ej l).trans<|(nx g).trans<|(ej (VK:=hM (.lst b) E (t.eraseIdx u.toNat) (aM++[c]) o (Z<|.im<|ai c.1) (Z<|.im<|ai c.2) B D) ?_).trans<|(ej (VK:=hM (.lst b) E (t.eraseIdx u.toNat) (aM++[c]) o (Z<|.im<|ai c.1) (Z<|.im<|ai c.2) (Z<|.im<|ai<|o c.1) (Z<|.im<|ai<|o c.2)) ?_).trans ?_,VL,R.take d i,r⟩
  ·have T:aM.length<100000:=by omega
   rw[f];have m:ha (bh aM) [.im (aQ c)]=Z (.im .aS,bh<|aM++[c]):=by
    have:ha (bh aM) [.im (aQ c)]=Z (.im .aS,.lst<|aM.map aQ++[aQ c]):=uk (by rw[bB];exact T);rw[this];simp
   exact lg (j7 rfl rfl rfl rfl rfl m rfl)
  ·exact jv (mr (bX (aZ<|dA s)<|bX (aZ<|dA v) rfl) rfl (fu rfl) rfl) rfl
  ·refine (sW (A5 V3.ah (by omega) (Kg (by omega))) (show 4<9 by decide)).trans rfl
def Ol(V3:dF E)(j:gx (w+100) e):∃(VB:ak) (F aM:List a4) (o:aw->aw),sX [e,aN E]=Z (.im<|.tup<|F.map aQ,[VB,aN E])/\gx w VB/\F.Perm aM/\hY E aM o/\(F.map aQ).Pairwise (λg d=>a7 g d=V)/\∀c,eV E c->o c.1=o c.2:=by
 have aF:=V3.len;have bA:=sP E E;let⟨@VQ,J,Wa⟩:=L1 V3;have x:kq E VQ [] (λd=>d):=⟨.nil,by rw[k7];exact Wa.nodup_iff.mpr (xm V3.ah),by
  have:VQ.length=(E.flatMap<|fo E).length:=Wa.length_eq;rw[tC];lia,λc v=>kh.mp<|Wa.mem_iff.mp v,λc v=>.inl<|Wa.mem_iff.mpr<|kh.mpr v⟩
 let⟨@q,rfl⟩:=j.lst;have L:p0 2 3 (aj (aa<|bf 1 G.sl<|aj (ag 1) ay)<|aj (aa<|eI ay) ay) [Z (.lst q),Z<|aN E,Y,Y,Y,Y,Y,Y,Y]=Z (.aI,[Z (.lst q),Z<|aN E,Z<|bh VQ,Z<|bh [],Y,Y,Y,Y,Y]):=by
  refine DY (di (cC<|g8 rfl rfl rfl J) rfl) rfl (show 2<9 by decide) (show 3<9 by decide) rfl
 have N:dg 1 [] (dn<|ag 1) (br 0) d8 G.zZ [Z (.lst q),Z<|aN E,Z<|bh VQ,Z<|bh [],Y,Y,Y,Y,Y]=Z (.lst<|E.map λd=>.tup [ai d,ai d],[Z (.lst q),Z<|aN E,Z<|bh VQ,Z<|bh [],Y,Y,Y,Y,Y]):=by
  refine (oO (z:=E.map ai) (m:=Z (1,aN E)) (VK:=[Z (.lst q),Z .dS,Z<|bh VQ,Z<|bh [],Y,Y,Y,Y,Y]) rfl (jn _ (λn=>.tup [ai n,ai n]) _ (λn bv=>?_) ⋯)).trans rfl;exact⟨[Z (.im<|ai n)],_,[Z (.im<|ai n)],rfl,rfl,rfl,rfl⟩
 have O:cn 4 (bV oW<|aj (aa<|dg 1 [] (dn<|ag 1) (br 0) d8 G.zZ) ay) [Z (.lst q),Z<|aN E,Z<|bh VQ,Z<|bh [],Y,Y,Y,Y,Y]=Z (.aI,hM (.lst q) E VQ [] (λd=>d) Y Y Y Y):=
  (sW (A5 (o:=λd=>d) V3.ah ⋯ N) (show 4<9 by decide)).trans rfl;let⟨@VW,P,⟨VB,aM,o,f,h,l,@p,rfl,Q,u⟩⟩:=y8 (n:=HK) (d:=wU) (λH k=>∃e t aM o f h l p,k=hM e E t aM o f h l p/\gx (w+t.length) e/\kq E t aM o/\t.length<=H) (λk=>∃e aM o f h l p,k=hM e E [] aM o f h l p/\gx w e/\kq E [] aM o)
  (λH k R=>by
   let⟨e,t,aM,o,f,h,l,@p,rfl,y,A,T⟩:=R;cases t with
   |nil=>exact⟨aq,_,rfl,(λi=>by cases i),λ_=>⟨e,aM,o,f,h,l,p,rfl,y,A⟩⟩
   |cons r t=>
    refine⟨V,hM e E (r::t) aM o f h l p,?_,λ_=>?_,(λi=>by cases i)⟩
    ·have U:ab.cO 8 ((r::t).map aQ)=V:=by
      have:∀M:List a4,ab.cO 8 (M.map aQ)=V:=λM=>by
       induction M with
       |nil=>rfl
       |cons g M al=>rw[cS,ab.cO,al];rfl
      exact this _
     have am:gj (bh (r::t)) (.lst [])=Z (.im<|.aF V):=by
      have an:fg ((r::t).map aQ) []=aq:=rfl;simp only[gj,U,an];rfl
     show (((gj (bh (r::t))<|.lst []).map λs=>(s,hM e E (r::t) aM o f h l p)).bind λo=>(mU o.1).map λd=>(d,o.2))=_;rw[am];rfl
    ·let⟨VB,C,ap,as,nB,a1,a2,@bd,c,Q,u,M⟩:=QV (w:=w+t.length) (Wv:=f) (a:=h) (B:=l) (D:=p) V3 y A ↥0;rw[dV]at M T;exact⟨.aI,_,c,.inl rfl,C.length,⋯,VB,C,ap,as,nB,a1,a2,bd,rfl,Q.mono ⋯,u,bT _⟩) 1000000 VQ.length _ ⟨.lst q,VQ,[],_,Y,Y,Y,Y,rfl,j.mono (by have:=x.len;simp at this;lia),x,bT _⟩ (by have:=x.len;simp at this;lia)
 have I:=u.ah;have be:=u.len;rw[cj]at I;rw[tC]at be;let⟨@F,bi,bm,bn⟩:=Cy (k:=hM VB E [] aM o f h l p) (b:=3) I ⋯ rfl;refine⟨VB,F,aM,o,?_,Q,bi,u.hy,bn,λc v=>(u.zE c v).resolve_left ↥0⟩;let⟨@bs,rfl⟩:=Q.lst;unfold sX GX;exact ix (hM (.lst bs) E [] aM o f h l p) rfl ((ej L).trans<|(ej O).trans<|(ej P).trans<|dY<|vQ bm) rfl
def qz(VG:dQ)(b v O Wb a c:Int):Prop:=(∃g f t,tw VG.cD VG.gI [.int b,.int v]=Z g/\kK VG.kt g 0=Z (.fn f)/\kK VG.kt g 1=Z (.fn t)/\kK VG.kt f 0=Z (.int O)/\kK VG.kt f 1=Z (.int Wb)/\kK VG.kt t 0=Z (.int a)/\kK VG.kt t 1=Z (.int c))
structure nF(VG:dQ):Prop where
 jW:qz VG 0 0 (-1) 0 0 1
 dD:qz VG 0 1 0 1 1 0
 du:qz VG 1 1 1 0 0 (-1)
 fA:qz VG 1 0 0 (-1) (-1) 0
def x9{VG:dQ}{f:ae}(WE:kK VG.kt f 0=Z (.int O))(A:kK VG.kt f 1=Z (.int Wb))(e:0<=H)(g:H<10):me VG [.im (ai n),.im<|.fn f,aL H]=Z (.im<|ai (n.1+O*H,n.2+Wb*H),[.im (ai n),.im<|.fn f,aL H]):=by
 have a:gC O H=V:=mi ⋯ ⋯;have V8:gC Wb H=V:=mi ⋯ ⋯;have b:ei VG.kt VG.cD (.im<|ai n) (aL 0)=Z (aL n.1):=rfl;have c:ei VG.kt VG.cD (.im<|ai n) (aL 1)=Z (aL n.2):=rfl;have WQ:ei VG.kt VG.cD (.im<|.fn f) (aL 0)=Z (aL O):=congrArg (Option.map ak.im) WE;have d:ei VG.kt VG.cD (.im<|.fn f) (aL 1)=Z (aL Wb):=congrArg (Option.map ak.im) A;unfold me C8;exact ix [Z (.im<|ai n),Z<|.im<|.fn f,Z<|aL H] rfl (dY<|mr (bX (aZ<|b7 (aZ<|dA b) (aZ<|b7 (aZ<|dA WQ) rfl rfl rfl<|iQ a) rfl rfl rfl)<|bX (aZ<|b7 (aZ<|dA c) (aZ<|b7 (aZ<|dA d) rfl rfl rfl<|iQ V8) rfl rfl rfl) rfl) rfl (fu rfl) rfl) rfl
def E_(b:aE[0]?=Z m):oM [aT aE,.im<|ai n]=Z (.im<|ai<|aF m n,[aT aE,.im<|ai n]):=by
 have I:e5 (aE.map ai) 0=Z (ai m):=uW ∅ ⇑b;have WR:a9 (.im<|ai n) (aL 0)=Z (aL n.1):=rfl;have a:a9 (.im<|ai n) (aL 1)=Z (aL n.2):=rfl;have T:a9 (.im<|ai m) (aL 0)=Z (aL m.1):=rfl;have aU:a9 (.im<|ai m) (aL 1)=Z (aL m.2):=rfl;have We:a9 (aT aE) (aL 0)=Z (.im<|ai m):=by
  show (e5 (aE.map ai) 0).map ak.im=_;rw[I];rfl
 unfold oM CR;exact ix [Z (aT aE),Z<|.im<|ai n] rfl (dY (mr (bX (aZ (b7 (aZ<|dA WR) (aZ (b7 (aZ<|b7 (aZ<|dA WR) (aZ<|b7 (aZ<|dA We) rfl rfl rfl T) rfl rfl rfl) rfl rfl rfl (mc ∅))) rfl rfl rfl)) (bX (aZ (b7 (aZ<|dA a) (aZ (b7 (aZ<|b7 (aZ<|dA a) (aZ<|b7 (aZ<|dA We) rfl rfl rfl aU) rfl rfl rfl) rfl rfl rfl (mc ∅))) rfl rfl rfl)) rfl)) rfl (fu rfl) rfl)) rfl
def E2(c:a4):ab.bA 8 (aQ c)=V:=rfl
theorem FU:∀VQ:List a4,ab.cO 8 (VQ.map aQ)=V
 |[]=>rfl
 |o::r=>by rw[cS,ab.cO,E2,FU r];rfl
def AS(g d:a4):cz (aQ g) (aQ d)=decide (g=d):=by
 show (cz (ai g.1) (ai d.1)&&(cz (ai g.2) (ai d.2)&&V))=_;rw[mm,mm];let⟨a,b⟩:=g;let⟨aU,aV⟩:=d;by_cases A:a=aU<;>by_cases C:b=aV<;>simp[A,C]
def P2(VQ:List a4)(c:a4):hW (aQ c) (.im<|.tup<|VQ.map aQ)=Z (decide (c∈VQ)):=by
 rw[PT,E2,FU,xp];show (if (V&&V)=V then _ else _)=_;rw[aJ (show (V&&V)=V from rfl)];congr 1;rw[k8,oH,hD];constructor
 ·rintro⟨f,a,e⟩;have:decide (f=c)=V:=by rw[<-AS];exact e
  rw[<-e9 this];exact a
 ·intro e;refine⟨c,e,?_⟩;show cz (aQ c) (aQ c)=V;rw[AS];exact dJ rfl
def i9(F:List a4):Prop:=(∀c∈F,c.1.1<c.2.1\/(c.1.1=c.2.1/\c.1.2<c.2.2))
def i9.of(e:∀c∈F,eV E c):i9 F:=λc a=>by
 have:=(e c a).2.2;rcases this with e|e
 ·rw[e];exact .inr ⟨rfl,by show c.1.2<c.1.2+2;lia⟩
 ·rw[e];exact .inl (by show c.1.1<c.1.1+2;lia)
def PQ(a:i9 F)(g d:aw):decide (hQ g d∈F)=ew F g d:=by
 unfold ew;rw[k8,hD,hD];by_cases A:a7 (ai g) (ai d)=V
 ·have b:=kI.mp A;have C:¬ a7 (ai d) (ai g)=V:=λi=>by have:=kI.mp i;lia
  have c:hQ g d=(g,d):=by unfold hQ;rw[aJ A,aP C]
  rw[c];constructor
  ·exact .inl
  ·rintro (e|e)
   ·exact e
   ·have:=a _ e;simp only at this;lia
 ·by_cases C:a7 (ai d) (ai g)=V
  ·have f:=kI.mp C;have c:hQ g d=(d,g):=by unfold hQ;rw[aP A,aJ C]
   rw[c];constructor
   ·exact .inr
   ·rintro (e|e)
    ·have:=a _ e;simp only at this;lia
    ·exact e
  ·have b:=λi=>A (kI.mpr i);have f:=λi=>C (kI.mpr i);have c:g=d:=el ⋯ ⋯;subst c;have c:hQ g g=(g,g):=by unfold hQ;rw[aP A]
   rw[c];exact⟨.inl,λe=>e.elim id id⟩
def Ox{VG:dQ}{b v c e:Int}(p:qz VG b v O Wb c e)(q:aE[0]?=Z m)(u:aF m n=d)(A:n.1-d.1=b)(C:n.2-d.2=v)(w:i9 F):
  qp VG [aT aE,.im<|.tup<|F.map aQ,.im<|ai n]=Z (.im<|ai<|if ew F d (d.1+O*2,d.2+Wb*2)=V then (n.1+O*1,n.2+Wb*1) else (n.1+c*1,n.2+e*1),[aT aE,.im<|.tup<|F.map aQ,.im<|ai n]):=by
 let⟨g,f,@t,jW,dD,du,fA,h,x,y⟩:=p;have j:=E_ (n:=n) q;rw[u]at j;have z:=x9 (n:=d) (H:=2) fA h ∅ ∅;have B:=x9 (n:=n) (H:=1) fA h ∅ ∅;have D:=x9 (n:=n) (H:=1) x y ∅ ∅;have WR:ei VG.kt VG.cD (.im<|ai n) (aL 0)=Z (aL n.1):=rfl;have E:ei VG.kt VG.cD (.im<|ai n) (aL 1)=Z (aL n.2):=rfl;have T:ei VG.kt VG.cD (.im<|ai d) (aL 0)=Z (aL d.1):=rfl;have aU:ei VG.kt VG.cD (.im<|ai d) (aL 1)=Z (aL d.2):=rfl;have bg:ei VG.kt VG.cD (.im<|.fn VG.gI) (.im<|.tup [.int b,.int v])=Z (.im<|.fn g):=by
  show (if ab.keys 7 [.int b,.int v]=V then (tw VG.cD VG.gI [.int b,.int v]).map λs=>ak.im (.fn s) else Y)=_;rw[aJ (show ab.keys 7 [.int b,.int v]=V from rfl),jW];rfl
 have l:ei VG.kt VG.cD (.im<|.fn g) (aL 0)=Z (.im<|.fn f):=by
  show (kK VG.kt g 0).map ak.im=_;rw[dD];rfl
 have I:ei VG.kt VG.cD (.im<|.fn g) (aL 1)=Z (.im<|.fn t):=by
  show (kK VG.kt g 1).map ak.im=_;rw[du];rfl
 have le:=Tr d (d.1+O*2,d.2+Wb*2);have o:=P2 F (hQ d (d.1+O*2,d.2+Wb*2));rw[PQ w]at o;have J:j6 (.im<|.tup<|ic<|hQ d (d.1+O*2,d.2+Wb*2)) (.im<|.tup<|F.map aQ)=Z (.im<|.aF<|ew F d (d.1+O*2,d.2+Wb*2)):=by
  show (hW (aQ<|hQ d (d.1+O*2,d.2+Wb*2))<|.im<|.tup<|F.map aQ).map (λr=>ak.im<|.aF r)=_;rw[o];rfl
 unfold qp Dm;obtain⟨k,a⟩:∃k:a5,k=[Z (aT aE),Z<|.im<|.tup<|F.map aQ,Z<|.im<|ai n,Z<|.im<|ai d,Z<|.im<|.fn g]:=⟨_,rfl⟩;have L:cn 3 (bf 2 G.oM<|aj (ag 0)<|aj (ag 2) ay) [Z (aT aE),Z<|.im<|.tup<|F.map aQ,Z<|.im<|ai n,Y,Y]=Z (.aI,[Z (aT aE),Z<|.im<|.tup<|F.map aQ,Z<|.im<|ai n,Z<|.im<|ai d,Y]):=by
  exact h7 (g8 rfl rfl rfl j) (show 3<5 by decide) rfl
 have M:cn 4 (av (ei VG.kt VG.cD) (aa<|au<|.fn VG.gI)<|aa<|c0<|aj (aa<|av hH (aa<|av (ei VG.kt VG.cD) (ag 2)<|aa<|au<|.int 0)<|aa<|av (ei VG.kt VG.cD) (ag 3)<|aa<|au<|.int 0)<|aj (aa<|av hH (aa<|av (ei VG.kt VG.cD) (ag 2)<|aa<|au<|.int 1)<|aa<|av (ei VG.kt VG.cD) (ag 3)<|aa<|au<|.int 1) ay) [Z (aT aE),Z<|.im<|.tup<|F.map aQ,Z<|.im<|ai n,Z<|.im<|ai d,Y]=Z (.aI,k):=by
  rw[a];subst A;subst C;exact lz (b7 rfl (aZ<|mr (bX (aZ<|b7 (aZ<|dA WR) (aZ<|dA T) rfl rfl rfl)<|bX (aZ<|b7 (aZ<|dA E) (aZ<|dA aU) rfl rfl rfl) rfl) rfl (fu rfl) rfl) rfl rfl bg) (show 4<5 by decide) rfl
 have V8:bJ (av j6 (aa<|bf 2 G.r6<|aj (ag 3)<|aj (aa<|bf 3 (G.me VG)<|aj (ag 3)<|aj (aa<|av (ei VG.kt VG.cD) (ag 4)<|aa<|au<|.int 0)<|aj (aa<|au<|.int 2) ay) ay)<|ag 1) k=Z (ew F d (d.1+O*2,d.2+Wb*2),k):=by
  rw[a];exact sV (d_ (cC<|g8 (di rfl<|di (cC<|g8 (di rfl<|di (cC<|d_ rfl rfl rfl rfl l) rfl) rfl rfl z) rfl) rfl rfl le) rfl rfl rfl J)
 have N:cG (bf 3 (G.me VG)<|aj (ag 2)<|aj (aa<|av (ei VG.kt VG.cD) (ag 4)<|aa<|au<|.int 0)<|aj (aa<|au<|.int 1) ay) k=Z (.cB<|.im<|ai (n.1+O*1,n.2+Wb*1),k):=by
  rw[a];exact dY (c5 (bX rfl<|bX (aZ<|dA l) rfl) rfl rfl B rfl)
 have P:cG (bf 3 (G.me VG)<|aj (ag 2)<|aj (aa<|av (ei VG.kt VG.cD) (ag 4)<|aa<|au<|.int 1)<|aj (aa<|au<|.int 1) ay) k=Z (.cB<|.im<|ai (n.1+c*1,n.2+e*1),k):=by
  rw[a];exact dY (c5 (bX rfl<|bX (aZ<|dA I) rfl) rfl rfl D rfl)
 refine ix k rfl ((ej L).trans<|(ej M).trans ?_) (by rw[a];rfl);by_cases i:ew F d (d.1+O*2,d.2+Wb*2)=V
 ·rw[aJ i];rw[i]at V8;exact q0 ((nx V8).trans N)
 ·rw[aP i];rw[A3]at i;rw[i]at V8;exact (ej<|qL V8).trans P
def X(d:aw):Nat->aw
 |0=>(d.1-1,d.2)
 |1=>(d.1,d.2+1)
 |2=>(d.1+1,d.2)
 |_=>(d.1,d.2-1)
def My(F:List a4)(d:aw){q:Nat}(a:q<4):es (aI F (d,q))=if ew F d (c4 d q)=V then X (bR d q) q else bR d ((q+1)%4):=by
 unfold aI;dsimp only;split
 ·match q,a with
  |0,_=>simp[es,bR,c4,X];lia
  |1,_=>simp[es,bR,c4,X];lia
  |2,_=>simp[es,bR,c4,X];lia
  |3,_=>simp[es,bR,c4,X];lia
 ·rfl
def N8{VG:dQ}(c:nF VG){E aE:List aw}{F:List a4}{d m:aw}{q:Nat}(V3:dF E)(g:aE[0]?=Z m)(h:m∈E)(i:d∈E)(e:q<4)(j:i9 F):
  qp VG [aT aE,.im<|.tup<|F.map aQ,.im<|ai<|bR d q]=Z (.im<|ai<|es<|aI F (d,q),[aT aE,.im<|.tup<|F.map aQ,.im<|ai<|bR d q]):=by
 have f:=V3.par d i m h;have k:=(SY f.1 f.2 e).1;rw[My F d e];have fin:∀{O Wb a b:Int},qz VG ((bR d q).1-d.1) ((bR d q).2-d.2) O Wb a b->(d.1+O*2,d.2+Wb*2)=c4 d q->((bR d q).1+O*1,(bR d q).2+Wb*1)=X (bR d q) q->((bR d q).1+a*1,(bR d q).2+b*1)=bR d ((q+1)%4)->
   qp VG [aT aE,.im<|.tup<|F.map aQ,.im<|ai<|bR d q]=Z (.im<|ai<|if ew F d (c4 d q)=V then X (bR d q) q else bR d ((q+1)%4),[aT aE,.im<|.tup<|F.map aQ,.im<|ai<|bR d q]):=λy l n o=>by
  rw[Ox y g k rfl rfl j,l,n,o]
 match q,e with
 |0,_=>
  refine fin (O := -1) (Wb:=0) (a:=0) (b:=1) ?_ (el ?_ ?_) (el ?_ ?_) (el ?_ ?_)
  ·rw[show (bR d 0).1-d.1=0 by simp[bR],show (bR d 0).2-d.2=0 by simp[bR]];exact c.jW
  all_goals (simp[bR,c4,X];try lia)
 |1,_=>
  refine fin (O:=0) (Wb:=1) (a:=1) (b:=0) ?_ (el ?_ ?_) (el ?_ ?_) (el ?_ ?_)
  ·rw[show (bR d 1).1-d.1=0 by simp[bR],show (bR d 1).2-d.2=1 by simp[bR];lia];exact c.dD
  all_goals (simp[bR,c4,X])
 |2,_=>
  refine fin (O:=1) (Wb:=0) (a:=0) (b := -1) ?_ (el ?_ ?_) (el ?_ ?_) (el ?_ ?_)
  ·rw[show (bR d 2).1-d.1=1 by simp[bR];lia,show (bR d 2).2-d.2=1 by simp[bR];lia];exact c.du
  all_goals (simp[bR,c4,X];try lia)
 |3,_=>
  refine fin (O:=0) (Wb := -1) (a := -1) (b:=0) ?_ (el ?_ ?_) (el ?_ ?_) (el ?_ ?_)
  ·rw[show (bR d 3).1-d.1=1 by simp[bR];lia,show (bR d 3).2-d.2=0 by simp[bR]];exact c.fA
  all_goals (simp[bR,c4,X];try lia)
def ux(V3:dF E)(Wa:aE.Perm (cells E))(t:fK aE):∃m,aE[0]?=Z m/\m∈E:=by
 cases aE with
 |nil=>
  have A:=Wa.length_eq;rw[qN]at A;have:=mH.mpr V3.ne;simp at A;lia
 |cons m r=>
  refine⟨m,rfl,?_⟩;let⟨@d,a,⟨@q,b,c⟩⟩:=Eu.mp (Wa.mem_iff.mp<|.head _);have e:d∈m::r:=Wa.mem_iff.mpr (Eu.mpr ⟨d,a,0,by decide,rfl⟩);by_cases i:d=m
  ·rw[<-i];exact a
  ·have f:d∈r:=(bO.mp e).resolve_left i;unfold fK at t;rw[cS,fZ]at t;have lt:=kI.mp (t.1 _<|oV f);have N:=sH.mp (wK d b);rw[<-c]at N;lia
end G
namespace G
section
variable{V7:Type}[DecidableEq V7]
theorem yG:∀{M H:List V7},M.Nodup->(∀f∈M,f∈H)->M.length<=H.length
 |[],H,_,_=>kZ _
 |f::M,H,ah,h=>by
  have b:=h f (.head _);let@⟨d,e⟩:=hN.mp ah;have o:=HT b;have:=yG e (H:=H.erase f) λt a=>(Az (λc=>d (by rw[<-c];exact a))).mpr (h t<|.tail _ a);have p:=o.length_eq;rw[dV]at p ⊢;lia
def b6(N:V7->V7)(h:V7):Nat->V7
 |0=>h
 |w+1=>N (b6 N h w)
theorem xN(N:V7->V7)(h:V7)(H:Nat):∀w,b6 N h (H+w)=b6 N (b6 N h H) w
 |0=>rfl
 |w+1=>congrArg N (xN N h H w)
structure jX(N:V7->V7)(a:List V7):Prop where
 kR:∀f∈a,N f∈a
 inj:∀f∈a,∀t∈a,N f=N t->f=t
variable{N L:V7->V7}{a:List V7}
theorem jX.b6(VJ:jX N a){f:V7}(e:f∈a):∀w,b6 N f w∈a
 |0=>e
 |w+1=>VJ.kR _ (VJ.b6 e w)
theorem jX.back(VJ:jX N a){f:V7}(e:f∈a):∀{b s:Nat},G.b6 N f (b+s)=G.b6 N f b->G.b6 N f s=f
 |0,s,c=>by rw[I0]at c;exact c
 |b+1,s,c=>by
  rw[show b+1+s=(b+s)+1 by lia]at c;exact VJ.back e (VJ.inj _ (VJ.b6 e _) _ (VJ.b6 e _) c)
def Eh(VJ:jX N a){f:V7}(e:f∈a)(VX:Nat):(∃s,0<s/\s<VX/\G.b6 N f s=f)\/((range VX).map<|G.b6 N f).Nodup:=by
 by_cases i:∃s,0<s/\s<VX/\G.b6 N f s=f
 ·exact .inl i
 ·right;refine kS Cq λb VF v d c=>?_;have VF:=i8.mp VF;have d:=i8.mp d;rcases HJ b v with M|M|M
  ·exfalso;refine i ⟨v-b,⋯,⋯,VJ.back e (b:=b) ?_⟩;rw[show b+(v-b)=v by lia];exact c.symm
  ·exact M
  ·exfalso;refine i ⟨b-v,⋯,⋯,VJ.back e (b:=v) ?_⟩;rw[show v+(b-v)=b by lia];exact c
def CM(VJ:jX N a){f:V7}(e:f∈a):∃w,G.b6 N f (w+1)=f:=by
 rcases Eh VJ e (a.length+1) with ⟨s,A,C,c⟩|ah
 ·exact⟨s-1,by rw[show s-1+1=s by lia];exact c⟩
 ·have:=yG ah (H:=a) λt d=>by
   let⟨@b,W,rfl⟩:=dK.mp d;exact VJ.b6 e b
  rw[bB,ky]at this;lia
inductive d6 (N:V7->V7) (a:List V7):V7->V7->Prop where
 | step {f:V7}:f∈a->d6 N a f (N f)
 | refl {f:V7}:d6 N a f f
 | symm {f t:V7}:d6 N a f t->d6 N a t f
 | trans {f t i:V7}:d6 N a f t->d6 N a t i->d6 N a f i
def d6.Lz(VJ:jX N a){m:V7}(h:m∈a){g d:V7}(e:d6 N a g d):(∃w,G.b6 N m w=g)↔∃w,G.b6 N m w=d:=by
 induction e with
 |@step f i=>
  constructor
  ·rintro⟨w,c⟩;exact⟨w+1,congrArg N c⟩
  ·rintro⟨w,c⟩;cases w with
   |succ q=>exact⟨q,VJ.inj _ (VJ.b6 h q) _ i c⟩
   |zero=>
    let⟨@H,j⟩:=CM VJ h;exact⟨H,VJ.inj _ (VJ.b6 h H) _ i<|j.trans c⟩
 |refl=>exact Iff.rfl
 |symm _ k=>exact k.symm
 |trans _ _ b v=>exact b.trans v
def RQ(VJ:jX N a){f t:V7}(j:f∈a)(q:t∈a)(r:L f=N t)(s:L t=N f)(W0:∀n∈a,n≠f->n≠t->L n=N n)(u:∀w,G.b6 N f w≠t):
  (∀g d,d6 N a g d->d6 L a g d)/\d6 L a f t:=by
 have x:∀w,d6 L a (N f) (G.b6 N f<|w+1)\/d6 L a (N f) f:=λw=>by
  induction w with
  |zero=>exact .inl .refl
  |succ w k=>
   rcases k with e|e
   ·by_cases i:G.b6 N f (w+1)=f
    ·rw[i]at e;exact .inr e
    ·left;have h:d6 L a (G.b6 N f<|w+1) (L<|G.b6 N f<|w+1):=.step (VJ.b6 j _);rw[W0 _ (VJ.b6 j _) i (u _)]at h;exact e.trans h
   ·exact .inr e
 have Ww:d6 L a (N f) f:=by
  let⟨@w,c⟩:=CM VJ j;rcases x w with e|e
  ·rw[c]at e;exact e
  ·exact e
 have l:d6 L a t f:=by
  have h:d6 L a t (L t):=.step q;rw[s]at h;exact h.trans Ww
 have y:d6 L a f (N t):=by
  have h:d6 L a f (L f):=.step j;rw[r]at h;exact h
 refine⟨λg d e=>?_,l.symm⟩;induction e with
 |@step n m=>
  by_cases o:n=f
  ·rw[o];exact Ww.symm
  ·by_cases p:n=t
   ·rw[p];exact l.trans y
   ·have h:d6 L a n (L n):=.step m;rw[W0 n m o p]at h;exact h
 |refl=>exact .refl
 |symm _ k=>exact k.symm
 |trans _ _ b v=>exact b.trans v
def Gt(VJ:jX N a)(ah:a.Nodup){m:V7}(e:m∈a)(all:∀f∈a,d6 N a m f):((range a.length).map<|G.b6 N m).Perm a/\G.b6 N m a.length=m:=by
 have reach:∀f∈a,∃w,G.b6 N m w=f:=λf g=>((all f g).Lz VJ e).mp ⟨0,rfl⟩;have h:¬ ∃s,0<s/\s<a.length/\G.b6 N m s=m:=by
  rintro⟨s,A,C,c⟩;have mul:∀p,G.b6 N m (s*p)=m:=λp=>by
   induction p with
   |zero=>rfl
   |succ p j=>rw[Nat.mul_succ,wt,xN,c,j]
  have:=yG ah (H:=(range s).map (G.b6 N m)) λf g=>by
   let⟨@w,rfl⟩:=reach f g;refine dK.mpr ⟨w%s,i8.mpr<|vB _ A,?_⟩
   conv=>rhs;rw[<-Nat.div_add_mod w s,xN,mul]
  rw[bB,ky]at this;lia
 have k:((range a.length).map<|G.b6 N m).Nodup:=(Eh VJ e a.length).resolve_left h;have Wa:=r8 k (H:=a) (λt l=>by
  let⟨@b,W,rfl⟩:=dK.mp l;exact VJ.b6 e b) (by rw[bB,ky];exact bT _)
 refine⟨Wa,?_⟩;let⟨@b,VF,c⟩:=dK.mp (Wa.mem_iff.mpr<|VJ.b6 e a.length);have VF:=i8.mp VF;have d:=VJ.back e (b:=b) (s:=a.length-b) (by rw[show b+(a.length-b)=a.length by lia];exact c.symm);by_cases i:b=0
 ·subst i;rw[AI]at d;exact d
 ·exact absurd ⟨a.length-b,⋯,⋯,d⟩ h
end
variable{o:aw->aw}{E:List aw}
def c1(E:List aw):List (aw×Nat):=(E.flatMap λd=>[(d,0),(d,1),(d,2),(d,3)])
def e2{h:aw×Nat}:h∈c1 E↔h.1∈E/\h.2<4:=by
 unfold c1;rw[lZ];constructor
 ·rintro⟨d,a,e⟩;simp only[bO,gz,eT]at e;rcases e with e|e|e|e<;>subst e<;>exact⟨a,by simp⟩
 ·rintro⟨A,C⟩;refine⟨h.1,A,?_⟩;let⟨d,q⟩:=h;simp only[bO,gz,eT,ib,true_and];simp only at C;lia
theorem vp:∀E:List aw,(c1 E).length=4*E.length
 |[]=>rfl
 |d::E=>by
  have:=vp E;unfold c1 at *;rw[nc,d7,this];simp;lia
def Af(ah:E.Nodup):(c1 E).Nodup:=um ah (λd W=>by simp) λg W d W f A C=>by
 simp only[bO,gz,eT]at A C;have a:f.1=g:=by rcases A with e|e|e|e<;>rw[e]
 have b:f.1=d:=by rcases C with e|e|e|e<;>rw[e]
 exact a.symm.trans b
theorem qV{F:List a4}(b:∀c∈F,eV E c):jX (aI F) (c1 E) where
 kR:=λh VN=>by
  have e:=e2.mp VN;exact e2.mpr ⟨JD b e.1 h.2,pE F h⟩
 inj:=λf d t g c=>by
  have A:=(e2.mp d).2;have C:=(e2.mp g).2;have a:=yx F f.1 A;have Wo:=yx F t.1 C;rw[show ((f.1,f.2):aw×Nat)=f from rfl]at a;rw[show ((t.1,t.2):aw×Nat)=t from rfl]at Wo;rw[<-a,c,Wo]
def CU{d:aw}{q v:Nat}(a:q<4)(b:v<4)(e:c4 d q=c4 d v):q=v:=by
 let⟨f,t⟩:=d
 match q,a,v,b with
 |0,_,0,_=>rfl
 |1,_,1,_=>rfl
 |2,_,2,_=>rfl
 |3,_,3,_=>rfl
 |0,_,1,_|0,_,2,_|0,_,3,_|1,_,0,_|1,_,2,_|1,_,3,_|2,_,0,_|2,_,1,_|2,_,3,_|3,_,0,_|3,_,1,_|3,_,2,_=>
  simp only[c4,ib]at e;lia
def zT(F:List a4)(c:a4)(g d:aw):ew (F++[c]) g d=(ew F g d || decide ((g,d)=c\/(d,g)=c)):=by
 unfold ew;rw[k8,AO,hD,hD,hD,dy,dy,cH,cH];constructor
 ·rintro ((e|e)|(e|e))
  ·exact .inl (.inl e)
  ·exact .inr (.inl e)
  ·exact .inl (.inr e)
  ·exact .inr (.inr e)
 ·rintro ((e|e)|(e|e))
  ·exact .inl (.inl e)
  ·exact .inr (.inl e)
  ·exact .inl (.inr e)
  ·exact .inr (.inr e)
structure ND(E:List aw)(aM:List a4)(o:aw->aw):Prop where
 fF:∀h∈c1 E,o (aI aM h).1=o h.1
 link:∀g∈c1 E,∀d∈c1 E,o g.1=o d.1->d6 (aI aM) (c1 E) g d
 eJ:∀c∈aM,o c.1=o c.2
def Qn{aM:List a4}(q:hY E aM o):ND E aM o:=by
 induction q with
 |nil=>
  have WY:∀d q,aI [] (d,q)=(d,(q+1)%4):=λd q=>by
   unfold aI ew;simp
  refine⟨λh W=>by rw[show h=(h.1,h.2) from rfl,WY],λg k d r c=>?_,(λ_ e=>by cases e)⟩;have c:g.1=d.1:=c;let⟨f,b⟩:=g;let⟨t,v⟩:=d;have c:f=t:=c;subst c;have l:=(e2.mp k).1;have X:∀q,q<4->d6 (aI []) (c1 E) (f,q) (f,(q+1)%4):=λq m=>by
   have:=d6.step (N:=aI []) (a:=c1 E) (f:=(f,q)) (e2.mpr ⟨l,m⟩);rw[WY]at this;exact this
  have i:∀q,q<4->d6 (aI []) (c1 E) (f,0) (f,q):=λq m=>by
   match q,m with
   |0,_=>exact .refl
   |1,_=>exact X 0 ∅
   |2,_=>exact (X 0 ∅).trans (X 1 ∅)
   |3,_=>exact ((X 0 ∅).trans (X 1 ∅)).trans (X 2 ∅)
  exact (i b (e2.mp k).2).symm.trans (i v (e2.mp r).2)
 |@add aM o c q z s j=>
  let⟨aU,aV⟩:=c;let@⟨A,C,U⟩:=z;have A:aU∈E:=A;have C:aV∈E:=C;have s:o aU≠o aV:=s;obtain⟨V8,Wd,J,L,V5,B,al,am⟩:∃V8 Wd,V8<4/\Wd<4/\c4 aU V8=aV/\c4 aV Wd=aU/\(V8+3)%4=(Wd+1)%4/\(Wd+3)%4=(V8+1)%4:=by
   rcases U with e|e
   ·have e:aV=(aU.1,aU.2+2):=e;refine⟨1,3,by decide,by decide,e.symm,?_,by decide,by decide⟩;rw[e];exact el rfl (by show aU.2+2-2=aU.2;lia)
   ·have e:aV=(aU.1+2,aU.2):=e;refine⟨2,0,by decide,by decide,e.symm,?_,by decide,by decide⟩;rw[e];exact el (by show aU.1+2-2=aU.1;lia) rfl
  have VJ:jX (aI aM) (c1 E):=qV q.zf;have l:(aU,V8)∈c1 E:=e2.mpr ⟨A,J⟩;have D:(aV,Wd)∈c1 E:=e2.mpr ⟨C,L⟩;have M:ew aM aU aV=aq:=by
   unfold ew;refine eB ?_;rintro (e|e)
   ·exact s (j.eJ _ e)
   ·exact s (j.eJ _ e).symm
  have an:ew aM aV aU=aq:=by rw[Jy];exact M
  have Ww:aI aM (aU,V8)=(aU,(V8+1)%4):=by unfold aI;dsimp only;rw[V5,M];rfl
  have O:aI aM (aV,Wd)=(aV,(Wd+1)%4):=by unfold aI;dsimp only;rw[B,an];rfl
  have P:aI (aM++[(aU,aV)]) (aU,V8)=aI aM (aV,Wd):=by
   rw[O];unfold aI;dsimp only;rw[V5,zT,dJ<|.inl rfl,G2,aJ rfl,al]
  have Q:aI (aM++[(aU,aV)]) (aV,Wd)=aI aM (aU,V8):=by
   rw[Ww];unfold aI;dsimp only;rw[B,zT,dJ<|.inr rfl,G2,aJ rfl,am]
  have W0:∀n∈c1 E,n≠(aU,V8)->n≠(aV,Wd)->aI (aM++[(aU,aV)]) n=aI aM n:=λn ap as a1=>by
   let⟨d,q⟩:=n;have m:q<4:=(e2.mp ap).2;unfold aI;dsimp only;rw[zT,eB,Bool.or_false];rintro (e|e)
   ·injection e with F G;subst F;exact as (by rw[CU m J (G.trans V5.symm)])
   ·injection e with F G;subst G;exact a1 (by rw[CU m L (F.trans B.symm)])
  have fF:∀w,o (b6 (aI aM) (aU,V8) w).1=o aU:=λw=>by
   induction w with
   |zero=>rfl
   |succ w b=>exact (j.fF _<|VJ.b6 l w).trans b
  let@⟨u,R⟩:=RQ VJ l D P Q W0 λw c=>s (by rw[<-fF w,c]);have H:(if o aU=o aU then o aV else o aU)=o aV:=aJ rfl;have Wo:(if o aV=o aU then o aV else o aV)=o aV:=by split<;>rfl
  refine⟨λh VN=>?_,λg k d r p=>?_,λc z=>?_⟩
  ·show (if o (aI (aM++[(aU,aV)]) h).1=o aU then o aV else o (aI (aM++[(aU,aV)]) h).1)=(if o h.1=o aU then o aV else o h.1);by_cases S:h=(aU,V8)
   ·rw[S,P,O];exact Wo.trans H.symm
   ·by_cases T:h=(aV,Wd)
    ·rw[T,Q,Ww];exact H.trans Wo.symm
    ·rw[W0 h VN S T,j.fF h VN]
  ·have p:(if o g.1=o aU then o aV else o g.1)=(if o d.1=o aU then o aV else o d.1):=p;by_cases i:o g.1=o d.1
   ·exact u _ _ (j.link g k d r i)
   ·by_cases x:o g.1=o aU
    ·rw[aJ x,aP λy=>i<|x.trans y.symm]at p;exact ((u _ _<|j.link g k _ l x).trans R).trans (u _ _<|j.link _ D d r p)
    ·rw[aP x]at p;by_cases I:o d.1=o aU
     ·rw[aJ I]at p;exact ((u _ _<|j.link g k _ D p).trans R.symm).trans (u _ _<|j.link _ l d r I.symm)
     ·rw[aP I]at p;exact absurd p i
  ·show (if o c.1=o aU then o aV else o c.1)=(if o c.2=o aU then o aV else o c.2);rcases dy.mp z with e|e
   ·rw[j.eJ c e]
   ·rw[cH.mp e];exact H.trans Wo.symm
def SV{F aM:List a4}(e:F.Perm aM)(g d:aw):ew F g d=ew aM g d:=by
 unfold ew;rw[k8,hD,hD,e.mem_iff,e.mem_iff]
def N2{F aM:List a4}(e:F.Perm aM):aI F=aI aM:=by
 funext h;unfold aI;rw[SV e]
def ud{F aM:List a4}{m:aw}(V3:dF E)(Wa:F.Perm aM)(hy:hY E aM o)(f:∀c,eV E c->o c.1=o c.2)(a:m∈E):
  ((range<|4*E.length).map<|b6 (aI F) (m,0)).Perm (c1 E)/\b6 (aI F) (m,0) (4*E.length)=(m,0):=by
 have l:=Qn hy;have VJ:jX (aI F) (c1 E):=qV λc i=>hy.zf c (Wa.mem_iff.mp i);rw[N2 Wa]at VJ ⊢;have n:=V3.con o λg j d k e=>f (g,d) ⟨j,k,e⟩;have b:(m,0)∈c1 E:=e2.mpr ⟨a,by simp⟩;have:=Gt VJ (Af V3.ah) b λh VN=>l.link _ b h VN (n m a h.1 (e2.mp VN).1);rw[vp]at this;exact this
def PO:(c1 E).map es=cells E:=by
 unfold c1 cells;induction E with
 |nil=>rfl
 |cons d E a=>rw[nc,nc,fM,a];rfl
end G
namespace G
open L2
variable{s n:aw}{p:aw->aw}{F:List a4}{E:List aw}{VG:dQ}
def FX(VG:dQ):aC Bool:=((bJ<|av n1 (aa<|bV eO<|aj (ag 2) ay)<|aa<|bV eO<|aj (ag 0) ay))
def Dn(VG:dQ):bo:=((hn<|fH hl 2 ha<|aj (aa<|bf 3 (G.qp VG)<|aj (ag 0)<|aj (ag 1)<|aj (aa<|av a9 (ag 2)<|aa<|lb<|au<|.int 1) ay) ay))
def BA(VG:dQ):bo:=((bL (cn 2<|eI<|aj (aa<|av a9 (ag 0)<|aa<|au<|.int 0) ay)<|bL (j_ (G.FX VG) (G.Dn VG) 1000000)<|cG<|bV iH<|aj (ag 2) ay))
def k_(VG:dQ):cU:=(c6 2 3 [0,1] (BA VG))
def cx(F:List a4)(m:aw)(w:Nat):List aw:=((range w).map λb=>es (b6 (aI F) (m,0) b))
def zi(F:List a4)(m:aw)(w:Nat):(cx F m w).length=w:=by unfold cx;rw[bB,ky]
def y9(F:List a4)(m:aw)(w:Nat):cx F m (w+1)=cx F m w++[es (b6 (aI F) (m,0) w)]:=by
 unfold cx;rw[vI,fM];rfl
def SP(F:List a4)(m:aw)(w:Nat):e5 ((cx F m<|w+1).map ai) (-1)=Z (ai<|es<|b6 (aI F) (m,0) w):=by
 refine II ?_;rw[y9];simp
def w_(p:nF VG){E aE:List aw}{F:List a4}{m:aw}(V3:dF E)(f:aE[0]?=Z m)(g:m∈E)(q:i9 F)(r:∀c∈F,eV E c)(s:aE.length=4*E.length):
  k_ VG [aT aE,.im<|.tup<|F.map aQ]=Z (aT<|cx F m<|4*E.length,[aT aE,.im<|.tup<|F.map aQ]):=by
 have aF:=V3.len;have A:=mH.mpr V3.ne;have VJ:=qV r;have t:(m,0)∈c1 E:=e2.mpr ⟨g,by simp⟩;obtain⟨a,h⟩:∃a:ab,a=.tup (F.map aQ):=⟨_,rfl⟩;have u:a9 (aT aE) (aL 0)=Z (.im<|ai m):=by
  show (e5 (aE.map ai) 0).map ak.im=_;rw[uW ∅ ⇑f];rfl
 have v:cn 2 (eI<|aj (aa<|av a9 (ag 0)<|aa<|au<|.int 0) ay) [Z (aT aE),Z<|.im a,Y]=Z (.aI,[Z (aT aE),Z<|.im a,Z<|aN<|cx F m 1]):=by
  exact lz (FY (bX (aZ<|dA u) rfl) rfl (fu rfl) rfl) (show 2<3 by decide) rfl
 let⟨@VW,x,rfl⟩:=y8 (n:=FX VG) (d:=Dn VG) (λH k=>∃w,k=[Z (aT aE),Z<|.im a,Z<|aN<|cx F m<|w+1]/\w+1+H=4*E.length) (λk=>k=[Z (aT aE),Z<|.im a,Z<|aN<|cx F m<|4*E.length])
  (λH k y=>by
   let⟨@w,rfl,j⟩:=y;refine⟨decide (w+1<4*E.length),[Z (aT aE),Z<|.im a,Z<|aN<|cx F m<|w+1],?_,λhd=>?_,λhd=>?_⟩
   ·have l:=zi F m (w+1);have o:=z3 (cx F m<|w+1);have b:=tN aE;rw[l]at o;rw[s]at b;refine (eD<|b7 (aZ<|er rfl rfl o) (aZ<|er rfl rfl b) rfl rfl rfl).trans ?_;rw[show decide (((w+1:Nat):Int)<((4*E.length:Nat):Int))=decide (w+1<4*E.length) by rw[k8,hD,hD];lia]
   ·have hd:=e9 hd;have VN:=e2.mp (VJ.b6 t w);have i:a9 (aN<|cx F m<|w+1) (aL<|-1)=Z (.im<|ai<|bR (b6 (aI F) (m,0) w).1 (b6 (aI F) (m,0) w).2):=by
     show (e5 ((cx F m<|w+1).map ai)<|-1).map ak.im=_;rw[SP];rfl
    have e:=N8 p (F:=F) V3 f g VN.1 VN.2 q;rw[<-h]at e;have l:=zi F m (w+1);have z:(cx F m<|w+1).length<100000:=⋯
    refine⟨.aI,[Z (aT aE),Z<|.im a,Z<|aN<|cx F m<|w+1+1],?_,.inl rfl,H-1,⋯,w+1,rfl,⋯⟩;have b:(cx F m<|w+1).map ai++[ai (es<|aI F<|b6 (aI F) (m,0) w)]=(cx F m<|w+1+1).map ai:=by
     rw[y9 F m (w+1),fM];rfl
    rw[show (((b6 (aI F) (m,0) w).1,(b6 (aI F) (m,0) w).2):aw×Nat)=b6 (aI F) (m,0) w from rfl]at e;have j:ha (aN<|cx F m<|w+1) [.im (ai<|es<|aI F<|b6 (aI F) (m,0) w)]=Z (.im .aS,aN<|cx F m<|w+1+1):=by
     rw[y9 F m (w+1)];exact Ej z
    exact lg (j7 rfl rfl (di (cC<|g8 (di rfl<|di rfl<|di (cC<|d_ rfl (cC<|Iw rfl) rfl rfl i) rfl) rfl rfl e) rfl) rfl rfl j (by rfl))
   ·have hd:=of_decide_eq_false hd;rw[show w+1=4*E.length by lia]) 1000000 (4*E.length-1) _ ⟨0,rfl,⋯⟩ ⋯
 rw[<-h];unfold k_ BA;exact ix [Z (aT aE),Z<|.im a,Z<|aN<|cx F m<|4*E.length] rfl ((ej v).trans<|(ej x).trans<|dY rfl) rfl
def gO(b:Int):Int:=(if b<0 then -b else b)
theorem GR{V7:Type}(g d:V7->ab):∀M:List V7,fi (M.map g) (M.map d)=M.map λb=>.tup [g b,d b]
 |[]=>rfl
 |f::M=>by rw[cS,cS,fi,GR g d M];rfl
theorem EB(V2:List Int):∀v:Nat,preSum (λb=>(V2[b]?).getD 0) v=(V2.take v).sum
 |0=>rfl
 |v+1=>by
  rw[preSum,EB V2 v,List.take_add_one,List.sum_append];cases V2[v]? with
  |none=>rfl
  |some f=>show _+f=_+(f+0);lia
def Rq(V2:List Int):wZ V2=V2.sum:=by
 have:=EB V2 V2.length;rw[qO]at this;exact this
def AZ:aC ak:=((c0<|aj (aa<|av hH (aa<|av a9 (ag 1)<|aa<|au<|.int 0)<|aa<|av a9 (ag 0)<|aa<|au<|.int 0)<|aj (aa<|av hH (aa<|av a9 (ag 1)<|aa<|au<|.int 1)<|aa<|av a9 (ag 0)<|aa<|au<|.int 1) ay))
def DI:aC ak:=((au<|.int 1))
def GD:aC Bool:=((bJ<|av gj (ag 0)<|ag 1))
def DS:bo:=((bL (cn 1<|dg 2 [] (oD<|aj (ag 0)<|aj (aa<|pa<|oP<|iE (ag 0) (jL<|au<|.int 1) jl) ay) (e_ 2<|c3 (br 0)<|c3 (br 1) fj) d8 G.AZ)<|cG<|bV vG<|aj (aa<|dg 2 [] (oD<|aj (ag 1)<|aj (aa<|pa<|oP<|iE (ag 1) (jL<|au<|.int 1) jl) ay) (e_ 2<|c3 (br 0)<|c3 (br 1) fj) G.GD G.DI) ay))
def vN:cU:=(c6 1 2 [0] DS)
def Gq(VG:dQ):bo:=((bL (cn 2<|bf 2 (G.k_ VG)<|aj (ag 0)<|aj (ag 1) ay)<|cG<|bf 1 G.vN<|aj (aa<|av dp (ag 2)<|aa<|iE (ag 2) jl<|jL<|au<|.int 2) ay))
def n4(VG:dQ):cU:=(c6 2 3 [0,1] (Gq VG))
def sp(n:Nat->aw)(b:Nat):aw:=(((n<|b+1).1-(n b).1,(n<|b+1).2-(n b).2))
def lS(n:Nat->aw)(H:Nat):Nat:=(((range H).filter λb=>!decide (sp n b=sp n (b+1))).length)
theorem Dr:∀(z VR WO:List ab),z.length=WO.length->fi (z++VR) WO=fi z WO
 |[],VR,[],_=>by cases VR<;>rfl
 |f::z,VR,i::WO,e=>by rw[rF,fi,fi,Dr z VR WO ⇑e]
 |[],_,_::_,e=>by simp at e
 |_::_,_,[],e=>by simp at e
def Ju(L:Nat->ab)(w:Nat):fi ((range<|w+1).map L) (((range<|w+1).map L).drop 1)=(range w).map λb=>.tup [L b,L<|b+1]:=by
 have a:(range<|w+1).map L=(range w).map L++[L w]:=by rw[vI,fM];rfl
 have c:((range<|w+1).map L).drop 1=(range w).map λb=>L (b+1):=by
  rw[uE,cS,f5];rfl
 rw[c,a,Dr _ _ _ ↥0];exact GR _ _ _
abbrev cs(n:Nat->aw)(w:Nat):List aw:=(range w).map n
def AH(n:Nat->aw)(w:Nat):(cs n w).map ai=(range w).map λb=>ai (n b):=by rw[f5];rfl
def S4(g d:aw):AZ [Z (.im<|ai g),Z<|.im<|ai d]=Z (.im<|ai (d.1-g.1,d.2-g.2),[Z (.im<|ai g),Z<|.im<|ai d]):=by
 have WR:a9 (.im<|ai g) (aL 0)=Z (aL g.1):=rfl;have a:a9 (.im<|ai g) (aL 1)=Z (aL g.2):=rfl;have T:a9 (.im<|ai d) (aL 0)=Z (aL d.1):=rfl;have aU:a9 (.im<|ai d) (aL 1)=Z (aL d.2):=rfl;exact rW (di (cC<|d_ (cC<|d_ rfl rfl rfl rfl T) (cC<|d_ rfl rfl rfl rfl WR) rfl rfl rfl)<|di (cC<|d_ (cC<|d_ rfl rfl rfl rfl aU) (cC<|d_ rfl rfl rfl rfl a) rfl rfl rfl) rfl) rfl (fu rfl) rfl
theorem Gv:∀M:List Nat,(M.map λ_=>(1:Int)).sum=(M.length:Int)
 |[]=>rfl
 |f::M=>by rw[cS,List.sum_cons,Gv M,dV];lia
def NP(n:Nat->aw)(H:Nat)(e:H<=1000):vN [aT (cs n<|H+2)]=Z (aL<|lS n H,[aT (cs n<|H+2)]):=by
 have dD:dg 2 [] (oD<|aj (ag 0)<|aj (aa<|pa<|oP<|iE (ag 0) (jL<|au<|.int 1) jl) ay) (e_ 2<|c3 (br 0)<|c3 (br 1) fj) d8 G.AZ [Z (aT<|cs n<|H+2),Y]=Z (aN<|cs (sp n)<|H+1,[Z (aT<|cs n<|H+2),Y]):=by
  refine (oO (z:=(range<|H+1).map λb=>.tup [ai (n b),ai<|n<|b+1]) (m:=Y) (VK:=[Z (aT<|cs n<|H+2),Y]) ?_ (jn _ (λb=>ai<|sp n b) (range<|H+1) (λb W=>?_) (by rw[ky];lia))).trans ?_
  ·have i:=Ju (λb=>ai<|n b) (H+1);rw[<-AH]at i;have a:gh ((cs n<|H+2).map ai) (Z 1) Y=((cs n<|H+2).map ai).drop 1:=sv _ 1;have c:kH (aT<|cs n<|H+2) (Z 1) Y=Z (.im<|.tup<|((cs n<|H+2).map ai).drop 1):=by
    show Z (ak.im<|.tup<|gh ((cs n<|H+2).map ai) (Z 1) Y)=_;rw[a]
   rw[<-i];exact HP (di rfl<|di (cC<|Hf<|En<|vr rfl rfl rfl rfl c) rfl) rfl rfl rfl rfl rfl
  ·exact⟨[Z (.im<|ai<|n b),Z<|.im<|ai<|n<|b+1],_,[Z (.im<|ai<|n b),Z<|.im<|ai<|n<|b+1],rfl,rfl,S4 _ _,rfl⟩
  ·show Z (ak.lst _,_)=Z (ak.lst<|(cs (sp n)<|H+1).map ai,_);rw[AH];rfl
 have du:dg 2 [] (oD<|aj (ag 1)<|aj (aa<|pa<|oP<|iE (ag 1) (jL<|au<|.int 1) jl) ay) (e_ 2<|c3 (br 0)<|c3 (br 1) fj) G.GD G.DI [Z (aT<|cs n<|H+2),Z<|aN<|cs (sp n)<|H+1]=Z (.lst<|(((range H).filter λb=>!decide (sp n b=sp n (b+1))).map λ_=>(1:Int)).map .int,[Z (aT<|cs n<|H+2),Z<|aN<|cs (sp n)<|H+1]):=by
  refine (oO (z:=(range H).map λb=>.tup [ai (sp n b),ai<|sp n<|b+1]) (m:=Z (1,aN<|cs (sp n)<|H+1)) (VK:=[Z (aT<|cs n<|H+2),Z .dS]) ?_ (q4 _ (λb=>!decide (sp n b=sp n (b+1))) (λ_=>.int 1) (range H) [] (λb W=>?_) (by simp;lia))).trans ?_
  ·have i:=Ju (λb=>ai<|sp n b) H;rw[<-AH]at i;have a:gh ((cs (sp n)<|H+1).map ai) (Z 1) Y=((cs (sp n)<|H+1).map ai).drop 1:=sv _ 1;have c:kH (aN<|cs (sp n)<|H+1) (Z 1) Y=Z (.lst<|((cs (sp n)<|H+1).map ai).drop 1):=by
    show Z (ak.lst<|gh ((cs (sp n)<|H+1).map ai) (Z 1) Y)=_;rw[a]
   rw[<-i];exact HP (di rfl<|di (cC<|Hf<|En<|vr rfl rfl rfl rfl c) rfl) rfl rfl rfl rfl rfl
  ·have w:=zQ (sp n b) (sp n<|b+1);refine⟨[Z (.im<|ai<|sp n b),Z<|.im<|ai<|sp n<|b+1],[Z (.im<|ai<|sp n b),Z<|.im<|ai<|sp n<|b+1],rfl,?_,λ_=>rfl,λ_=>⟨_,rfl,rfl⟩⟩;exact sV (d_ rfl rfl rfl rfl w)
  ·rw[f5];rfl
 have im:=SG (((range H).filter λb=>!decide (sp n b=sp n (b+1))).map λ_=>(1:Int));have je:=Rq (((range H).filter λb=>!decide (sp n b=sp n (b+1))).map λ_=>(1:Int));rw[Gv]at je;have d:vG [.lst ((((range H).filter λb=>!decide (sp n b=sp n (b+1))).map λ_=>(1:Int)).map .int)]=Z (aL<|lS n H):=by
  show (my _).map (λV2=>ak.im<|.int<|wZ V2)=_;rw[im];show Z (ak.im<|.int<|wZ _)=_;rw[je];rfl
 unfold vN DS;refine ix [Z (aT<|cs n<|H+2),Z<|aN<|cs (sp n)<|H+1] rfl ((ej ((sW dD (show 1<2 by decide)).trans rfl)).trans<|dY ?_) rfl;exact nN (di (cC du) rfl) rfl d
def dk(F:List a4)(m:aw)(b:Nat):aw:=(es (b6 (aI F) (m,0) b))
def NM(F:List a4)(m:aw)(w:Nat):cx F m w=cs (dk F m) w:=rfl
def LP{m:aw}(V3:dF E)(a:b6 (aI F) (m,0) (4*E.length)=(m,0)):
  ∃f,kH (aT<|cx F m<|4*E.length) Y (Z 2)=Z (.im f)/\dp (aT<|cx F m<|4*E.length) (.im f)=Z (aT<|cs (dk F m)<|4*E.length+2):=by
 have aF:=V3.len;have j:=mH.mpr V3.ne;rw[NM];have b:((cs (dk F m)<|4*E.length).map ai).length=4*E.length:=by rw[bB,bB,ky]
 have c:gh ((cs (dk F m)<|4*E.length).map ai) Y (Z 2)=((cs (dk F m)<|4*E.length).map ai).take 2:=Bf _ 2;have d:(cs (dk F m)<|4*E.length).map ai++((cs (dk F m)<|4*E.length).map ai).take 2=(cs (dk F m)<|4*E.length+2).map ai:=by
  rw[<-ly,<-fM];congr 1;obtain⟨VX,e⟩:∃VX,4*E.length=VX+2:=⟨4*E.length-2,⋯⟩;have g:(cs (dk F m)<|4*E.length).take 2=[dk F m 0,dk F m 1]:=by
   rw[e];show ((range<|VX+2).map<|dk F m).take 2=_;rw[uE,uE];rfl
  have h:dk F m (4*E.length)=dk F m 0:=by unfold dk;rw[a];rfl
  have i:dk F m (4*E.length+1)=dk F m 1:=by
   show es (aI F<|b6 (aI F) (m,0)<|4*E.length)=_;rw[a];rfl
  rw[g,<-h,<-i];show _=(range<|4*E.length+1+1).map (dk F m);rw[vI,vI,fM,fM,bz];rfl
 refine⟨.tup<|((cs (dk F m)<|4*E.length).map ai).take 2,?_,?_⟩
 ·show Z (ak.im<|.tup<|gh ((cs (dk F m)<|4*E.length).map ai) Y<|Z 2)=_;rw[c]
 ·show (if _ then _ else _)=_;rw[aJ (by rw[b,h5,b];lia),d]
def Ik(d:nF VG){E aE:List aw}{F:List a4}{m:aw}(V3:dF E)(e:aE[0]?=Z m)(g:m∈E)(h:i9 F)(i:∀c∈F,eV E c)(j:aE.length=4*E.length)(k:b6 (aI F) (m,0) (4*E.length)=(m,0)):
  n4 VG [aT aE,.im<|.tup<|F.map aQ]=Z (aL<|lS (dk F m)<|4*E.length,[aT aE,.im<|.tup<|F.map aQ]):=by
 have b:=w_ d V3 e g h i j;have aF:=V3.len;have ck:=NP (dk F m) (4*E.length) ⋯;let⟨f,l,n⟩:=LP V3 k;generalize (.tup (F.map aQ):ab)=a at b ⊢;unfold n4 Gq;have o:cn 2 (bf 2 (G.k_ VG)<|aj (ag 0)<|aj (ag 1) ay) [Z (aT aE),Z<|.im a,Y]=Z (.aI,[Z (aT aE),Z<|.im a,Z<|aT<|cx F m<|4*E.length]):=by
  exact h7 (g8 rfl rfl rfl b) (show 2<3 by decide) rfl
 refine ix [Z (aT aE),Z<|.im a,Z<|aT<|cx F m<|4*E.length] rfl ((ej o).trans<|dY ?_) rfl;exact c5 (di (cC<|d_ rfl (cC<|vr rfl rfl rfl rfl l) rfl rfl n) rfl) rfl rfl ck rfl
def gr(o:aw->aw)(c:a4):aw->aw:=(λd=>if o d=o c.2 then o c.1 else o d)
def bK(h:(aw->aw)×List a4)(c:a4):(aw->aw)×List a4:=(if h.1 c.1=h.1 c.2 then h else (gr h.1 c,h.2++[c]))
def fb(U:List a4)(h:(aw->aw)×List a4):(aw->aw)×List a4:=(U.foldl bK h)
structure lu(E:List aw)(h:(aw->aw)×List a4):Prop where
 kR:∀d∈E,h.1 d∈E
 fix:∀d∈E,h.1 (h.1 d)=h.1 d
 cnt:E.countP (λd=>decide (h.1 d=d))+h.2.length=E.length
 gen:∀p:aw->aw,(∀c∈h.2,p c.1=p c.2)->∀d∈E,p (h.1 d)=p d
def lu.start(E:List aw):lu E (λd=>d,[]):=⟨λd e=>e,λ_ W=>rfl,by show E.countP (λd=>decide (d=d))+0=_;simp,λ_ W W W=>rfl⟩
def E6{o:aw->Bool}{f:aw}(ah:E.Nodup)(a:f∈E)(b:o f=V):E.countP o=E.countP (λd=>o d && !decide (d=f))+1:=by
 induction E with
 |nil=>cases a
 |cons g r e=>
  let⟨h,j⟩:=hN.mp ah;by_cases c:g=f
  ·subst c;rw[List.countP_cons_of_pos b,List.countP_cons_of_neg ↥0];congr 1;refine vk λd k=>?_;have:d≠g:=λi=>h (i ▸ k);simp[this]
  ·have l:f∈r:=(bO.mp a).resolve_left λi=>c i.symm;have:=e j l;rw[vD,vD,this];simp[c];lia
def lu.step{E:List aw}{h:(aw->aw)×List a4}(Wk:lu E h)(ah:E.Nodup){c:a4}(A:c.1∈E)(C:c.2∈E):lu E (bK h c):=by
 unfold bK;split
 ·exact Wk
 ·rename_i ne;let⟨o,aM⟩:=h;have ne:o c.1≠o c.2:=ne;have b:o (o c.1)=o c.1:=Wk.fix _ A;have j:o (o c.2)=o c.2:=Wk.fix _ C;refine⟨λd a=>?_,λd a=>?_,?_,λp g d a=>?_⟩
  ·show (if o d=o c.2 then o c.1 else o d)∈E;split
   ·exact Wk.kR _ A
   ·exact Wk.kR _ a
  ·show gr o c (gr o c d)=gr o c d;have k:o (o d)=o d:=Wk.fix d a;unfold gr;by_cases i:o d=o c.2
   ·rw[aJ i,b,aP ne]
   ·rw[aP i,k,aP i]
  ·have n:=Wk.cnt;have m:=E6 (o:=λd=>decide (o d=d)) ah (Wk.kR _ C) (dJ j);have l:E.countP (λd=>decide (gr o c d=d))=E.countP (λd=>decide (o d=d) && !decide (d=o c.2)):=by
    refine vk λd a=>?_;unfold gr;by_cases i:o d=o c.2
    ·rw[aJ i];constructor
     ·intro e;have e:=e9 e;rw[<-e,b]at i;exact absurd i ne
     ·intro e;simp at e;exact absurd (e.1.symm.trans i) e.2
    ·rw[aP i];have:o d=d->d≠o c.2:=λe y=>i (e.trans y);simp;exact this
   show E.countP (λd=>decide (gr o c d=d))+(aM++[c]).length=_;rw[l,d7,ko];dsimp only at n;lia
  ·have L:=Wk.gen p λf q=>g f (eL _ q);have r:p c.1=p c.2:=g c (ez _<|.head _);show p (if o d=o c.2 then o c.1 else o d)=p d;split
   ·rename_i i;rw[L _ A,r,<-L _ C];show p (o c.2)=_;rw[<-i];exact L _ a
   ·exact L _ a
theorem AN{E:List aw}(ah:E.Nodup):∀(U:List a4) (h:(aw->aw)×List a4),lu E h->(∀c∈U,c.1∈E/\c.2∈E)->lu E (fb U h)/\(∃VZ,(fb U h).2=h.2++VZ/\VZ.Sublist U)/\(∀c∈U,(fb U h).1 c.1=(fb U h).1 c.2)/\∀f t,h.1 f=h.1 t->(fb U h).1 f=(fb U h).1 t
 |[],h,Wk,_=>⟨Wk,⟨[],(cj _).symm,.slnil⟩,(λ_ i=>nomatch i),λ_ W i=>i⟩
 |c::U,h,Wk,e=>by
  have b:=Wk.step ah (e c<|.head _).1 (e c<|.head _).2;let⟨g,⟨VZ,aU,aV⟩,n,s⟩:=AN ah U (bK h c) b λf a=>e f (.tail _ a);have V8:∀f t,h.1 f=h.1 t->(bK h c).1 f=(bK h c).1 t:=λf t i=>by
   unfold bK;split
   ·exact i
   ·show gr h.1 c f=gr h.1 c t;unfold gr;rw[i]
  have Wd:(bK h c).1 c.1=(bK h c).1 c.2:=by
   unfold bK;split
   ·rename_i i;exact i
   ·rename_i i;show gr h.1 c c.1=gr h.1 c c.2;unfold gr;rw[aP i,aJ rfl]
  refine⟨g,?_,λf a=>?_,λf t i=>s f t<|V8 f t i⟩
  ·show ∃VZ,(fb U<|bK h c).2=_/\_;rw[aU];unfold bK;split
   ·exact⟨VZ,rfl,aV.cons c⟩
   ·exact⟨c::VZ,by rw[bz];rfl,aV.cons₂ c⟩
  ·rcases bO.mp a with i|i
   ·rw[i];exact s _ _ Wd
   ·exact n f i
def yd(E:List aw)(F:List a4):Prop:=(∀p:aw->aw,(∀c∈F,p c.1=p c.2)->∀g∈E,∀d∈E,p g=p d)
def C4{h:(aw->aw)×List a4}(Wk:lu E h)(ah:E.Nodup)(ne:E≠[])(e:∀g∈E,∀d∈E,h.1 g=h.1 d):h.2.length+1=E.length:=by
 let⟨m,a⟩:=List.exists_mem_of_ne_nil _ ne;have c:E.countP (λd=>decide (h.1 d=d))=1:=by
  rw[E6 ah (Wk.kR m a) (dJ<|Wk.fix m a)];have:E.countP (λd=>decide (h.1 d=d) && !decide (d=h.1 m))=0:=by
   rw[List.countP_eq_zero];intro d b;simp;intro i;rw[<-i];exact e d b m a
  rw[this]
 have:=Wk.cnt;lia
theorem GP{o:aw->aw}{aM:List a4}{E:List aw}(e:∀g∈E,∀d∈E,o g=o d):∀U:List a4,(∀c∈U,c.1∈E/\c.2∈E)->fb U (o,aM)=(o,aM)
 |[],_=>rfl
 |c::U,a=>by
  show fb U (bK (o,aM) c)=_;rw[show bK (o,aM) c=(o,aM) from aJ (e _ (a c<|.head _).1 _ (a c<|.head _).2)];exact GP e U λf b=>a f (.tail _ b)
def Of(V3:dF E)(a:∀c∈F,eV E c)(i:F.length+1=E.length)(VN:yd E F):(fb (F++dP E) (λd=>d,[])).2=F:=by
 have b:∀c∈dP E,c.1∈E/\c.2∈E:=λc e=>⟨(kh.mp e).1,(kh.mp e).2.1⟩;let⟨Wk,⟨VZ,f,g⟩,n,W⟩:=AN V3.ah F (λd=>d,[]) (lu.start E) λc e=>⟨(a c e).1,(a c e).2.1⟩;have all:=VN _ n;have M:=C4 Wk V3.ah V3.ne all;have c:fb (F++dP E) (λd=>d,[])=fb (dP E) (fb F (λd=>d,[])):=Ei;rw[c];generalize fb F (λd=>d,[])=h at *;let⟨o,aM⟩:=h;rw[GP all _ b];have:aM=VZ:=f;rw[this];exact g.eq_of_length (by rw[<-this];dsimp only at M;lia)
def R_(e:n∈E):g9 (cp E p) (d3 n) (ai s)=cp E (λd=>if d=n then s else p d):=by
 have a:((cp E p).any λb=>decide (b.1=d3 n))=V:=oH.mpr ⟨(d3 n,ai<|p n),dK.mpr ⟨n,e,rfl⟩,dJ rfl⟩;unfold g9;rw[aJ a];unfold cp;rw[f5];refine oE λd W=>?_;show (if d3 d=d3 n then (d3 d,ai s) else (d3 d,ai<|p d))=(d3 d,ai<|if d=n then s else p d);by_cases i:d=n
 ·rw[aJ (congrArg d3 i),aJ i]
 ·rw[aP λy=>i<|qW y,aP i]
def OZ{o:aw->aw}(e:∀d∈E,o d=p d):cp E o=cp E p:=oE λd a=>by rw[e d a]
def zg{V7:Type}{n s:Prop}[Decidable n][Decidable s]{g d:V7}(e:n↔s):(if n then g else d)=if s then g else d:=by
 by_cases i:n
 ·rw[aJ i,aJ<|e.mp i]
 ·rw[aP i,aP λy=>i<|e.mpr y]
def jP(u J:aw)(p:aw->aw)(n:aw):aw->aw:=(λd=>if d=n/\p n=u then J else p d)
theorem E3{u J:aw}(ne:J≠u):∀(a:List aw) (p:aw->aw) (d:aw),a.foldl (jP u J) p d=if d∈a/\p d=u then J else p d
 |[],p,d=>by rw[aP λi=>nomatch i.1];rfl
 |n::a,p,d=>by
  rw[nU,E3 ne a];by_cases i:d=n
  ·subst i;by_cases y:p d=u
   ·have c:jP u J p d d=J:=aJ ⟨rfl,y⟩;rw[c,aP λt=>ne t.2,aJ ⟨.head _,y⟩]
   ·have c:jP u J p d d=p d:=aP λt=>y t.2;rw[c,aP λt=>y t.2,aP λt=>y t.2]
  ·have c:jP u J p n d=p d:=aP λt=>i t.1;rw[c];refine zg ?_;rw[bO];exact⟨λt=>⟨.inr t.1,t.2⟩,λt=>⟨t.1.resolve_left i,t.2⟩⟩
def UK(e:n∈E)(a:E.length<=1000):hU (.aR<|cp E p) (.im<|ai n) (.im<|ai s)=Z (.aR<|cp E<|λd=>if d=n then s else p d):=by
 rw[<-R_ e];exact aJ ⟨rfl,by unfold cp;rw[bB];lia⟩
end G
namespace L2
open Spec PyProof.Rows
variable{p G:List (ae×bc)}{W9:af->ao->Prop}{VN:List zI}{WE:zI}{WU:List bC}{WT dH W_ VT o:Pos}{aG WI N:ae}{h WN:ao}{x:a8}{VD:fV}{Wg M:List eg}{P:bE}{WZ WR:af}{W8 j:aA}{D:Unit->ao->Prop}{T:Array af}{WC:bc}{VB e:aY}{VU:List ae}{y:bj}{VJ:bF}{V1:hp}{Wx WD:aC bI}{d c g:bt}{b q w:Nat}{U:List bt}{L:aC (List bI)}{V4:List Nat}{VX VQ:List aD}{WH f:aD}{R:Φ}{S:cU}
def rO:List (ae×bc)->Bool
 |[]=>V
 | (_,m)::r=>(match m.data with
  |.seq _ _=>(match m.cls with | .type w=>w != "list" |_=>V)
  |_=>V)&&rO r
def SS{R:List (ae×bc)}{g:ae}{m:bc}{VP:Array af}(e:rO R=V)(c:R.lookup g=Z m)(a:m.cls=.type "list")(hd:m.data=.seq VP w):False:=by
 induction R with
 |nil=>cases c
 |cons o r b=>
  let⟨d,f⟩:=o;rw[rO,cV]at e;simp only[List.lookup]at c;split at c
  ·cases c;have A:=e.1;rw[hd]at A;dsimp only at A;rw[a]at A;exact absurd A ∅
  ·exact b e.2 c
theorem H4{j:aA}:∀V2:List Int,bN j (V2.map .int) (V2.map ar.int)
 |[]=>rfl
 |w::r=>⟨.int w,_,rfl,rfl,H4 r⟩
def MF(b:rO R=V)(j:aA)(g:ae)(V2:List Int)(d:vX j)(f:dv R j g (V2.map ar.int))(a:∃i,S [.dE (V2.map .int)]=Z (.im<|.aF V,i)){VD:fV}:kj 1 S [.ref g] j (λu W=>u=.aF V) VD:=by
 let⟨@i,a⟩:=a;have h:∃m,j g=Z (.dw m<|.lst<|V2.map ar.int):=by
  rcases f with (e|e)|⟨m,VP,w,A,C,o,k,_⟩
  ·rcases d g with c|⟨m,z,c⟩
   ·rw[c]at e;cases e
   ·rw[c]at e;cases e
  ·exact e
  ·exact (SS b A C k).elim
 let⟨@m,n⟩:=h;refine⟨rfl,[.dE (V2.map .int)],[],.im<|.aF V,i,⟨_,_,[],[],rfl,⟨g,_,m,rfl,n,H4 V2,rfl⟩,⟨rfl,rfl⟩,rfl⟩,mA,a,λu Q VI l e W W=>?_⟩;exact e.1
def qY{VZ:List af}(e:VZ.length=w+1):∃g r,VZ=g::r/\r.length=w:=by
 cases VZ with
 |nil=>cases e
 |cons g r=>exact⟨g,r,rfl,Nat.succ.inj e⟩
def gS.Uu{X:bC}{fd:gR}(O:gS R f WH X N fd)(e:∀(cT k Wa:af) (F:Option ae) (Wm cI:af) (g:af),nh (Ξ f WH (jG X) (gX X) (dZ X) .none cT k Wa F Wm cI) ⟨[g],[]⟩=pure (VQ.zip [g]))(b:VQ.length=1:=by rfl):iG R fd VQ []:=
 O.binds λcT k Wa F Wm cI VZ a=>by
  replace a:=a.trans b;let⟨g,@c,rfl,A⟩:=qY a;obtain rfl:=s7 A;exact e cT k Wa F Wm cI g
def gS.L4{X:bC}{fd:gR}(O:gS R f WH X N fd)(e:∀(cT k Wa:af) (F:Option ae) (Wm cI:af) (g d:af),nh (Ξ f WH (jG X) (gX X) (dZ X) .none cT k Wa F Wm cI) ⟨[g,d],[]⟩=pure (VQ.zip [g,d]))(b:VQ.length=2:=by rfl):iG R fd VQ []:=
 O.binds λcT k Wa F Wm cI VZ a=>by
  replace a:=a.trans b;let⟨g,@c,rfl,A⟩:=qY a;let⟨d,@h,rfl,C⟩:=qY A;obtain rfl:=s7 C;exact e cT k Wa F Wm cI g d
def gS.KY{X:bC}{fd:gR}(O:gS R f WH X N fd)(e:∀(cT k Wa:af) (F:Option ae) (Wm cI:af) (g d n:af),nh (Ξ f WH (jG X) (gX X) (dZ X) .none cT k Wa F Wm cI) ⟨[g,d,n],[]⟩=pure (VQ.zip [g,d,n]))(b:VQ.length=3:=by rfl):iG R fd VQ []:=
 O.binds λcT k Wa F Wm cI VZ a=>by
  replace a:=a.trans b;let⟨g,@h,rfl,A⟩:=qY a;let⟨d,@i,rfl,C⟩:=qY A;let⟨n,@j,rfl,c⟩:=qY C;obtain rfl:=s7 c;exact e cT k Wa F Wm cI g d n
structure eh where
 P:bF
 w:bj
 K:Φ
 aB:aD->Option af
 base:aY
def dj(R:Φ)(f:aD)(X:bC)(N:ae):Prop:=(∃fd,gS R f f X N fd/\Ψ R d2 f=Z (Z<|.ref N))
def dm(R:Φ)(aB:aD->Option af)(f:aD)(X:bC)(N:ae)(VQ:List aD):Prop:=(∃fd,gS R f f X N fd/\iG R fd VQ []/\aB f=Z (.ref N))
def cP(VJ:bF)(y:bj)(R:Φ)(aB:aD->Option af)(VM:aY)(q:Nat)(f:aD)(X:bC)(N:ae)(VQ:List aD)(w:Nat)(S:cU):Prop:=(∃fd,gS R f f X N fd/\iG R fd VQ []/\aB f=Z (.ref N)/\hg VJ y R aB VM ik q N fd VQ (kj w S))
abbrev eK(n:eh):=cP n.P n.w n.K n.aB n.base
def GK{X:bC}{C:af}{A F:Option ae}{W7:Array (Option af)}{cT k Wa Wm cI:af}(g:Ψ R d2 f=Z (Z<|.ref N))(M:R.lookup N=Z ⟨C,A,.func<|Ξ f f (jG X) (gX X) (dZ X) .none cT k Wa F Wm cI,W7⟩)(n:Ω R Wm f=V)(q:Θ R (.ref N)=V):dj R f X N:=⟨_,UH M n q,g⟩
section
variable{VJ:bF}{y:bj}{R:Φ}{aB:aD->Option af}{VM e:aY}{q w:Nat}{f:aD}{X:bC}{N:ae}{VQ:List aD}{S:cU}
def dj.aU(r:dj R f X N)(a:R.In e)(c:e.Ns d2 aB)(d:∀(cT k Wa:af) (F:Option ae) (Wm cI g:af),nh (Ξ f f (jG X) (gX X) (dZ X) .none cT k Wa F Wm cI) ⟨[g],[]⟩=pure (VQ.zip [g]):=by intros;rfl)(h:VQ.length=1:=by rfl):dm R aB f X N VQ:=
 have ⟨_,b,g⟩:=r
 ⟨_,b,b.Uu d h,nZ a c g⟩
def dj.aV(r:dj R f X N)(a:R.In e)(c:e.Ns d2 aB)(h:∀(cT k Wa:af) (F:Option ae) (Wm cI g d:af),nh (Ξ f f (jG X) (gX X) (dZ X) .none cT k Wa F Wm cI) ⟨[g,d],[]⟩=pure (VQ.zip [g,d]):=by intros;rfl)(i:VQ.length=2:=by rfl):dm R aB f X N VQ:=
 have ⟨_,b,g⟩:=r
 ⟨_,b,b.L4 h i,nZ a c g⟩
def dj.sf(r:dj R f X N)(a:R.In e)(c:e.Ns d2 aB)(h:∀(cT k Wa:af) (F:Option ae) (Wm cI g d n:af),nh (Ξ f f (jG X) (gX X) (dZ X) .none cT k Wa F Wm cI) ⟨[g,d,n],[]⟩=pure (VQ.zip [g,d,n]):=by intros;rfl)(i:VQ.length=3:=by rfl):dm R aB f X N VQ:=
 have ⟨_,b,g⟩:=r
 ⟨_,b,b.KY h i,nZ a c g⟩
def cP.m(aG:cP VJ y R aB VM q f X N VQ w S):aB f=Z (.ref N):=have ⟨_,_,_,H,_⟩:=aG;H
def cP.fd{fd:gR}(aG:cP VJ y R aB VM q f X N VQ w S)(b:gS R f f X N fd):hg VJ y R aB VM ik q N fd VQ (kj w S):=by
 let⟨@e,d,W,W,L⟩:=aG;let⟨C,A,cT,k,Wa,F,Wm,cI,@W7,c,M,W⟩:=b.ex;let⟨g,h,i,j,l,m,n,o,@p,r,a,W⟩:=d.ex;rw[M]at a;cases a;exact L
def NG(r:dj R f X N)(a:R.In e)(i:e.Ns d2 aB){b:ae}(j:aB f=Z (.ref b)){o:aD}(l:∀(cT k Wa:af) (F:Option ae) (Wm cI:af) (h:ao) (u:af),nq h (Ξ f f (jG X) (gX X) (dZ X) .none cT k Wa F Wm cI) ⟨[u],[]⟩ [(o,u)])(aG:∀VM,cP VJ y R aB VM q f X N [o] w S):
  ∃fd:gR,(∀(h:ao) (u:af),nq h fd ⟨[u],[]⟩ [(o,u)])/\∀VM:aY,R.In VM->VM.Ns d2 aB->hg VJ y R aB VM ik q b fd [o] (kj w S):=by
 let⟨@fd,c,g⟩:=r;cases j.symm.trans (nZ a i g);refine⟨fd,?_,λd U U=>(aG d).fd c⟩;let⟨C,A,cT,k,Wa,F,Wm,cI,@W7,rfl,M,U⟩:=c.ex;exact l cT k Wa F Wm cI
def Ra{L:bo}(O:dm R aB f X N VQ)(VU:kU VX VQ (dZ X))(c:VQ.length=w)(e:∀b∈V4,b<w)(g:VX.Nodup->∀(Wm:af) (P:bE) (Wg:List eg) (h:ao) (j:aA) (VD:fV),ep q (P.deeper<|iT f (dZ X) h.heap.objs.size N Wm)->hR (iS ik VJ y R aB VM VX f (dZ X) N Wm P Wg h j VD).oS V4 (gX X) L):
  cP VJ y R aB VM (q+1) f X N VQ w (c6 w VX.length V4 L):=
 have ⟨_,a,d,H⟩:=O
 ⟨_,a,d,H,L3 a VU c e<|g VU.ah⟩
end
section
variable{a:aK}
variable{H:Nat}
def JW{X:bC}(aG:cP a.prog a.w a.K a.aB a.base q f X N VQ w S)(b:ep H a.A)(e:eG a f)(g:fD a (c::U) L)(h:q<=H:=by decide)(i:(f==("__debug__" : aD))=aq:=by decide)(j:bP (c::U) a.env=(aq,b_ c a.env)::bP U a.env:=by rfl)(k:(fE VT<|bP U a.env).any (·.1)=aq:=by rfl):
  cw a (.Call (.Name f o) (c::U) [] VT) (bf w S L):=
 have ⟨_,l,d,H,O⟩:=aG
 UT O (b.mono h) e H l.cL d g i j k
def F7{X:bC}{t:aD}(aG:cP a.prog a.w a.K a.aB a.base q t X N VQ w S)(e:ep H a.A)(g:bW a (.Name f o) (mI b))(h:fD a (c::U) L)(i:q<=H:=by decide)(j:bP (c::U) a.env=(aq,b_ c a.env)::bP U a.env:=by rfl)(k:(fE VT<|bP U a.env).any (·.1)=aq:=by rfl):
  cw a (.Call (.Name f o) (c::U) [] VT) (su b N w S L):=
 have ⟨_,l,d,_,O⟩:=aG
 PR O (e.mono i) g l.cL d h j k
def bb{b:Int}{v VT}:dC a (.Constant (.int b) v VT) (aa<|au<|.int b):=a0 ie
def az(b:Nat){f:aD}{VT:Pos}(c:a.N[b]?=Z f:=by rfl)(d:ve a.env.scope f:=by first|exact Or.inl rfl|exact Or.inr (Or.inl rfl)|exact Or.inr (Or.inr rfl))(hd:(f==("__debug__" : aD))=aq:=by decide)(e:(f==("__classdict__" : aD))=aq:=by decide):dC a (.Name f VT) (ag b):=JO (D8 c d hd e)
def bG{L:aC bI}(b:dC a c L)(VN:bP [c] a.env=(aq,b_ c a.env)::bP [] a.env:=by rfl):fD a [c] (aj L ay):=nr b l2 VN
def lG(b:ep H a.A)(c:dC a g WD)(e:dC a d Wx)(VN:uh d:=by exact λ_ W=>rfl):cw a (.Subscript g d VT) (av a9 WD Wx):=jt (G4 (by have:=b.un;lia)) c e VN
variable{e:aC bI}
def bZ{N:bt}{L:aC bI}(b:dC a c L)(d:dC a N e)(VN:bP [c,N] a.env=(aq,b_ c a.env)::bP [N] a.env:=by rfl)(C:bP [N] a.env=(aq,b_ N a.env)::bP [] a.env:=by rfl):fD a [c,N] (aj L<|aj e ay):=nr b (bG d C) VN
def j9{N s:bt}{L q:aC bI}(b:dC a c L)(d:dC a N e)(hd:dC a s q)(VN:bP [c,N,s] a.env=(aq,b_ c a.env)::bP [N,s] a.env:=by rfl)(A:bP [N,s] a.env=(aq,b_ N a.env)::bP [s] a.env:=by rfl)(C:bP [s] a.env=(aq,b_ s a.env)::bP [] a.env:=by rfl):fD a [c,N,s] (aj L<|aj e<|aj q ay):=nr b (bZ d hd A C) VN
def d5(b:Nat){f:aD}{c:bt}{L:aC ak}{VT WW:Pos}(d:a.N.Nodup)(e:cw a c L)(VF:a.N[b]?=Z f:=by rfl)(g:i_ a.env.scope f:=by exact Or.inl rfl)(h:b∉V4:=by decide)(VN:mz c (Z<|.Name f WW) VT.line a.env=pure aq:=by rfl)(i:a.fn f=V\/a.env.scope.names.lookup f=Z .local:=by first|exact .inl rfl|exact .inr rfl|assumption):gH a V4 (.Assign [.Name f WW] c VT) (cn b L):=sj d VF g e h VN i
def gf(b:Nat){f:aD}{VT:Pos}(c:a.N.Nodup)(VF:a.N[b]?=Z f:=by rfl)(d:i_ a.env.scope f:=by exact Or.inl rfl)(e:b∉V4:=by decide)(g:a.fn f=V\/a.env.scope.names.lookup f=Z .local:=by first|exact .inl rfl|exact .inr rfl|assumption):h6 a V4 (.Name f VT) (br b):=oc c VF d e g
def wG:List aD->Bool
 |[]=>V
 |f::M=>!M.contains f&&wG M
theorem I5:∀{M:List aD},wG M=V->M.Nodup
 |[],_=>mA
 |f::M,e=>by
  rw[wG,cV,vR]at e;refine hN.mpr ⟨λi=>?_,I5 e.2⟩;rw[List.contains_iff_mem.mpr i]at e;cases e.1
def fT(b:Nat){f:aD}{VT:Pos}(VF:a.N[b]?=Z f:=by rfl)(c:wG a.N=V:=by kernel_rfl)(d:i_ a.env.scope f:=by exact Or.inl rfl)(e:b∉V4:=by decide)(g:a.fn f=V\/a.env.scope.names.lookup f=Z .local:=by first|exact .inl rfl|exact .inr rfl|assumption):h6 a V4 (.Name f VT) (br b):=oc (I5 c) VF d e g
def jO{Wh WG WX:bt}(own:List aD)(Wi:List Nat){E:jr}{t:fs}{W0:aC ak}(VF:mX a Wh WG E)(c:∀b,h6 (a.gd (f7 a own Wi) V1 b) (qu own.length Wi.length) Wh t)(d:∀b,cw (a.gd (f7 a own Wi) V1 b) WX W0)(VU:x2 a.env.scope a.N V1 Wi=V:=by kernel_rfl)(e:a.calm=V:=by rfl)(ah:Wi.Nodup:=by decide)(VN:∀f,mQ WG a.env f=pure f:=by intro W;rfl):cw a (.ListComp WX [⟨Wh,WG,[],0⟩] V1 VT) (dg own.length Wi E t d8 W0):=
 wF e (pW _ _ VU rfl rfl) ah VF c (λ_=>xx) d VN
def jU{L e:fs}{b}(c:h6 a V4 g L)(f:h6 a V4 d e)(h:a.calm=V:=by rfl)(A:(hr [g,d] a.env).map (·.2)=jd g a.env::(hr [d] a.env).map (·.2):=by rfl)(C:(hr [d] a.env).map (·.2)=jd d a.env::(hr [] a.env).map (·.2):=by rfl)(i:(hr [g,d] a.env).length=2:=by rfl)(j:(hr [g,d] a.env).findIdx? (·.1)=Y:=by rfl):h6 a V4 (.Tuple [g,d] b VT) (e_ 2<|c3 L<|c3 e fj):=Lq h (C0 c (C0 f Np C) A) i j
def dN{id:String}{Wr:List ak->Option ak}(b:g5 a (.builtin id) Wr)(d:a.aB f=Y)(e:fR f=Z (.builtin id))(g:fD a (c::U) L)(h:eG a f:=by rfl)(i:f ≠ "__name__" := by decide)(j:(f==("__debug__" : aD))=aq:=by decide)(k:bP (c::U) a.env=(aq,b_ c a.env)::bP U a.env:=by rfl)(l:(fE VT<|bP U a.env).any (·.1)=aq:=by rfl):
  cw a (.Call (.Name f o) (c::U) [] VT) (bV Wr L):=NI b h d e g i j k l
def cc{X:bC}(aG:cP a.prog a.w a.K a.aB a.base q f X N VQ w S)(b:ep H a.A)(d:fD a (c::U) L)(e:eG a f:=by rfl)(g:q<=H:=by decide)(h:(f==("__debug__" : aD))=aq:=by decide)(i:bP (c::U) a.env=(aq,b_ c a.env)::bP U a.env:=by rfl)(j:(fE VT<|bP U a.env).any (·.1)=aq:=by rfl):
  cw a (.Call (.Name f o) (c::U) [] VT) (bf w S L):=JW aG b e d g h i j
def c9(b:ep H a.A)(c:dC a g WD)(e:dC a d Wx)(VN:uh d:=by exact λ_ W=>rfl):dC a (.Subscript g d VT) (aa<|av a9 WD Wx):=a0 (lG b c e VN)
def cK{Wr:y_}{N:ak->ak->Option ak}(b:fm a (gn Wr) N)(c:dC a g WD)(e:dC a d Wx):dC a (.BinOp g Wr d VT) (aa<|av N WD Wx):=a0 (l6 b c e)
def gB{b}(e:fD a U L):dC a (.Tuple U b VT) (aa<|c0 L):=a0 (jo e)
end
section
variable{VJ:bF}{y:bj}{R:Φ}{aB:aD->Option af}{VM e:aY}{q w:Nat}{f:aD}{X:bC}{N:ae}{VQ:List aD}{S:cU}
def CL{VJ:List aD}{l:hp}(g:l.kind=.function:=by rfl)(d:l.isCoroutine=aq:=by rfl)(n:l.isGenerator=aq:=by rfl)(s:VX.Nodup:=by decide +kernel)(c:VX.take VJ.length=VJ:=by rfl)(N:∀f∈VJ,l.names.lookup f=Z .local\/l.names.lookup f=Z .cell:=by decide +kernel)(L:∀t∈l.names,t.2≠.free:=by decide +kernel):kU VX VJ l:=⟨g,d,n,s,c,N,L⟩
def dU{L:bo}(VX:List aD)(O:dm R aB f X N VQ)(a:VX.Nodup->∀(Wm:af) (P:bE) (Wg:List eg) (h:ao) (j:aA) (VD:fV),ep q (P.deeper<|iT f (dZ X) h.heap.objs.size N Wm)->hR (iS ik VJ y R aB VM VX f (dZ X) N Wm P Wg h j VD).oS V4 (gX X) L)(VU:kU VX VQ (dZ X):=by exact CL)(c:VQ.length=w:=by rfl)(d:∀b∈V4,b<w:=by decide):cP VJ y R aB VM (q+1) f X N VQ w (c6 w VX.length V4 L):=Ra O VU c d a
end
def dG.gone{g:ae}(f:dG VJ y j e)(w:e.get? g=Y):j g=Y:=by
 cases p:j g with
 |none=>rfl
 |some m=>
  have a:∃J,e.get? g=Z J:=by
   have i:=f g m p;clear p;induction m with
   |lst z=>let⟨W,VP,H,W,c⟩:=i;exact⟨_,c⟩
   |tup z=>let⟨W,VP,W,WA,c,W⟩:=i;exact⟨_,c⟩
   |dR VS=>let⟨W,W,T,W,WA,U,WB,c,W⟩:=i;exact⟨_,c⟩
   |aR VS=>let⟨W,W,z,W,WA,U,WB,c,W⟩:=i;exact⟨_,c⟩
   |set VU H=>let⟨WA,U,WB,I,c,W⟩:=i;exact⟨_,c⟩
   |ins aG k aE=>let⟨W,W,W,c,W⟩:=i;exact⟨_,c⟩
   |own _=>exact i
   |vE aE=>let⟨l,⟨m,U,WB,c,W⟩,W⟩:=i;exact⟨_,c⟩
   |lM E VF=>let⟨I,J,u,c⟩:=i;exact⟨_,c⟩
   |dw WA J b=>exact⟨_,i.1⟩
   |nA VQ=>exact⟨_,i⟩
   |met N t=>exact⟨_,i⟩
   |ext d=>exact i.2.1
  let⟨J,c⟩:=a;rw[w]at c;cases c
section
variable{aC:gw}{P:bE}{W9:af->ao->Prop}{h:ao}{VJ:bF}{y:bj}{j:aA}{VM:aY}{VC:eg}{Wg:List eg}{WI c:ae}
def xW(b:h.heap.FunFrames VM M)(VN:∀d∈dT M,d∈VU):h.heap.FunFrames (Γ h.heap VU) M:=by
 induction M with
 |nil=>trivial
 |cons f r c=>
  let⟨e,⟨WI,m,a,U,g,hd⟩,i⟩:=b;refine⟨e,⟨WI,m,a,qy VU<|VN WI ?_,g,hd⟩,c i λd j=>VN d ?_⟩
  ·show WI∈(f::r).filterMap (·.frame);rw[rX,a];exact .head _
  ·show d∈(f::r).filterMap (·.frame);rw[rX,a];exact .tail _ j
def y3(e:h.heap.FunFrames VM M)(f:∀d∈VU,j d=Y){z:List ae}(k:∀d∈VU,d∈dT M\/d∈z)(aX:dG VJ y j h.heap)(V8:(Γ h.heap VU).StaysIn VB)(l:∀d m,h.heap.get? d=Z m->(∀T,m.data≠.fields T)->∃a6,VB.get? d=Z {m with slots:=a6}):dX (dT M) z j j h.heap VB/\dG VJ y j VB:=by
 have keep:∀d m,h.heap.get? d=Z m->d∉VU->VB.get? d=Z m:=λd m p w=>V8 d m (sL VU p w);refine⟨⟨λd m p U n aI=>keep d m p λi=>(k d i).elim n aI,λd m p U c U=>?_,λ_ U U w U=>w,λd m p aI=>?_,λ_ U p=>p,λ_ U U p=>p,λ_ VQ p=>⟨#[],by rw[p];simp⟩⟩,λg m p=>?_⟩
 ·let⟨U,Wj,b,hd⟩:=e.mem c;rw[p]at b;cases b;exact l d m p hd
 ·by_cases a:d∈VU
  ·rcases k d a with c|o
   ·let⟨U,Wj,b,hd⟩:=e.mem c;rw[p]at b;cases b;let⟨a6,q⟩:=l d m p hd;exact⟨_,q⟩
   ·exact absurd o aI
  ·exact⟨m,keep d m p a⟩
 ·refine (aX g m p).fF (λd J a r=>keep d J r λi=>?_) (λ_ i=>i) λ_ U i=>i;rcases a with rfl|a
  ·rw[f d i]at p;cases p
  ·rw[f d i]at a;cases a
def Dv(j:aA)(WE e:aY)(c:ae)(cls WR:af):Prop:=(∃WC T F a aM,e.get? c=Z WC/\(WC.cls=cls/\T[0]?=Z WR)/\WC.data=.fields T/\T[1]?=Z (.ref F)/\WE.get? F=Y/\F≠c/\e.get? F=Z a/\a.data=.fields aM/\aM[3]?=Z .none/\j F=Y)
def RY(u:P.frames=Z (VC::Wg))(f:h.heap.FunFrames VM (VC::Wg))(v:VC.frame=Z WI)(w:h.heap.get? c=Z WC)(hd:WC.data=.fields T)(A:T[1]?=Z .none)(WE:T[0]?=Z WR)(x:j c=Y)(B:∀d∈dT (VC::Wg),j d=Y)(aX:dG VJ y j h.heap)(e:∀VB,dX (dT (VC::Wg)) [c] j j h.heap VB->dG VJ y j VB->Dv j h.heap VB c WC.cls WR->D () {h with heap:=VB}):wpAny aC P (leaving VC<|.ref c) D W9 h:=by
 have g:∀d∈c::dT (VC::Wg),d∈dT (VC::Wg)\/d∈[c]:=λd a=>by
  rcases bO.mp a with r|r
  ·rw[r];exact .inr (.head _)
  ·exact .inl r
 refine wpAny_leaving_firstW (base:=Γ h.heap (c::dT (VC::Wg))) u (xW f λd a=>.tail _ a) v w (λd m p=>vl _ p) (qy _<|.head _) hd A WE λVB ⟨V8,_,C,k⟩=>?_;let⟨E,G,F,H,aM,I,L,M,N,l,n,o,q,O⟩:=C;let⟨J,Q⟩:=y3 (VJ:=VJ) (y:=y) f (λd a=>(g d a).elim (B d) λi=>by rw[cH.mp i];exact x) (z:=[c]) g aX V8 k;have b:h.heap.get? F=Y:=by
  cases p:h.heap.get? F with
  |none=>rfl
  |some m=>
   by_cases b:F∈c::dT (VC::Wg)
   ·rcases bO.mp b with r|r
    ·exact absurd r n
    ·let⟨U,Wj,R,s⟩:=f.mem r;let⟨a6,t⟩:=k F Wj R s;rw[o]at t;cases t;exact absurd q (s aM)
   ·rw[sL _ p b]at l;cases l
 exact e VB J Q ⟨E,G,F,H,aM,I,L,M,N,b,n,o,q,O,aX.gone b⟩
end
def dX.out{aE:List ae}{WE A C:aY}{c:ae}(g:dX aE [] W8 j WE A)(d:dX (WI::aE) [c] j j A C)(f:∀n m,WE.get? n=Z m->n≠WI)(h:∀n m,WE.get? n=Z m->n≠c):dX aE [] W8 j WE C:=by
 have aI:∀n m,WE.get? n=Z m->n∉[c]:=λn m p i=>h n m p (cH.mp i);have k:∀n m,WE.get? n=Z m->n∉aE->n∉WI::aE:=λn m p w i=>(bO.mp i).elim (f n m p) w;have WY:∀n:ae,n∉([]:List ae):=λn i=>by cases i
 refine⟨λn m p w a W=>d.keep n m (g.keep n m p w a<|WY n) (g.free n m p w<|WY n) (k n m p a)<|aI n m p,λn m p w a W=>?_,λn m p w W=>g.free n m p w<|WY n,λn m p W=>?_,λn z p=>d.iN n z<|g.iN n z p,λn m J p=>d.iA n m J<|g.iA n m J p,λn VQ p=>?_⟩
 ·let⟨a6,b⟩:=g.slot n m p w a (WY n);let⟨l,e⟩:=d.slot n _ b (g.free n m p w<|WY n) (.tail _ a) (aI n m p);exact⟨l,e⟩
 ·let⟨Wj,b⟩:=g.there n m p (WY n);exact d.there n Wj b (aI n m p)
 ·let⟨o,b⟩:=g.jc n VQ p;let⟨q,e⟩:=d.jc n _ b;exact⟨o++q,by rw[e,H5]⟩
def ny(VJ:bF)(y:bj):jV:=(λWg j h VD jg VE=>∃(c aG:ae) (WR:af) (Q:aA),jg=.ref c/\VE.os=h.os/\ll VE.gens/\dX (dT Wg) [] j Q h.heap VE.heap/\dG VJ y Q VE.heap/\h.heap.get? c=Y/\Q c=Y/\Dv Q h.heap VE.heap c (.ref aG) WR/\VD (.ref aG) Y Q)
def QZ{aB:aD->Option af}{VM:aY}{c:ae}{We:Nat}(l:aH (iS (ny VJ y) VJ y R aB VM VX WH V1 N WZ P Wg WN W8 VD) G x j h)(q:∀d J,h.heap.get? d=Z J->VB.get? d=Z J)(w:h.heap.get? c=Y)(k:VB.get? c=Z WC)(o:WC.cls=.ref aG)(hd:WC.data=.fields T)(A:T[1]?=Z .none)(WE:T[0]?=Z WR)(r:VD (.ref aG) Y j):
  (iS (ny VJ y) VJ y R aB VM VX WH V1 N WZ P Wg WN W8 VD).cQ (.ref c) {h with heap:=VB,toks:=We}:=by
 have Wk:=l.kept (We:=We) q;have e:j c=Y:=l.aX.gone w;refine RY (VM:=VM) (VJ:=VJ) (y:=y) (j:=j) (WI:=WN.heap.objs.size) Wk.ok.frames Wk.stack rfl k hd A WE e Wk.rR Wk.aX λC un s f=>?_;rw[o]at f;let⟨t,u,F,v,aM,z,B,D,E,g,H⟩:=f;have b:∀n m,WN.heap.get? n=Z m->∃Wj,h.heap.get? n=Z Wj:=λn m p=>l.base.there n m p λi=>by cases i
 refine⟨c,aG,WR,j,rfl,Wk.os,Wk.bare,?_,s,?_,e,⟨t,u,F,v,aM,z,B,D,E,?_,H⟩,r⟩
 ·refine dX.out (WI:=WN.heap.objs.size) (c:=c) Wk.base un (λn m p=>ef<|cg p) λn m p i=>?_;let⟨Wj,a⟩:=b n m p;rw[i,w]at a;cases a
 ·cases p:WN.heap.get? c with
  |none=>rfl
  |some m=>
   let⟨Wj,a⟩:=b c m p;rw[w]at a;cases a
 ·cases p:WN.heap.get? F with
  |none=>rfl
  |some m=>
   let⟨Wj,a⟩:=b F m p;rw[q F Wj a]at g;cases g
def TK{l:List af}{m:String}(a:R.In e)(p:Δ R aG l m=V):∃b VX B c E d f cm gO bR g h V8 Wd i j n,e.get? aG=Z (excClassObj B c aG VX E b d f cm gO bR g h V8 Wd i j m)/\e.Ns VX n/\n "__init__" = Y/\OwnTail e l b:=by
 unfold Δ at p;split at p
 ·rename_i g WZ a6 lk;split at p
  ·rename_i y b h V8 Wd i z j o q;rw[cV,cV,cV,cV,cV]at p;let⟨⟨⟨⟨⟨t,u⟩,r⟩,v⟩,k⟩,s⟩:=p;cases uT.mp t;cases uT.mp u;let⟨B,E,A,w,c,d,f,cm,gO,bR,x⟩:=WZ;dsimp only at o r k s;cases x with
   |true=>cases r
   |false=>
    subst o;let⟨a6⟩:=a6;dsimp only at q;subst q;exact⟨b,w,B,c,E,d,f,cm,gO,bR,g,h,V8,Wd,i,j,_,a _ _ lk,.of_isNs<|PySem.W.isNs_of_in a k,PySem.W.nsMap_none_of_in a k<|uT.mp s,PySem.W.tail_of_in a v⟩
  ·cases p
 ·cases p
def wO(a:aK)(aG:ae):eQ:=(λ_ x j=>∀(G:List (ae×bc)) (h:ao) (c:ae) (VB:aY) (WC:bc) (T:Array af) (WR:af),aH a G x j h->(∀d J,h.heap.get? d=Z J->VB.get? d=Z J)->h.heap.get? c=Y->VB.get? c=Z WC->WC.cls=.ref aG->WC.data=.fields T->T[1]?=Z .none->T[0]?=Z WR->a.cQ (.ref c) {h with heap:=VB})
section
variable{a:aK}
def Un{H:aD}{v}(t:a.calm=V)(w:eG a f)(y:a.aB f=Z (.ref aG))(p:Δ a.K aG [.type "ValueError",.type "Exception",.type "BaseException",.type "object"] "ValueError.__new__" = V)(hd:(f==("__debug__" : aD))=aq:=by decide):
  ht a (.Raise (Z<|.Call (.Name f W_) [.Constant (.str H) v dH] [] WT) Y VT) (wO a aG):=by
 intro G h x j k l e;have z:bW a (.Name f W_) (n6<|.ref aG):=zy (u:=.ref aG) w y rfl hd;let⟨d,VX,B,A,E,C,g,cm,gO,bR,i,m,V8,Wd,n,o,q,D,F,L,s⟩:=TK l.mod.qE p;have X:bP [bt.Constant (.str H) v dH] a.env=(aq,b_ (.Constant (.str H) v dH) a.env)::bP [] a.env:=rfl;refine wpAny_Raise_call_subT (C:=aG) (nm:=B) (q:=A) (bs:=E) (hdct:=C) (sn:=g) (sub:=cm) (ab:=gO) (col:=bR) (dd:=i) (k0:=m) (k1:=V8) (k2:=Wd) (k3:=n) (k5:=o) (bm:=d) (N:=VX) (mN:=q) Fu (s.hasType Fu.hasBase) (l.ok.hd t) (by rw[X];rfl) L (b0 (z G h x j (λu VL=>u=.ref aG/\VL=j) l ⟨rfl,rfl⟩) λJ N ⟨u,VL,O,r,P,c⟩=>?_);subst P c;cases r;refine⟨rfl,?_⟩;have bU:hA a [bt.Constant (.str H) v dH] _:=w0 Ss zD;have sp:=bU WT G N x VL (λT V0=>T.length=1/\V0=VL) O ⟨rfl,rfl⟩;rw[X]at sp ⊢;refine HL (b0 sp λVZ Q ⟨T,V0,b,S,M,c⟩=>?_);subst c;refine⟨rfl,?_,b.dO _ _ D,F.keeps b.dO,s.keeps b.dO,λVB Ws mk=>?_⟩
 ·show VZ.length<=sizeLine;rw[<-S.length,M];decide
 ·let⟨I,U,R,R⟩:=mk.there;exact e G Q Ws VB _ _ _ b mk.keeps mk.new U rfl rfl rfl rfl
end
def B4(V4:List Nat)(z:a8->aA->Prop)(VI:a5->a5->Prop)(x:a8)(j:aA):Prop:=(∃k O VW,bD j k x O/\O.Nodup/\VI k VW/\∀a Q Wc,c_ V4 x a->bD Q VW a Wc->bk j O Q Wc->z a Q)
def hI(a:aK)(V4:List Nat)(z:a8->aA->Prop)(c1:List bC)(VI:a5->a5->Prop):Prop:=(gD a c1 λ_ x j=>B4 V4 z VI x j)
def qt(a:aK)(V4:List Nat)(z:a8->aA->Prop)(c:bt)(VI:a5->a5->Prop):Prop:=(bW a c λx j W=>B4 V4 z VI x j)
section
variable{a:aK}{V4:List Nat}{z:a8->aA->Prop}{VI:a5->a5->Prop}
def wJ(c1:List bC):gD a c1 λ_ W W=>False:=λ_ W W W W W e=>e.elim
def Ro{X:bC}{c1:List bC}{L:bo}(A:gH a V4 X L)(C:hI a V4 z c1 VI):hI a V4 z (X::c1) λk VW=>∃VK,L k=Z (.aI,VK)/\VI VK VW:=
 oJ (td A C) λVD x j ⟨k,O,VW,X,ah,⟨VK,b,c⟩,i⟩=>⟨k,O,.aI,VK,X,ah,b,λm Q Wc Ww d h=>⟨VK,Wc,VW,d,h.ah,c,λe V0 V_ f g l=>i e V0 V_ (Ww.trans f) g<|h.seq l⟩⟩
def SJ{n:bt}{g d dq:List bC}{WJ:aC Bool}(b:hS a n WJ)(c:hI a V4 z g VI):hI a V4 z (.If n g d VT::dq) λk VW=>∃VK,WJ k=Z (V,VK)/\VI VK VW:=
 oJ (td (Eg b c<|wJ d)<|wJ dq) λVD x j ⟨k,O,VW,X,ah,⟨VK,e,f⟩,i⟩=>⟨k,O,V,VK,X,ah,e,λQ Wc l h=>⟨VK,Wc,VW,l,h.ah,f,λm V0 V_ o p q=>i m V0 V_ o p<|h.seq q⟩⟩
def PM{H:aD}{v}{dq:List bC}(b:a.calm=V)(d:eG a f)(e:a.aB f=Z (.ref aG))(p:Δ a.K aG [.type "ValueError",.type "Exception",.type "BaseException",.type "object"] "ValueError.__new__" = V)(g:∀k x j,z x j->wO a aG k x j)(hd:(f==("__debug__" : aD))=aq:=by decide):
  hI a V4 z (.Raise (Z<|.Call (.Name f W_) [.Constant (.str H) v dH] [] WT) Y VT::dq) λk VW=>VW=k:=
 oJ (td (Un b d e p hd)<|wJ dq) λVD x j ⟨k,O,VW,X,ah,c,i⟩=>g _ x j (i x j O c_.refl (by rw[c];exact X)<|bk.perm ah<|List.Perm.refl _)
def Nj{dq:List bC}{WW:Pos}(d:a.N.Nodup)(VF:a.N[b]?=Z f)(e:i_ a.env.scope f)(g:qt a V4 z c VI)(VN:mz c (Z<|.Name f WW) VT.line a.env=pure aq:=by rfl)(h:a.fn f=V\/a.env.scope.names.lookup f=Z .local:=by first|exact .inl rfl|exact .inr rfl|assumption):hI a V4 z (.Assign [.Name f WW] c VT::dq) VI:=
 oJ (td (FF d VF e g VN h)<|wJ dq) λ_ W W y=>y
def uw(w:Nat)(a:List ak->Prop)(aG:ae):kf:=(λT j W VD=>T.length=w/\∃B O,ey j B T O/\O.Nodup/\a B/\∀Q Wc,bk j O Q Wc->VD (.ref aG) Y Q)
def oN(a:aK)(G:List (ae×bc))(d:ae):Prop:=(a.eS.heap.get? d=Y/\d≠a.env.locals/\(∀f n,a.env.cells.lookup f=Z n->n≠d)/\∀o∈a.hk++G,o.1≠d)
def wB{d:ae}(l:aH a G x j h)(w:h.heap.get? d=Y)(i:d∉a.ex):oN a G d:=by
 refine⟨?_,λc=>?_,λf n e c=>?_,λo k c=>?_⟩
 ·cases p:a.eS.heap.get? d with
  |none=>rfl
  |some m=>
   let⟨Wj,g⟩:=l.base.there d m p i;rw[w]at g;cases g
 ·let⟨H,⟨m,U,WB,b,W⟩,W⟩:=l.loc;rw[<-c,w]at b;cases b
 ·let⟨u,m,b,W⟩:=l.cell f n e;rw[c,w]at b;cases b
 ·have:=(l.pin o k).1;rw[c,w]at this;cases this
def kW(a:aK)(G:List (ae×bc))(j:aA)(e:aY)(c aG:ae)(WR:af):Prop:=(j c=Y/\oN a G c/\∃WC T F b aM,e.get? c=Z WC/\(WC.cls=.ref aG/\T[0]?=Z WR)/\WC.data=.fields T/\T[1]?=Z (.ref F)/\F≠c/\e.get? F=Z b/\b.data=.fields aM/\aM[3]?=Z .none/\j F=Y/\oN a G F)
def wW(a:aK)(aG:ae)(x:a8)(Q:aA):Prop:=(∀(G:List (ae×bc)) (VE:ao) (c:ae) (WR:af),aH a G x Q VE->kW a G Q VE.heap c aG WR->a.cQ (.ref c) VE)
def JG{v:List ak->Prop}{fd:gR}(O:hg a.prog a.w a.K a.aB a.base (ny a.prog a.w) q N fd VQ (uw w v aG))(al:ep q a.A)(am:eG a f)(an:a.aB f=Z (.ref N))(ap:Θ a.K (.ref N)=V)(C:iG a.K fd VQ [])(as:a.ex=[])(a1:∀x j,z x j->wW a aG x j)(E:fD a (c::U) L)(a2:(f==("__debug__" : aD))=aq:=by decide)(bd:bP (c::U) a.env=(aq,b_ c a.env)::bP U a.env:=by rfl)(be:(fE VT<|bP U a.env).any (·.1)=aq:=by rfl):
  qt a V4 z (.Call (.Name f o) (c::U) [] VT) λk VW=>∃VV VK B,L k=Z (VV,VK)/\VV.length=w/\ek VV VK=Z (B,VW)/\v B:=by
 intro G h x j D l ⟨k,bi,VW,X,ah,⟨VV,VK,B,A,bm,bn,bs⟩,i⟩;refine rd (wI l am an ?_ a2);refine Ac (h₀:=a.base) l.ok.mod.qE ap (b0 (@E VT G h x j (λT VL=>uw w v aG T VL (λ_ R=>False) λn R Q=>n=.ref aG/\wW a aG x Q) l ⟨k,bi,VV,VK,X,ah,A,λT VL VY ga bv V5 s=>?_⟩) λVZ s ⟨T,VL,b,r,p⟩=>⟨b.kp,?_⟩) bd be
 ·let⟨V_,b3,M,ca,Wa⟩:=lV bv V5 bn;have H:=s.jK (Wa.symm.trans dx);refine⟨by rw[<-V5.length];exact bm,B,b3,ca,(dt.mp H.ah).1,bs,λS cd I=>⟨rfl,a1 x S<|i x S V_ c_.refl ?_ ?_⟩⟩
  ·exact M.mono I.tup λg E m c=>I.keep g m c λC=>(dt.mp H.ah).2.2 g C g E rfl
  ·exact (H.trans I M.chg).less (aG:=cd) dx
 ·have ce:(VZ++[]).length=VQ.length:=by rw[cj,<-r.length];exact O.len _ _ _ _ p
  have j1:=C s VZ b.kp ce;rw[cj]at j1;refine wpAny_call (uq (O.run a.A a.stack s VL ⟨VZ,[]⟩ VZ T _ _ al b.Hc j1 r p) λt VE e=>?_);cases t with
  |error jg=>
   let⟨Ws,ge,WR,Q,rfl,ch,bare,un,aX,ci,cl,co,⟨au,cr⟩⟩:=e;cases au;have aI:∀d:ae,d∉a.ex:=λd i=>by rw[as]at i;cases i
   let⟨WC,cs,F,db,aM,ds,dL,eq,ev,fn,fr,f0,f1,f2,f4⟩:=co;exact cr G VE Ws WR (b.Cj (WM:=[]) ch un aX bare λd i=>by cases i) ⟨cl,wB b ci<|aI _,WC,cs,F,db,aM,ds,dL,eq,ev,fr,f0,f1,f2,f4,wB b fn<|aI _⟩
  |ok a3=>
   cases a3 with
   |ret J=>let⟨u,Q,R,R,R,R,R,aE⟩:=e;exact False.elim aE
   |next=>exact False.elim e
   |brk=>exact False.elim e
   |cont=>exact False.elim e
end
section
variable{VJ:bF}{y:bj}{R:Φ}{aB:aD->Option af}{VM:aY}
def LX(k:kM)(x:a8)(j:aA)(e:VD (.ref aG) Y j):wO (iS (ny VJ y) VJ y R aB VM VX WH V1 N WZ P Wg WN W8 VD) aG k x j:=
 λG h c VB WC T WR l q w a b hd A WE=>QZ (We:=h.toks) l q w a b hd A WE e
def Kb{X:bC}{fd:gR}{VI:a5->a5->Prop}(O:gS R f WH X N fd)(VU:kU VX VQ (dZ X))(a:VQ.length=w)(b:∀(Wm:af) (P:bE) (Wg:List eg) (h:ao) (j:aA) (VD:fV),ep q (P.deeper<|iT WH (dZ X) h.heap.objs.size N Wm)->hI (iS (ny VJ y) VJ y R aB VM VX WH (dZ X) N Wm P Wg h j VD) V4 (λ_ Q=>VD (.ref aG) Y Q) (gX X) VI):
  hg VJ y R aB VM (ny VJ y) (q+1) N fd VQ (uw w (λB=>∃VW,VI (B.map Z++replicate (VX.length-w) Y) VW) aG):=by
 let⟨C,A,cT,k,Wa,F,Wm,cI,W7,rfl,lk,c⟩:=O.ex;refine HM lk c VU (λT j D VD e=>e.1.trans a.symm) λP Wg h j T D VD d e=>⟨_,b Wm P Wg h j VD d,?_⟩;let⟨g,B,l,m,ah,⟨VW,n⟩,i⟩:=e;have X:=xc (H:=VX.length-w) m;have U:start VX T=T.map Z++replicate (VX.length-w) Y:=by unfold start;rw[g]
 rw[U];exact⟨_,l,VW,X,ah,n,λ_ Q Wc W W h=>i Q Wc h⟩
end
abbrev aK.hold(a:aK)(VD:af->ao->Prop)(VQ:List (ae×bc)):aK:={a with cQ:=VD,hk:=a.hk++VQ}
section
variable{a:aK}{G p:List (ae×bc)}{x:a8}{j:aA}{h:ao}{VD:af->ao->Prop}
def aH.hold(l:aH a G x j h)(VD:af->ao->Prop):aH (a.hold VD G) [] x j h:=
 ⟨⟨l.ok.mod,l.ok.kind,l.ok.glob,l.ok.blt,l.ok.above,l.ok.inj,l.ok.has,l.ok.kY,l.ok.hd,l.ok.frames,l.ok.mP,l.ok.pj,l.ok.bs,l.ok.jz,l.ok.lU,l.ok.lN,l.ok.gJ,l.ok.kk⟩,l.os,l.bare,l.base,l.loc,l.cell,l.free,l.gW,λo b=>l.pin o (by rw[cj]at b;exact b),l.aX,l.len⟩
def aH.la(l:aH (a.hold VD G) p x j h):aH a G x j h:=
 ⟨⟨l.ok.mod,l.ok.kind,l.ok.glob,l.ok.blt,l.ok.above,l.ok.inj,l.ok.has,l.ok.kY,l.ok.hd,l.ok.frames,l.ok.mP,l.ok.pj,l.ok.bs,l.ok.jz,l.ok.lU,l.ok.lN,l.ok.gJ,l.ok.kk⟩,l.os,l.bare,l.base,l.loc,l.cell,l.free,l.gW,λo b=>l.pin o<|eL _ b,l.aX,l.len⟩
def jN.la{k:kM}{N:Flow}{VE:ao}(e:jN (a.hold VD G) p k N VE):jN a G k N VE:=by
 cases N with
 |next=>let⟨b,Q,l,p⟩:=e;exact⟨b,Q,l.la,p⟩
 |brk=>let⟨b,Q,l,p⟩:=e;exact⟨b,Q,l.la,p⟩
 |cont=>let⟨b,Q,l,p⟩:=e;exact⟨b,Q,l.la,p⟩
 |ret J=>let⟨u,b,Q,l,r,p⟩:=e;exact⟨u,b,Q,l.la,r,p⟩
def Kc{I:eQ}(b:∀VD o,gD (a.hold VD o) WU I):ht a (.Try WU (WE::VN) [] [] VT) I:=by
 intro G h x j k l d;refine GN (gT (b _ G [] h x j k (l.hold _) d) (λN e p=>?_) λc e i=>i);have p:=jN.la p;cases N with
 |next=>exact q6 p
 |brk=>exact p
 |cont=>exact p
 |ret J=>exact p
def Ry{L:bo}(b:∀VD o,hR (a.hold VD o) V4 WU L):gH a V4 (.Try WU (WE::VN) [] [] VT) L:=Kc λVD o=>b VD o
variable{c:ae}
def aH.Fv{F:ae}(l:aH a G x j h)(J:dX (dT a.stack) [c,F] j j h.heap VB)(aX:dG a.prog a.w j VB)(w:∀d∈[c,F],a.eS.heap.get? d=Y/\d≠a.env.locals/\(∀f n,a.env.cells.lookup f=Z n->n≠d)/\∀o∈a.hk++G,o.1≠d):
  aH a G x j {h with heap:=VB}:=by
 have ok:({a with ex:=[c,F]++a.ex}:aK).Ok:=by
  refine⟨l.ok.mod,l.ok.kind,l.ok.glob,l.ok.blt,l.ok.above,l.ok.inj,l.ok.has,l.ok.kY,l.ok.hd,l.ok.frames,l.ok.mP,λd b=>?_,l.ok.bs,l.ok.jz,λd m p b=>?_,λd b k=>?_,l.ok.gJ,l.ok.kk⟩
  ·rcases dy.mp b with i|i
   ·exact⟨(w d i).2.1,(w d i).2.2.1⟩
   ·exact l.ok.pj d i
  ·rcases dy.mp b with i|i
   ·have:=(w d i).1;rw[(l.ok.bs d m p).1]at this;cases this
   ·exact l.ok.lU d m p i
  ·rcases dy.mp b with i|i
   ·let⟨W,m,q,W⟩:=l.ok.gJ.mem k;rw[(w d i).1]at q;cases q
   ·exact l.ok.lN d i k
 have Wk:aH {a with ex:=[c,F]++a.ex} G x j h:=⟨ok,l.os,l.bare,l.base.mono (λ_ i=>i) λd i=>ez _ i,l.loc,l.cell,l.free,l.gW,l.pin,l.aX,l.len⟩;have e:=Wk.call (g:=h.gens) (We:=h.toks) (s:=h.drawn) J aX Wk.bare λd b=>⟨.inl<|eL _ b,(w d b).2⟩;have aI:∀d m,a.eS.heap.get? d=Z m->d∉a.ex->d∉[c,F]++a.ex:=λd m p r b=>by
  rcases dy.mp b with i|i
  ·rw[(w d i).1]at p;cases p
  ·exact r i
 have aV:=e.base;exact⟨l.ok,e.os,e.bare,⟨λd m p g n s=>aV.keep d m p g n<|aI d m p s,λd m p g n s=>aV.slot d m p g n<|aI d m p s,λd m p g s=>aV.free d m p g<|aI d m p s,λd m p s=>aV.there d m p<|aI d m p s,aV.iN,aV.iA,aV.jc⟩,e.loc,e.cell,e.free,e.gW,e.pin,e.aX,e.len⟩
def L7{aC:gw}{D:ao->Prop}(l:aH a G x j h)(f:kW a G j h.heap c aG WR)(R:P.frames=Z a.stack)(k:a.stack=a.env::Wg)(S:a.env.frame=Z WI)(U:a.ex=[])(e:∀VB,aH a G x j {h with heap:=VB}->kW a G j VB c aG WR->D {h with heap:=VB}):wpAny aC P (noteFrame (.ref c) a.env) (λ_ al=>wpAny aC P (setFlight (.ref c) Y) (λ_ am=>D am) W9 al) W9 h:=by
 let⟨t,u,WC,T,F,an,aM,ap,as,a1,a2,bd,be,bi,bm,v,A⟩:=f;have o:h.heap.FunFrames a.base (a.env::Wg):=k ▸ l.stack;have bn:∀d∈dT (a.env::Wg),j d=Y:=λd b=>l.rR d (k ▸ b);have bs:∀d∈c::F::dT (a.env::Wg),d∈dT (a.env::Wg)\/d∈[c,F]:=λd b=>by
  rcases bO.mp b with r|r
  ·rw[r];exact .inr (.head _)
  ·rcases bO.mp r with r|r
   ·rw[r];exact .inr (.tail _<|.head _)
   ·exact .inl r
 have bv:∀d∈c::F::dT (a.env::Wg),j d=Y:=λd b=>by
  rcases bO.mp b with r|r
  ·rw[r];exact t
  ·rcases bO.mp r with r|r
   ·rw[r];exact v
   ·exact bn d r
 refine wpAny_noteFrame_onW (base:=Γ h.heap (c::F::dT (a.env::Wg))) (R.trans (by rw[k])) (xW o λd b=>.tail _<|.tail _ b) S ⟨WC,T,F,an,aM,ap,as,a1,a2,qy _<|.tail _<|.head _,bd,be,bi,bm⟩ (λd m p=>vl _ p) (qy _<|.head _) λC ⟨V8,Wd,ca,cd⟩=>?_;refine DO (s:={h with heap:=C}) V8 Wd ca λq bK K ce ch=>?_;have B:∀d m,h.heap.get? d=Z m->(∀T,m.data≠.fields T)->∃a6,q.get? d=Z {m with slots:=a6}:=λd m p s=>by
  let⟨a6,n⟩:=cd d m p s;exact⟨a6,ch d _ n s⟩
 let⟨J,ci⟩:=y3 (VJ:=a.prog) (y:=a.w) (z:=[c,F]) o bv bs l.aX bK B;have Wk:aH a G x j {h with heap:=q}:=l.Fv (k ▸ J) ci λd b=>by
  rcases bO.mp b with r|r
  ·rw[r];exact u
  ·rw[cH.mp r];exact A
 let⟨cl,co,g,cr,E,cs,db,ds,dL,H,I,L,M,eq⟩:=ce;have N:j g=Y/\oN a G g:=by
  by_cases i:g=F
  ·rw[i];exact⟨v,A⟩
  ·have w:h.heap.get? g=Y:=by
    cases p:h.heap.get? g with
    |none=>rfl
    |some m=>
     by_cases O:g∈c::F::dT (a.env::Wg)
     ·rcases bO.mp O with r|r
      ·exact absurd r I
      ·rcases bO.mp r with r|r
       ·exact absurd r i
       ·let⟨K,Wj,ev,Q⟩:=o.mem r;let⟨a6,n⟩:=B g Wj ev Q;rw[L]at n;cases n;exact absurd M (Q E)
     ·rw[sL _ p O]at H;cases H
   exact⟨l.aX.gone w,wB l w (by rw[U];exact gz)⟩
 exact e q Wk ⟨t,u,cl,co,g,cr,E,cs,db,ds,dL,I,L,M,eq,N.1,N.2⟩
end
section
variable{a:aK}{G:List (ae×bc)}{x:a8}{j:aA}{h:ao}
variable{c:ae}
def Tx{aC:gw}(l:aH a G x j h)(f:kW a G j h.heap c aG WR)(k:a.stack=a.env::Wg)(Q:a.ex=[])(e:∀VB,aH a G x j {h with heap:=VB}->kW a G j VB c aG WR->D () {h with heap:=VB}):wpAny aC P (setFlight (.ref c) Y) D W9 h:=by
 let⟨q,t,WC,T,F,R,aM,S,U,al,am,an,ap,as,a1,u,v⟩:=f;have n:h.heap.FunFrames a.base (a.env::Wg):=k ▸ l.stack;have a2:∀d∈dT (a.env::Wg),j d=Y:=λd b=>l.rR d (k ▸ b);have bd:∀d∈c::F::dT (a.env::Wg),d∈dT (a.env::Wg)\/d∈[c,F]:=λd b=>by
  rcases bO.mp b with r|r
  ·rw[r];exact .inr (.head _)
  ·rcases bO.mp r with r|r
   ·rw[r];exact .inr (.tail _<|.head _)
   ·exact .inl r
 have be:∀d∈c::F::dT (a.env::Wg),j d=Y:=λd b=>by
  rcases bO.mp b with r|r
  ·rw[r];exact q
  ·rcases bO.mp r with r|r
   ·rw[r];exact u
   ·exact a2 d r
 refine DO (base:=Γ h.heap (c::F::dT (a.env::Wg))) (λd m p=>vl _ p) (xW n λd b=>.tail _<|.tail _ b) ⟨WC,T,F,R,aM,S,U,al,am,qy _<|.tail _<|.head _,an,ap,as,a1⟩ λo bK K bi bm=>?_;have A:∀d m,h.heap.get? d=Z m->(∀T,m.data≠.fields T)->∃a6,o.get? d=Z {m with slots:=a6}:=λd m p s=>⟨m.slots,bm d m p s⟩;let⟨J,bn⟩:=y3 (VJ:=a.prog) (y:=a.w) (z:=[c,F]) n be bd l.aX bK A;have Wk:aH a G x j {h with heap:=o}:=l.Fv (k ▸ J) bn λd b=>by
  rcases bO.mp b with r|r
  ·rw[r];exact t
  ·rw[cH.mp r];exact v
 let⟨bs,bv,g,ca,B,cd,ce,ch,ci,C,E,H,I,cl⟩:=bi;have L:j g=Y/\oN a G g:=by
  by_cases i:g=F
  ·rw[i];exact⟨u,v⟩
  ·have w:h.heap.get? g=Y:=by
    cases p:h.heap.get? g with
    |none=>rfl
    |some m=>
     by_cases M:g∈c::F::dT (a.env::Wg)
     ·rcases bO.mp M with r|r
      ·exact absurd r E
      ·rcases bO.mp r with r|r
       ·exact absurd r i
       ·let⟨K,Wj,co,N⟩:=n.mem r;let⟨a6,O⟩:=A g Wj co N;rw[H]at O;cases O;exact absurd I (N B)
     ·rw[sL _ p M]at C;cases C
   exact⟨l.aX.gone w,wB l w (by rw[Q];exact gz)⟩
 exact e o Wk ⟨q,t,bs,bv,g,ca,B,cd,ce,ch,ci,E,H,I,cl,L.1,L.2⟩
abbrev aK.o5(a:aK)(VQ:List (ae×bc))(c:ae)(WC:bc):aK:={a with A:=a.A.mark (Z<|.ref c),calm:=aq,cQ:=λ_ _=>False,hk:=a.hk++(VQ++[(c,WC)])}
def aH.o5(l:aH a G x j h)(f:kW a G j h.heap c aG WR)(d:h.heap.get? c=Z WC):aH (a.o5 G c WC) [] x j h:=by
 let⟨p,e,s,T,F,t,aM,g,v,q,W⟩:=f;rw[d]at g;cases g;refine⟨⟨l.ok.mod,l.ok.kind,l.ok.glob,l.ok.blt,l.ok.above,l.ok.inj,l.ok.has,l.ok.kY,λi=>(by cases i),l.ok.frames,l.ok.mP,l.ok.pj,l.ok.bs,l.ok.jz,l.ok.lU,l.ok.lN,l.ok.gJ,l.ok.kk⟩,l.os,l.bare,l.base,l.loc,l.cell,l.free,l.gW,λo b=>?_,l.aX,l.len⟩;have b:o∈a.hk++(G++[(c,WC)]):=by rw[cj]at b;exact b
 rw[<-bz]at b;rcases dy.mp b with i|i
 ·exact l.pin o i
 ·rw[cH.mp i];refine⟨d,p,e.2.1,λr=>?_,λu k=>?_⟩
  ·let⟨W,m,n,W⟩:=l.ok.gJ.mem r;rw[e.1]at n;cases n
  ·rw[q]at k;cases k
def aH.wg(ok:a.Ok)(l:aH (a.o5 G c WC) p x j h):aH a G x j h:=
 ⟨ok,l.os,l.bare,l.base,l.loc,l.cell,l.free,l.gW,λo b=>l.pin o (eL _ (show o∈a.hk++(G++[(c,WC)]) by rw[<-bz];exact eL _ b)),l.aX,l.len⟩
end
def sa(Wx WJ:bo):bo:=(λk=>match Wx k with
 |some r=>Z r
 |none=>WJ k)
section
variable{a:aK}
def kW.la{VD:af->ao->Prop}{VQ:List (ae×bc)}{c:ae}(f:kW (a.hold VD VQ) p j e c aG WR):kW a VQ j e c aG WR:=by
 have N:∀d,oN (a.hold VD VQ) p d->oN a VQ d:=λd i=>⟨i.1,i.2.1,i.2.2.1,λo b=>i.2.2.2 o<|eL _ b⟩;let⟨g,h,WC,T,F,k,aM,l,m,n,q,r,s,t,u,v,w⟩:=f;exact⟨g,N c h,WC,T,F,k,aM,l,m,n,q,r,s,t,u,v,N F w⟩
end
end L2
namespace L2
open Spec PySem.Calls PyProof.Rows
end L2
namespace L2
open Spec PyProof.Rows
variable{aG:ae}{f:aD}{VT:Pos}{c:bt}
abbrev iO:=a5->Option a5
abbrev kB(r:iO):a5->a5->Prop:=λk VW=>r k=Z VW
def Fl(L:bo)(r:iO):iO:=(λk=>match L k with
 |some (.aI,VK)=>r VK
 |_=>Y)
def IL(n:aC Bool)(r:iO):iO:=(λk=>match n k with
 |some (V,VK)=>r VK
 |_=>Y)
def zm(w:Nat)(a:List ak->Bool)(L:aC (List bI)):iO:=(λk=>(L k).bind λo=>if o.1.length=w then (ek o.1 o.2).bind λp=>if a p.1=V then Z p.2 else Y else Y)
def pI(w H:Nat)(r:iO):List ak->Bool:=(λB=>(r<|B.map Z++replicate (H-w) Y).isSome)
section
variable{a:aK}{V4:List Nat}{z:a8->aA->Prop}{VI l:a5->a5->Prop}{r:iO}
def zo{c1:List bC}(e:hI a V4 z c1 VI)(q:∀k VW,l k VW->VI k VW):hI a V4 z c1 l:=oJ e λVD x j ⟨k,O,VW,X,ah,c,i⟩=>⟨k,O,VW,X,ah,q _ _ c,i⟩
def Tn(e:qt a V4 z c VI)(q:∀k VW,l k VW->VI k VW):qt a V4 z c l:=eC e λx j D ⟨k,O,VW,X,ah,c,i⟩=>⟨k,O,VW,X,ah,q _ _ c,i⟩
def RK{X:bC}{c1:List bC}{L:bo}(A:gH a V4 X L)(C:hI a V4 z c1 (kB r)):hI a V4 z (X::c1) (kB<|Fl L r):=zo (Ro A C) λk VW c=>by
 change (match L k with|some (.aI,VK)=>r VK|_=>Y)=Z VW at c;split at c
 ·rename_i VK e;exact⟨VK,e,c⟩
 ·cases c
def LR{n:bt}{g d dq:List bC}{WJ:aC Bool}(b:hS a n WJ)(f:hI a V4 z g (kB r)):hI a V4 z (.If n g d VT::dq) (kB<|IL WJ r):=zo (SJ b f) λk VW c=>by
 change (match WJ k with|some (V,VK)=>r VK|_=>Y)=Z VW at c;split at c
 ·rename_i VK e;exact⟨VK,e,c⟩
 ·cases c
def JZ{H:aD}{v}{W_ dH WT:Pos}{dq:List bC}(b:a.calm=V)(d:eG a f)(e:a.aB f=Z (.ref aG))(p:Δ a.K aG [.type "ValueError",.type "Exception",.type "BaseException",.type "object"] "ValueError.__new__" = V)(g:∀k x j,z x j->wO a aG k x j)(hd:(f==("__debug__" : aD))=aq:=by decide):
  hI a V4 z (.Raise (Z<|.Call (.Name f W_) [.Constant (.str H) v dH] [] WT) Y VT::dq) (kB Z):=zo (PM b d e p g hd) λk VW c=>(Option.some.inj c).symm
def PN{b:Nat}{dq:List bC}{WW:Pos}(d:a.N.Nodup)(VF:a.N[b]?=Z f)(e:i_ a.env.scope f)(g:qt a V4 z c (kB r))(VN:mz c (Z<|.Name f WW) VT.line a.env=pure aq:=by rfl)(h:a.fn f=V\/a.env.scope.names.lookup f=Z .local:=by first|exact .inl rfl|exact .inr rfl|assumption):hI a V4 z (.Assign [.Name f WW] c VT::dq) (kB r):=Nj d VF e g VN h
end
def wk(VJ:bF)(y:bj)(R:Φ)(aB:aD->Option af)(VM:aY)(q:Nat)(f:aD)(X:bC)(N:ae)(VQ:List aD)(w:Nat)(a:List ak->Bool)(aG:ae):Prop:=(
 ∃fd,gS R f f X N fd/\iG R fd VQ []/\aB f=Z (.ref N)/\hg VJ y R aB VM (ny VJ y) q N fd VQ (uw w (λB=>a B=V) aG))
section
variable{VJ:bF}{y:bj}{R:Φ}{aB:aD->Option af}{VM e:aY}{q w:Nat}{f:aD}{X:bC}{N aG:ae}{VQ:List aD}
def OT{VX:List aD}{V4:List Nat}{r:iO}(O:dm R aB f X N VQ)(VU:kU VX VQ (dZ X))(b:VQ.length=w)(e:VX.Nodup->∀(Wm:af) (P:bE) (Wg:List eg) (h:ao) (j:aA) (VD:fV),ep q (P.deeper<|iT f (dZ X) h.heap.objs.size N Wm)->hI (iS (ny VJ y) VJ y R aB VM VX f (dZ X) N Wm P Wg h j VD) V4 (λ_ Q=>VD (.ref aG) Y Q) (gX X) (kB r)):
  wk VJ y R aB VM (q+1) f X N VQ w (pI w VX.length r) aG:=
 have ⟨_,a,d,H⟩:=O
 ⟨_,a,d,H,by
  have:=Kb a VU b (e VU.ah);have c:(λB:List ak=>∃VW,kB r (B.map Z++replicate (VX.length-w) Y) VW)=λB=>pI w VX.length r B=V:=by
   funext B;exact propext (DA.symm)
  rw[c]at this;exact this⟩
end
section
variable{a:aK}{V4:List Nat}{z:a8->aA->Prop}
def LO{w q H:Nat}{e:List ak->Bool}{N:ae}{X:bC}{VQ:List aD}{o:Pos}{U:List bt}{L:aC (List bI)}(O:wk a.prog a.w a.K a.aB a.base q f X N VQ w e aG)(g:ep H a.A)(h:eG a f)(i:a.ex=[])(l:∀x j,z x j->wW a aG x j)(m:fD a (c::U) L)(n:q<=H:=by decide)(p:(f==("__debug__" : aD))=aq:=by decide)(r:bP (c::U) a.env=(aq,b_ c a.env)::bP U a.env:=by rfl)(s:(fE VT<|bP U a.env).any (·.1)=aq:=by rfl):
  qt a V4 z (.Call (.Name f o) (c::U) [] VT) (kB<|zm w e L):=by
 let⟨fd,t,d,H,O⟩:=O;refine Tn (JG O (g.mono n) h H t.cL d i l m p r s) λk VW c=>?_;let⟨⟨VV,VK⟩,A,C⟩:=bM.mp c;dsimp only at C;split at C
 ·rename_i u;let⟨⟨B,Wf⟩,v,b⟩:=bM.mp C;dsimp only at b;split at b
  ·rename_i D;cases b;exact⟨VV,VK,B,A,u,v,D⟩
  ·cases b
 ·cases C
def zl(R:Φ)(aB:aD->Option af)(t:aD)(aG:ae):Prop:=(aB t=Z (.ref aG)/\Δ R aG [.type "ValueError",.type "Exception",.type "BaseException",.type "object"] "ValueError.__new__" = V)
end
end L2
namespace L2
open Spec PySem.Calls PyProof.Rows PySem.W
end L2
namespace L2
open Spec PySem.Calls PyProof.Rows
end L2
namespace L2
open Spec PyProof.Rows
end L2
namespace L2
open Spec PySem.Calls PyProof.Rows
def R2{VO:bF}{y:bj}(s:ae)(hd:(s==jf)=aq)(m:bc)(U:Array DictEntry)(WB:Nat)(a:m.data=.dict U WB):
  MeetsIn VO y (bx.«dict.__len__» ⟨[.ref s],[]⟩) (λ_ VI h=>h.heap.get? s=Z m/\VI (.ok<|.ret<|.int U.size h.toks) {h with toks:=h.toks+1}):=
 .of_wp λP VI h ⟨b,e⟩=>by
  show wpAny _ _ (dictSize s >>= _) _ _ h;unfold dictSize;refine ax (ax<|vS b a<|ba ?_);show wpAny _ _ (bx.Dict.pendingCount s >>= _) _ _ h;refine ax (wpAny_pendingCount_other hd ?_);refine Ir ?_;rw[xo];exact e
section
variable{a:aK}
def RH:eY a (.builtin "len") (λz j D=>∃g VS,z=[ar.ref g]/\j g=Z (.aR VS)/\D (.int VS.length) j):=by
 intro G h x j z VZ D l r e;let⟨g,VS,rfl,d,p⟩:=e;let⟨J,rfl,f⟩:=ih r;cases f;let⟨i,hd,z,k,m,U,WB,A,C,n,o,W⟩:=xv l.aX d;have b:h.TypeIs (.ref g) "dict" := ⟨m,A,C.1⟩;have c:U.size=VS.length:=by
  have q:U.toList.length=z.length:=by rw[o,bB]
  have s:=eA.length k;rw[f6]at q;lia
 have t:(U.size:Int)<2^63:=by rw[c];rw[vi]at i;lia
 refine yQ kind_len plain_len entry_len (args_len1 _) ?_;unfold bx.«len»;refine ax (m:=oneArg "len" _) (ba ?_);refine ax (m:=callSpecial? (.ref g) (aD.ofString "__len__")) (kz (name:=aD.ofString "__len__") b I2
  (call_meetsIn I2 b F.entry_dict_len (F.args_dict_len_1 _) (R2 g hd m U WB n) ⟨A,?_⟩));show wpAny _ _ _ _ _ {h with toks:=h.toks+1};refine ax (h1<|ba ?_);refine ax (iF ?_);show wpAny _ _ (if ((U.size:Nat):Int)<0 then _ else _) _ _ _;rw[aP (by omega)];show wpAny _ _ (if ((U.size:Nat):Int) >= 2^63 then _ else _) _ _ _;rw[aP (by omega)];refine ax (wpAny_mkInt (ba ⟨_,rfl,.int VS.length,j,l.tok _,⟨_,by rw[c]⟩,p⟩))
@[simp] def qS:hE:=λB=>match B with
 |[.aR f]=>Z (.im<|.int f.length)
 |_=>Y
def IA:g5 a (.builtin "len") qS:=by
 refine RH.imp λz j D ⟨B,s,d,c,p⟩=>?_;unfold qS at c;split at c
 ·cases c;let⟨u,rfl,W,o,WK,rfl,A,C,W⟩:=gv d;exact⟨o,WK,rfl,A,by rw[<-C.length];exact cb.i p rfl⟩
 ·cases c
end
end L2
namespace L2
open Spec PyProof.Rows
end L2
namespace L2
open Spec PyProof.Rows PySem.W
end L2
namespace L2
open Spec PyProof.Rows
abbrev fK(z:Array Nat):Prop:=z.toList.Pairwise (· < ·)
end L2
namespace L2
open Spec PyProof.Rows PySem.W
end L2
namespace L2
open Spec PyProof.Rows
def t7:fO:=(λg d=>match g,d with
 |.im f,.im t=>if eF 6 f t=V then Z (.im<|.aF<|a7 f t) else Y
 |_,_=>Y)
section
variable{a:aK}
def Eb(o:a.A.units+20<b9):fm a (ea .Lt) t7:=by
 intro G h x j f t u J D l d e g;let⟨Wb,Wl,@s,k,m,c,p⟩:=g;unfold t7 at c;split at c
 ·split at c
  ·rename_i n;cases c;exact tJ 6 n ⋯ (k.i.e8 l.aX d) (m.i.e8 l.aX e) a.prog a.w _ _ ⟨.aF _,j,l,rfl,cb.i p rfl⟩
  ·cases c
 ·cases c
end
end L2
namespace G
open L2
def Kj:bo:=((cG<|ho<|e1 (bJ<|n7 "int"<|ag 0)<|bJ<|ho<|gi<|bJ<|n7 "bool"<|ag 0))
def p7:cU:=(c6 1 1 [0] Kj)
def Hg:bo:=((cG<|ho<|e1 (bJ<|n7 "tuple"<|ag 0)<|e1 (bJ<|av eN (aa<|bV eO<|aj (ag 0) ay)<|aa<|au<|.int 2)<|e1 (bJ<|bf 1 G.p7<|aj (aa<|av a9 (ag 0)<|aa<|au<|.int 0) ay)<|bJ<|bf 1 G.p7<|aj (aa<|av a9 (ag 0)<|aa<|au<|.int 1) ay))
def od:cU:=(c6 1 1 [0] Hg)
def Gb:bo:=((cG<|ho<|e1 (bJ<|bf 1 G.od<|aj (ag 0) ay)<|e1 (bJ<|gP fc fc (aa<|au<|.int 0) (aa<|av a9 (ag 0)<|aa<|au<|.int 0)<|aa<|au<|.int 30)<|bJ<|gP fc fc (aa<|au<|.int 0) (aa<|av a9 (ag 0)<|aa<|au<|.int 1)<|aa<|au<|.int 30))
def lp:cU:=(c6 1 1 [0] Gb)
def t9(a:ae):aC ak:=((su 1 a 1 G.lp<|aj (ag 0) ay))
def C5(a:ae):aC ak:=((av t7 (ag 0)<|ag 1))
def Du(a:ae):bo:=((bL (ee (jY (gi<|gy<|aa<|n7 "tuple"<|ag 0)<|gi<|gy<|aa<|bV kx<|aj (aa<|dg 1 [1] (dn<|ag 0) (br 0) d8<|G.t9 a) ay) (cG<|au<|.aF aq) fa)<|cG<|bV kx<|aj (aa<|dg 2 [] (oy<|aj (ag 0)<|aj (aa<|iE (ag 0) (jL<|au<|.int 1) jl) ay) (e_ 2<|c3 (br 0)<|c3 (br 1) fj) d8<|G.C5 a) ay))
def sJ(a:ae):cU:=(c6 2 2 [0,1] (Du a))
def Be(a:ae):bo:=((cG<|bf 2 (G.sJ a)<|aj (ag 0)<|aj (aa<|au<|.fn a) ay))
def p8(a:ae):cU:=(c6 1 1 [0] (Be a))
def mD:bo:=((fP (au<|.aF V)<|j5 1 (fB 2) hU))
def tL:bo:=((bL (cn 1 xK)<|bL (g0 (dn<|ag 0) (br 2) G.mD)<|cG<|fB 1))
def hz:cU:=(c6 1 3 [0] tL)
def Nw:bo:=((bL (cn 1<|av a9 (ag 0)<|aa<|au<|.int 0)<|bL (cn 2<|av a9 (ag 0)<|aa<|au<|.int 1)<|cG<|eI<|aj (aa<|c0<|aj (aa<|av hH (ag 1)<|aa<|au<|.int 1)<|aj (ag 2) ay)<|aj (aa<|c0<|aj (ag 1)<|aj (aa<|av hH (ag 2)<|aa<|au<|.int 1) ay)<|aj (aa<|c0<|aj (ag 1)<|aj (aa<|av dp (ag 2)<|aa<|au<|.int 1) ay)<|aj (aa<|c0<|aj (aa<|av dp (ag 1)<|aa<|au<|.int 1)<|aj (ag 2) ay) ay))
def xq:cU:=(c6 1 3 [0] Nw)
def uM:aC ak:=((bf 2 G.oM<|aj (ag 1)<|aj (ag 0) ay))
def A6:bo:=((bL (cn 1<|bf 1 G.hz<|aj (aa<|dg 1 [0] (dn<|ag 0) (br 0) d8 G.uM) ay)<|bL (ee (bJ<|av gj (aa<|bV eO<|aj (ag 0) ay)<|aa<|av et (aa<|av et (aa<|bV qS<|aj (ag 1) ay)<|aa<|au<|.int 2)<|aa<|au<|.int 2) Hm fa)<|cG<|bV iH<|aj (aa<|bV eM<|aj (ag 1) ay) ay))
def mj:cU:=(c6 1 2 [0] A6)
def uS:iO:=((Fl (cn 1<|bf 1 G.hz<|aj (aa<|dg 1 [0] (dn<|ag 0) (br 0) d8 G.uM) ay)<|IL (bJ<|av gj (aa<|bV eO<|aj (ag 0) ay)<|aa<|av et (aa<|av et (aa<|bV qS<|aj (ag 1) ay)<|aa<|au<|.int 2)<|aa<|au<|.int 2) Z))
end G
namespace dz
def jg{V7:Type}:List V7->List V7
 |[]=>[]
 |[g]=>[g]
 |g::_::r=>g::jg r
open Spec PyProof.Rows
end dz
namespace L2
open Spec PyProof.Rows
end L2
namespace G
open L2
variable{x U VG:List a4}{V5 Wt l:Option ak}{E aE:List aw}{VK k:a5}{s:ab}{d m:aw}{w:Nat}
def sS:bo:=((ee (e1 (bJ<|av j6 (ag 4)<|ag 0)<|bJ<|av ml (ag 4)<|ag 2) (bL (fP (au<|.aF V)<|j5 2 (fB 4) hU)<|hn<|fH hl 3 ha<|aj (ag 4) ay) fa))
def B2:aC Bool:=((gy<|ag 3))
def uY:bo:=((g0 (dn<|aa<|bf 1 G.xq<|aj (aa<|fH hl 3 Ax ay) ay) (br 4) G.sS))
def F1:bo:=((bL (cn 2<|Gk (fB 1)<|au<|.aF V)<|bL (cn 3<|eI<|aj (ag 1) ay)<|bL (j_ G.B2 G.uY 1000000)<|cG<|bV iH<|aj (aa<|bV eM<|aj (ag 2) ay) ay))
def ph:cU:=(c6 2 5 [0,1] F1)
def FE(a:ae):bo:=((bL (ee (jY (gi<|gy<|aa<|bf 1 (G.p8 a)<|aj (ag 0) ay)<|bJ<|av eN (aa<|bV eO<|aj (ag 0) ay)<|aa<|au<|.int 0) (cG<|au<|.aF aq) fa)<|cG<|av eN (aa<|bV eO<|aj (aa<|bf 2 G.ph<|aj (aa<|bf 1 G.hz<|aj (ag 0) ay)<|aj (aa<|av a9 (ag 0)<|aa<|au<|.int 0) ay) ay)<|aa<|bV eO<|aj (ag 0) ay))
def pe(a:ae):cU:=(c6 1 1 [0] (FE a))
def LQ:bo:=((cG<|ho<|e1 (bJ<|n7 "tuple"<|ag 0)<|e1 (bJ<|av eN (aa<|bV eO<|aj (ag 0) ay)<|aa<|au<|.int 2)<|e1 (bJ<|bf 1 G.od<|aj (aa<|av a9 (ag 0)<|aa<|au<|.int 0) ay)<|bJ<|bf 1 G.od<|aj (aa<|av a9 (ag 0)<|aa<|au<|.int 1) ay))
def nR:cU:=(c6 1 1 [0] LQ)
def xw(a:ae):aC ak:=((su 1 a 1 G.nR<|aj (ag 0) ay))
def Ii(a:ae):aC ak:=((av t7 (ag 0)<|ag 1))
def Fi(a:ae):bo:=((bL (ee (jY (gi<|gy<|aa<|n7 "tuple"<|ag 0)<|gi<|gy<|aa<|bV kx<|aj (aa<|dg 1 [1] (dn<|ag 0) (br 0) d8<|G.xw a) ay) (cG<|au<|.aF aq) fa)<|cG<|bV kx<|aj (aa<|dg 2 [] (oy<|aj (ag 0)<|aj (aa<|iE (ag 0) (jL<|au<|.int 1) jl) ay) (e_ 2<|c3 (br 0)<|c3 (br 1) fj) d8<|G.Ii a) ay))
def pz(a:ae):cU:=(c6 2 2 [0,1] (Fi a))
def yX:aC ak:=((c0<|aj (ag 2)<|aj (ag 0) ay))
def AG:aC Bool:=((bJ<|av j6 (ag 0)<|ag 1))
def ri:bo:=((bL (cn 4<|eI<|aj (aa<|c0<|aj (aa<|av a9 (ag 3)<|aa<|au<|.int 0)<|aj (aa<|av dp (aa<|av a9 (ag 3)<|aa<|au<|.int 1)<|aa<|au<|.int 2) ay)<|aj (aa<|c0<|aj (aa<|av dp (aa<|av a9 (ag 3)<|aa<|au<|.int 0)<|aa<|au<|.int 2)<|aj (aa<|av a9 (ag 3)<|aa<|au<|.int 1) ay) ay)<|hn<|fH hl 2 nu<|aj (aa<|dg 1 [1,3] (dn<|ag 4) (br 0) G.AG G.yX) ay))
def IZ:bo:=((bL (cn 1<|bf 1 G.hz<|aj (ag 0) ay)<|bL (cn 2<|eI ay)<|bL (g0 (dn<|ag 0) (br 3) G.ri)<|cG<|fB 2))
def pL:cU:=(c6 1 5 [0] IZ)
def s9:bo:=((fP (fB 3)<|j5 2 (fB 3) hU))
def se:bo:=((ee (bJ<|av eN (aa<|av a9 (ag 2)<|ag 3)<|ag 7) (fP (fB 6)<|j5 2 (fB 3) hU) fa))
def ta:bo:=((bL (cn 6<|av a9 (ag 2)<|aa<|av a9 (ag 5)<|aa<|au<|.int 0)<|bL (cn 7<|av a9 (ag 2)<|aa<|av a9 (ag 5)<|aa<|au<|.int 1)<|ee (bJ<|av gj (ag 6)<|ag 7) (bL (hn<|fH hl 4 ha<|aj (ag 5) ay)<|g0 (dn<|ag 0) (br 3) G.se) fa))
def Dc:bo:=((bL (cn 2 xK)<|bL (g0 (dn<|ag 0) (br 3) G.s9)<|bL (cn 4<|eI ay)<|bL (g0 (dn<|ag 1) (br 5) G.ta)<|cG<|bV iH<|aj (aa<|bV eM<|aj (ag 4) ay) ay))
def vW:cU:=(c6 2 8 [0,1] Dc)
def F9:bo:=((cG<|bf 2 G.vW<|aj (ag 0)<|aj (aa<|av dp (aa<|bV Ai<|aj (ag 1) ay)<|aa<|bf 1 G.pL<|aj (ag 0) ay) ay))
def pU:cU:=(c6 2 2 [0,1] F9)
def sU(g d:aw):Prop:=(g.1<d.1\/(g.1=d.1/\g.2<d.2))
def ET{M:List aw}:fK M↔M.Pairwise sU:=by
 unfold fK;rw[oF];constructor
 ·exact λe=>e.imp λ{g d} i=>kI.mp i
 ·exact λe=>e.imp λ{g d} i=>kI.mpr i
def E8(g:aw):g∈dW g:=.head _
def Ux(m:aw)(V3:List aw):Prop:=(∀d∈V3,(d.1-m.1)%2=0/\(d.2-m.2)%2=0)
abbrev hd(s h I:Int):ak:=.lst [.int s,.int h,.int I]
def gY{H:Nat}(e:Nat.ble (w+1) H=V):w<H:=fu e
abbrev d9(d:Bool):ak:=.im (.aF d)
def gs(VG:List (Int×Int))(n:Int×Int):List (Int×Int):=(if n∈VG then VG else VG++[n])
def D6(VG:List (Int×Int))(n:Int×Int):g9 (bS VG) (d3 n) (.aF V)=bS (gs VG n):=by
 unfold gs;by_cases e:n∈VG
 ·rw[aJ e];unfold g9;rw[aJ (by rw[xP];simpa using e)];unfold bS;rw[f5];refine oE λf W=>?_;show (if d3 f=d3 n then (d3 f,ab.aF V) else (d3 f,ab.aF V))=_;split<;>rfl
 ·rw[aP e];exact Kr e
def Lg{b:Nat}{f:ab}(e:(iD 0 w)[b]?=Z f):b<w/\f=.int (0+(b:Int)):=by
 have VF:b<w:=by
  have:=(fY.mp e).1
  rwa [iD,bB,ky]at this
 rw[iD,hb,EU VF]at e;exact⟨VF,(Option.some.inj e).symm⟩
abbrev Aj(e:ak)(V5:Option ak)(a b c d f:Int)(VG:List (Int×Int))(D g h i j k:Option ak):a5:=[Z e,V5,Z<|aL a,Z<|aL b,Z<|aL c,Z<|aL d,Z<|aL f,Z<|.aR<|bS VG,D,g,h,i,j,k]
def ia(cs:List (Int×Int)):Prop:=(cs.Pairwise λg d=>a7 (ai g) (ai d)=V)
def RR{VG:List (Int×Int)}(ah:VG.Nodup)(a:VG.length<=1000):∃cs:List (Int×Int),gN a7 (VG.map ai)=cs.map ai/\cs.Perm VG/\ia cs:=by
 have m:=rJ ah a;let⟨@cs,A,C⟩:=E5 (iL<|VG.map ai);refine⟨cs,C,A,?_⟩;have:=oT m.ord.ah m.ord.jS;rw[C]at this;exact oF.mp this
abbrev b5:=Int×Int
variable{y N:List b5}{h g n f:b5}{o:List b5×List b5}
theorem AB(l:Option ak):∀(cs VG:List b5) (a:Option ak),VG.length+cs.length<100000->∃b,ed (br 2) mD (cs.map ai) [l,Z<|.aR<|bS VG,a]=Z (.aI,[l,Z<|.aR<|bS<|cs.foldl gs VG,b])
 |[],VG,a,_=>⟨a,rfl⟩
 |n::cs,VG,a,d=>by
  have e:hU (.aR<|bS VG) (.im<|.tup<|d3 n) (d9 V)=Z (.aR<|bS<|gs VG n):=by
   rw[<-D6];exact aJ ⟨rfl,by unfold bS;rw[bB];rw[dV]at d;lia⟩
  have i:(gs VG n).length<=VG.length+1:=by
   unfold gs;split
   ·lia
   ·rw[d7];exact bT _
  let⟨@b,f⟩:=AB l cs (gs VG n) (Z<|.im<|ai n) (by rw[dV]at d;lia);refine⟨b,?_⟩;have c:mD [l,Z<|.aR<|bS VG,Z<|.im<|ai n]=Z (.aI,[l,Z<|.aR<|bS<|gs VG n,Z<|.im<|ai n]):=by
   unfold mD;refine jv rfl ?_;show (hU (.aR<|bS VG) (.im<|.tup<|d3 n)<|d9 V).map _=_;rw[e];rfl
  rw[cS,ed];show (mD [l,Z<|.aR<|bS VG,Z<|.im<|ai n]).bind _=_;rw[c];exact f
theorem CY:∀(cs VG:List b5),(VG++cs).Nodup->cs.foldl gs VG=VG++cs
 |[],VG,_=>by rw[cj];rfl
 |n::cs,VG,ah=>by
  have a:n∉VG:=λe=>by
   have:=(dt.mp ah).2.2 n e n (.head _);exact this rfl
  rw[nU,gs,aP a,CY cs (VG++[n]) (by rw[bz];exact ah),bz];rfl
def CE{cs:List b5}(ah:cs.Nodup)(b:cs.length<10000):hz [aT cs]=Z (.aR<|bS cs,[aT cs]):=by
 let⟨@m,a⟩:=AB (Z<|aT cs) cs [] Y (by show 0+_<_;lia);rw[CY cs [] ah]at a;unfold hz tL;refine ff (k:=[Z (aT cs),Z .dS,m]) rfl (cW (VK:=[Z (aT cs),Z<|.aR [],Y]) rfl<|cW (jC (m:=Y) rfl a rfl) rfl) rfl
def js(n:b5):List b5:=([(n.1-1,n.2),(n.1,n.2-1),(n.1,n.2+1),(n.1+1,n.2)])
def J5(n:b5):xq [.im (ai n)]=Z (aN<|js n,[.im (ai n)]):=rfl
def ym(VG:List b5)(n:b5):j6 (.im<|ai n) (.aR<|bS VG)=Z (d9<|decide (n∈VG)):=by
 rw[<-KW];rfl
theorem xj:∀(M VG:List aw),VG.Nodup->(M.foldl gs VG).Nodup/\∀n,n∈M.foldl gs VG↔n∈VG\/n∈M
 |[],VG,ah=>⟨ah,λn=>by simp⟩
 |f::M,VG,ah=>by
  have A:(gs VG f).Nodup/\∀n,n∈gs VG f↔n∈VG\/n=f:=by
   unfold gs;split
   ·rename_i e;exact⟨ah,λn=>⟨.inl,λi=>i.elim id λc=>by rw[c];exact e⟩⟩
   ·rename_i e;refine⟨dt.mpr ⟨ah,by simp,λg a d b=>?_⟩,λn=>by simp⟩;rw[cH.mp b];exact λc=>e (c ▸ a)
  let⟨g,d⟩:=xj M (gs VG f) A.1;refine⟨g,λn=>?_⟩;rw[nU,d n,A.2 n,bO,or_assoc]
def dO(m:aw)(aE:List aw):List aw:=((aE.map<|aF m).foldl gs [])
theorem yt(m:aw)(aE:List aw):(dO m aE).Nodup:=(xj _ [] .nil).1
def Bz:d∈dO m aE↔∃n∈aE,aF m n=d:=by
 unfold dO;rw[(xj _ [] .nil).2 d,dK];simp
def C2{n:aw}(e:(d.1-m.1)%2=0/\(d.2-m.2)%2=0)(a:n∈dW d):aF m n=d:=by
 have:=sH.mp a;unfold aF;exact el (by dsimp only;omega) (by dsimp only;omega)
def La{VU:List aw}(o:aE.Perm (cells VU))(ah:VU.Nodup)(jg:Ux m VU):(dO m aE).Perm VU:=by
 refine (List.perm_ext_iff_of_nodup (yt m aE) ah).mpr λd=>?_;rw[Bz];constructor
 ·rintro⟨n,b,rfl⟩;let⟨h,VN,c⟩:=lZ.mp (o.mem_iff.mp b);rw[C2 (jg h VN) c];exact VN
 ·exact λa=>⟨d,o.mem_iff.mpr<|lZ.mpr ⟨d,a,E8 d⟩,C2 (jg d a)<|E8 d⟩
def Po{cs:List aw}(b:cs.length<10000):hz [aN cs]=Z (.aR<|bS<|cs.foldl gs [],[aN cs]):=by
 let⟨m,a⟩:=AB (Z .dS) cs [] Y (by show 0+_<_;lia);unfold hz tL;refine ff (k:=[Z (aN cs),Z .dS,m]) rfl (cW (VK:=[Z (aN cs),Z<|.aR [],Y]) rfl<|cW (jC (m:=Z (0,aN cs)) (VK:=[Z .dS,Z<|.aR [],Y]) rfl a rfl) rfl) rfl
def O4(VG:List aw):qS [.aR (bS VG)]=Z (aL (VG.length:Int)):=by
 show Z (aL (((bS VG).length:Nat):Int))=_;rw[bS,bB]
def SA(m:aw)(aE:List aw):(dO m aE).length<=aE.length:=by
 have h:∀d∈dO m aE,d∈aE.map (aF m):=λd a=>by
  let⟨n,b,c⟩:=Bz.mp a;exact dK.mpr ⟨n,b,c⟩
 have:=(yt m aE).length_le_of_subset h
 rwa [bB]at this
def Qr(a:aE[0]?=Z m)(d:aE.length<=1000):
  cn 1 (bf 1 G.hz<|aj (aa<|dg 1 [0] (dn<|ag 0) (br 0) d8 G.uM) ay) [Z (aT aE),Y]=Z (.aI,[Z (aT aE),Z<|.aR<|bS<|dO m aE]):=by
 have b:dg 1 [0] (dn<|ag 0) (br 0) d8 G.uM [Z (aT aE),Y]=Z (aN<|aE.map<|aF m,[Z (aT aE),Y]):=by
  refine (oO (z:=aE.map ai) (m:=Y) (VK:=[Z (aT aE),Y]) rfl (jn _ (λn=>ai<|aF m n) aE (λn e=>?_) ⋯)).trans ?_
  ·exact⟨[Z (.im<|ai n),Z<|aT aE],_,[Z (.im<|ai n),Z<|aT aE],rfl,rfl,c5 (VV:=[.a6 1,.a6 0]) rfl rfl rfl (E_ a) rfl,rfl⟩
  ·show Z (ak.lst _,_)=Z (ak.lst _,_);rw[f5];rfl
 have c:=Po (cs:=aE.map (aF m)) (by rw[bB];lia);exact lz (c5 (VV:=[.cA (aN<|aE.map<|aF m)]) (bX (aZ b) rfl) rfl rfl c rfl) (gY rfl) rfl
def UZ{VG:List aw}(A:aE.length<=1000)(C:VG.length<=1000):
  bJ (av gj (aa<|bV eO<|aj (ag 0) ay)<|aa<|av et (aa<|av et (aa<|bV qS<|aj (ag 1) ay)<|aa<|au<|.int 2)<|aa<|au<|.int 2) [Z (aT aE),Z<|.aR<|bS VG]=Z (!decide (aE.length=4*VG.length),[Z (aT aE),Z<|.aR<|bS VG]):=by
 have c:decide ((aE.length:Int)=(VG.length:Int)*2*2)=decide (aE.length=4*VG.length):=by
  rw[kd];lia
 rw[<-c];exact eD (b7 (aZ<|er (bX rfl rfl) rfl<|tN aE) (aZ (b7 (aZ (b7 (aZ<|er (bX rfl rfl) rfl<|O4 VG) rfl rfl rfl (iQ (mi ∅ ∅)))) rfl rfl rfl (iQ (mi ∅ ∅)))) rfl rfl<|Rc _ _)
def T7(c:aE[0]?=Z m)(a:aE.length<=1000)(e:aE.length=4*(dO m aE).length):∃x,mj [aT aE]=Z (aT x,[aT aE])/\x.Perm (dO m aE)/\fK x:=by
 have C:=SA m aE;let⟨x,Wa,U,t⟩:=we (yt m aE) ⋯;refine⟨x,?_,Wa,t⟩;have b:=UZ (aE:=aE) (VG:=dO m aE) a ⋯;rw[dJ e]at b;have VN:eM [.aR (bS<|dO m aE)]=Z (aN x):=by
  show gE ((bS<|dO m aE).map λo=>.tup o.1)=_;rw[bS,f5];exact U
 unfold mj A6;exact ff (k:=[Z (aT aE),Z<|.aR<|bS<|dO m aE]) rfl (cW (Qr c a)<|cW (il b rfl)<|dY<|vQ<|er (bX rfl rfl) rfl VN) rfl
def rE(s:ab):Prop:=(∀g,s≠.fn g)
def qe(s:ab):Prop:=(rE s/\∀U,s=.tup U->∀t∈U,rE t)
def wA(s:ab):Prop:=(rE s/\∀B,s=.tup B->B.length<=290/\∀f∈B,qe f)
def mJ:ab->Bool
 |.int _=>V
 |_=>aq
def B5(e:rE s):p7 [.im s]=Z (d9<|mJ s,[.im s]):=by
 cases s with
 |fn g=>exact absurd rfl (e g)
 |_=>rfl
def tb:ab->Bool
 |.tup [g,d]=>mJ g&&mJ d
 |_=>aq
def He(e:mJ s=V):∃b,s=.int b:=by
 cases s with
 |int b=>exact⟨b,rfl⟩
 |_=>cases e
def U7(e:qe s):od [.im s]=Z (d9<|tb s,[.im s]):=by
 cases s with
 |fn g=>exact absurd rfl (e.1 g)
 |tup B=>
  unfold od Hg
  match B,e with
  |[],_=>rfl
  |[g],_=>rfl
  |[g,d],e=>
   have f:=B5 (e.2 _ rfl g<|.head _);have h:=B5 (e.2 _ rfl d<|.tail _<|.head _);refine ff (k:=[Z (.im<|.tup [g,d])]) rfl (dY<|uB<|l3 (eD rfl)<|l3 (eD rfl) ?_) rfl;show _=Z (mJ g&&mJ d,_);have a:bJ (bf 1 G.p7<|aj (aa<|av a9 (ag 0)<|aa<|au<|.int 0) ay) [Z (.im<|.tup [g,d])]=Z (mJ g,[Z (.im<|.tup [g,d])]):=eD (c5 (bX (aZ<|b7 (s:=.im g) rfl rfl rfl rfl rfl) rfl) rfl rfl f rfl);have i:bJ (bf 1 G.p7<|aj (aa<|av a9 (ag 0)<|aa<|au<|.int 1) ay) [Z (.im<|.tup [g,d])]=Z (mJ d,[Z (.im<|.tup [g,d])]):=eD (c5 (bX (aZ<|b7 (s:=.im d) rfl rfl rfl rfl rfl) rfl) rfl rfl h rfl);cases b:mJ g with
   |false=>rw[b]at a;exact qJ a
   |true=>rw[b]at a;exact l3 a i
  |g::d::n::r,_=>
   have c:eN (aL ((g::d::n::r).length:Int)) (aL 2)=Z (d9 aq):=(qx _ _).trans (congrArg (λd=>Z<|d9 d) (eB (by rw[dV,dV,dV];lia)));exact ff (k:=[Z (.im<|.tup (g::d::n::r))]) rfl (dY<|uB<|l3 (eD rfl)<|qJ<|eD<|b7 (aZ<|er (bX rfl rfl) rfl rfl) rfl rfl rfl c) rfl
 |_=>rfl
def Js{Wf F:a5}{N R:fO}{WD Wx WJ:aC bI}{f t i:bI}{Wb Wl a b:ak}{d c:Bool}(e:WD k=Z (f,VK))(g:Wx VK=Z (t,Wf))(h:cY Wf f=Z Wb)(j:cY Wf t=Z Wl)(l:N Wb Wl=Z (d9 d))(m:WJ Wf=Z (i,F))(n:cY F t=Z a)(o:cY F i=Z b)(p:R a b=Z (d9 c))(q:F=Wf):gP N R WD Wx WJ k=Z (d9<|d&&c,Wf):=by
 subst q;unfold gP;rw[e];show (Wx VK).bind _=_;rw[g];show (cY F f).bind _=_;rw[h];show (cY F t).bind _=_;rw[j];show (N Wb Wl).bind _=_;rw[l];cases d
 ·rfl
 ·show (WJ F).bind _=_;rw[m];show (cY F t).bind _=_;rw[n];show (cY F i).bind _=_;rw[o];show (R a b).bind _=_;rw[p];rfl
def iY:ab->Bool
 |.tup [.int b,.int v]=>(decide (0<=b)&&decide (b<=30))&&(decide (0<=v)&&decide (v<=30))
 |_=>aq
def AF(e:iY s=V):∃n:Int×Int,s=ai n/\0<=n.1/\n.1<=30/\0<=n.2/\n.2<=30:=by
 unfold iY at e;split at e
 ·next b v=>
  rw[cV,cV,cV]at e;exact⟨(b,v),rfl,e9 e.1.1,e9 e.1.2,e9 e.2.1,e9 e.2.2⟩
 ·cases e
def Tc{n:Int×Int}(e:0<=n.1/\n.1<=30/\0<=n.2/\n.2<=30):iY (ai n)=V:=by
 show ((decide (0<=n.1)&&decide (n.1<=30))&&(decide (0<=n.2)&&decide (n.2<=30)))=V;rw[dJ e.1,dJ e.2.1,dJ e.2.2.1,dJ e.2.2.2];rfl
def Oz(e:tb s=aq):iY s=aq:=by
 cases a:iY s with
 |false=>rfl
 |true=>
  let⟨@n,rfl,W⟩:=AF a;cases e
def QU(e:qe s):lp [.im s]=Z (d9<|iY s,[.im s]):=by
 have f:=U7 e;unfold lp Gb;refine ff (k:=[Z (.im s)]) rfl (dY<|uB ?_) rfl;have cL:bJ (bf 1 G.od<|aj (ag 0) ay) [Z (.im s)]=Z (tb s,[Z (.im s)]):=eD (c5 (bX rfl rfl) rfl rfl f rfl);cases a:tb s with
 |false=>rw[a]at cL;rw[Oz a];exact qJ cL
 |true=>
  rw[a]at cL;obtain⟨b,v,rfl⟩:∃b v,s=.tup [.int b,.int v]:=by
   unfold tb at a;split at a
   ·next g d=>
    rw[cV]at a;let⟨@b,rfl⟩:=He a.1;let⟨@v,rfl⟩:=He a.2;exact⟨b,v,rfl⟩
   ·cases a
  refine l3 cL ?_;have V8:bJ (gP fc fc (aa<|au<|.int 0) (aa<|av a9 (ag 0)<|aa<|au<|.int 0)<|aa<|au<|.int 30) [Z (.im<|.tup [.int b,.int v])]=Z (decide (0<=b)&&decide (b<=30),[Z (.im<|.tup [.int b,.int v])]):=eD (Js rfl (aZ<|b7 (s:=aL b) rfl rfl rfl rfl rfl) rfl rfl rfl rfl rfl rfl rfl rfl);have Wd:bJ (gP fc fc (aa<|au<|.int 0) (aa<|av a9 (ag 0)<|aa<|au<|.int 1)<|aa<|au<|.int 30) [Z (.im<|.tup [.int b,.int v])]=Z (decide (0<=v)&&decide (v<=30),[Z (.im<|.tup [.int b,.int v])]):=eD (Js rfl (aZ<|b7 (s:=aL v) rfl rfl rfl rfl rfl) rfl rfl rfl rfl rfl rfl rfl rfl);show _=Z ((decide (0<=b)&&decide (b<=30))&&(decide (0<=v)&&decide (v<=30)),_);cases c:(decide (0<=b)&&decide (b<=30)) with
  |false=>rw[c]at V8;exact qJ V8
  |true=>rw[c]at V8;exact l3 V8 Wd
def rP(B:List ab):Bool:=((B.zip<|B.drop 1).all λo=>a7 o.1 o.2)
def zc:ab->Bool
 |.tup B=>B.all iY&&rP B
 |_=>aq
theorem DT{V7:Type}(N:V7->Bool):∀z:List V7,oa (z.map λr=>.aF<|N r)=Z (z.map N)
 |[]=>rfl
 |f::r=>by rw[cS,oa,DT N r];rfl
def rn{V7:Type}(N:V7->Bool)(z:List V7):kx [.lst (z.map λr=>.aF<|N r)]=Z (d9<|z.all N):=by
 show (oa _).map _=_;rw[DT,rz,yn];rfl
theorem Aa:∀B U:List ab,fi B U=(B.zip U).map λo=>.tup [o.1,o.2]
 |[],_=>rfl
 |_::_,[]=>rfl
 |s::B,c::U=>congrArg (_::·) (Aa B U)
def Qc{N:ae}(e:wA s):sJ N [.im s,.im<|.fn N]=Z (d9<|zc s,[.im s,.im<|.fn N]):=by
 cases s with
 |fn g=>exact absurd rfl (e.1 g)
 |tup B=>
  let@⟨q,hd⟩:=e.2 B rfl;unfold sJ Du;refine ff (k:=[Z (.im<|.tup B),Z<|.im<|.fn N]) rfl ?_ rfl;show bL _ _ [Z (.im<|.tup B),Z<|.im<|.fn N]=_;have l:dg 1 [1] (dn<|ag 0) (br 0) d8 (t9 N) [Z (.im<|.tup B),Z<|.im<|.fn N]=Z (.lst<|B.map λs=>.aF<|iY s,[Z (.im<|.tup B),Z<|.im<|.fn N]):=by
   refine kQ (z:=B.map id) (m:=Y) (VK:=[Z (.im<|.tup B),Z<|.im<|.fn N]) (by rw[zd];rfl) (jn id (λs=>.aF<|iY s) _ (λf n=>?_) (by omega)) rfl;refine⟨[Z (.im f),Z<|.im<|.fn N],_,[Z (.im f),Z<|.im<|.fn N],rfl,rfl,?_,rfl⟩;unfold t9;show (if N=N then _ else _)=_;rw[aJ rfl];exact c5 (bX rfl rfl) rfl rfl (QU<|hd f n) rfl
  have a:gi (gy<|aa<|bV kx<|aj (aa<|dg 1 [1] (dn<|ag 0) (br 0) d8<|t9 N) ay) [Z (.im<|.tup B),Z<|.im<|.fn N]=Z (!(B.all iY),[Z (.im<|.tup B),Z<|.im<|.fn N]):=xM (i7 (aZ<|er (bX (aZ l) rfl) rfl<|rn iY B) rfl rfl);show _=Z (n0.cB<|d9<|B.all iY&&rP B,_);cases b:B.all iY with
  |false=>
   rw[b]at a;exact q0 (pw (m_ (lO<|i7 rfl rfl rfl) a) rfl)
  |true=>
   rw[b]at a;refine cW (il (m_ (lO<|i7 rfl rfl rfl) a) rfl) ?_;have c:=jm.mp b;have p:dg 2 [] (oy<|aj (ag 0)<|aj (aa<|iE (ag 0) (jL<|au<|.int 1) jl) ay) (e_ 2<|c3 (br 0)<|c3 (br 1) fj) d8 (C5 N) [Z (.im<|.tup B),Z<|.im<|.fn N]=Z (.lst<|(B.zip<|B.drop 1).map λo=>.aF<|a7 o.1 o.2,[Z (.im<|.tup B),Z<|.im<|.fn N]):=by
    refine kQ (z:=(B.zip<|B.drop 1).map λo=>.tup [o.1,o.2]) (m:=Y) (VK:=[Z (.im<|.tup B),Z<|.im<|.fn N]) ?_ (jn (λo:ab×ab=>.tup [o.1,o.2]) (λo=>.aF<|a7 o.1 o.2) _ (λo h=>?_) ?_) rfl
    ·rw[<-Aa];exact C_ (bX rfl (bX (aZ (u5 (a:=.im (.tup<|B.drop 1)) rfl rfl rfl rfl (by show Z (ak.im<|.tup<|gh B (Z ((1:Nat):Int)) Y)=_;rw[sv]))) rfl)) rfl
    ·let⟨@g,i,W⟩:=AF (c o.1 (n5 h).1);let⟨@d,j,W⟩:=AF (c o.2<|mV (n5 h).2);let⟨f,t⟩:=o;dsimp only at i j ⊢;subst i j;exact⟨[Z (.im<|ai g),Z<|.im<|ai d],_,[Z (.im<|ai g),Z<|.im<|ai d],rfl,rfl,b7 rfl rfl rfl rfl rfl,rfl⟩
    ·rw[wL,gQ];omega
   exact dY (er (bX (aZ p) rfl) rfl<|rn (λo:ab×ab=>a7 o.1 o.2) _)
 |_=>rfl
def N_{N:ae}(e:wA s):p8 N [.im s]=Z (d9<|zc s,[.im s]):=by
 unfold p8 Be;exact ff (k:=[Z (.im s)]) rfl (dY<|c5 (bX rfl<|bX rfl rfl) rfl rfl (Qc e) rfl) rfl
def pf:ab->Bool
 |.int b=>decide (0<=b)&&decide (b<31)
 |_=>aq
theorem Ed:∀{cs:List (Int×Int)},ia cs->rP (cs.map ai)=V
 |[],_=>rfl
 |[g],_=>rfl
 |g::d::r,e=>by
  have VB:=fZ.mp e;show (a7 (ai g) (ai d)&&rP ((d::r).map ai))=V;rw[VB.1 d (.head _),Ed VB.2];rfl
def yy{cs:List (Int×Int)}(e:ia cs):cs.Nodup:=e.imp λ{g d} c i=>by rw[i,r9]at c;cases c
def yH{L:aC ak}{s:ak}{z:List ab}(c:L k=Z (s,VK))(q:gG s=Z z):dn (aa L) k=Z ((z,Y),VK):=by
 unfold dn;rw[cC c];show (gG s).map _=_;rw[q];rfl
def q1(g d:b5):Bool:=(decide ((if g.1-d.1<0 then -(g.1-d.1) else g.1-d.1)+(if g.2-d.2<0 then -(g.2-d.2) else g.2-d.2)=1))
def FW{d:b5}:q1 g d=V↔d∈js g:=by
 let⟨a,b⟩:=g;let⟨aU,aV⟩:=d;unfold q1 js;rw[hD];simp only[bO,gz,eT,ib];lia
def oK(M:List a4):Prop:=((M.map aQ).Pairwise (λg d=>a7 g d=V))
def E9(VG:List a4):eM [bh VG]=gE (VG.map aQ):=rT λs hd=>by
 let⟨n,W,rfl⟩:=dK.mp hd;exact⟨_,rfl⟩
def Ho(ah:VG.Nodup)(c:VG.length<=1000):∃x:List a4,x.Perm VG/\eM [bh VG]=Z (bh x)/\oK x:=by
 have a:=xA ah c;let⟨x,Wa,b⟩:=GQ (iL<|VG.map aQ);refine⟨x,Wa,?_,?_⟩
 ·rw[E9];unfold gE;rw[aJ (mw.mpr a),b]
 ·unfold oK;rw[<-b];exact oT a.1.3 a.1.2
def Ru(ah:VG.Nodup)(b:VG.length<=1000)(r:oK VG):eM [bh VG]=Z (bh VG):=by
 have a:=xA ah b;rw[E9];unfold gE;rw[aJ (mw.mpr a),<-AU a.1 (.refl _) r]
def LL{VQ:List a4}(f:VQ.length<=1000):ri [l,Z<|.aR<|bS E,Z<|bh VQ,Z<|.im<|ai d,Wt]=Z (.aI,[l,Z<|.aR<|bS E,Z<|bh<|VQ++fo E d,Z<|.im<|ai d,Z<|aN [(d.1,d.2+2),(d.1+2,d.2)]]):=by
 have WQ:a9 (.im<|ai d) (aL 0)=Z (aL d.1):=rfl;have a:a9 (.im<|ai d) (aL 1)=Z (aL d.2):=rfl;have b:dg 1 [1,3] (dn<|ag 4) (br 0) G.AG G.yX [l,Z<|.aR<|bS E,Z<|bh VQ,Z<|.im<|ai d,Z<|aN [(d.1,d.2+2),(d.1+2,d.2)]]=Z (bh<|fo E d,[l,Z<|.aR<|bS E,Z<|bh VQ,Z<|.im<|ai d,Z<|aN [(d.1,d.2+2),(d.1+2,d.2)]]):=by
  have q:=q4 (own:=1) (Wh:=br 0) (n:=G.AG) (c:=G.yX) (aG:=[Z (.aR<|bS E),Z<|.im<|ai d]) ai (λm=>decide (m∈E)) (λm=>aQ (d,m)) [(d.1,d.2+2),(d.1+2,d.2)] [] (λm g=>?_) (by show 0+2<=100000;decide)
  ·rw[k7,show (([(d.1,d.2+2),(d.1+2,d.2)].filter λm=>decide (m∈E)).map λm=>aQ (d,m))=(fo E d).map aQ by unfold fo;rw[f5];rfl]at q;exact kQ (z:=[(d.1,d.2+2),(d.1+2,d.2)].map ai) (m:=Z (4,aN [(d.1,d.2+2),(d.1+2,d.2)])) (VK:=[l,Z<|.aR<|bS E,Z<|bh VQ,Z<|.im<|ai d,Z .dS]) rfl q rfl
  ·exact⟨[Z (.im<|ai m),Z<|.aR<|bS E,Z<|.im<|ai d],[Z (.im<|ai m),Z<|.aR<|bS E,Z<|.im<|ai d],rfl,eD<|dA<|ym E m,λ_=>rfl,λ_=>⟨[Z (.im<|ai m),Z<|.aR<|bS E,Z<|.im<|ai d],mr (bX rfl<|bX rfl rfl) rfl (fu rfl) rfl,rfl⟩⟩
 have bA:=sF E d;have e:nu (bh VQ) [bh (fo E d)]=Z (.im .aS,bh<|VQ++fo E d):=by
  show (if _ then _ else _)=_;rw[aJ (by rw[bB,bB];lia),<-fM]
 unfold ri;exact cW (VK:=[l,Z<|.aR<|bS E,Z<|bh VQ,Z<|.im<|ai d,Z<|aN [(d.1,d.2+2),(d.1+2,d.2)]]) (lz (FY (bX (aZ<|mr (bX (aZ<|dA WQ)<|bX (aZ<|b7 (aZ<|dA a) rfl rfl rfl rfl) rfl) rfl (fu rfl) rfl)<|bX (aZ<|mr (bX (aZ<|b7 (aZ<|dA WQ) rfl rfl rfl rfl)<|bX (aZ<|dA a) rfl) rfl (fu rfl) rfl) rfl) rfl (fu rfl) rfl) (gY rfl) rfl) (lg<|j7 rfl rfl (bX (aZ b) rfl) rfl rfl e rfl)
theorem It{E:List aw}{l:Option ak}:∀(a:List aw) (VQ:List a4) (b Wt:Option ak),VQ.length+2*a.length<=1000->∃c e,ed (br 3) ri (a.map ai) [l,Z<|.aR<|bS E,Z<|bh VQ,b,Wt]=Z (.aI,[l,Z<|.aR<|bS E,Z<|bh<|VQ++a.flatMap (fo E),c,e])
 |[],VQ,b,Wt,_=>⟨b,Wt,by rw[DV,cj];rfl⟩
 |d::a,VQ,b,Wt,f=>by
  rw[dV]at f;have bA:=sF E d;let⟨c,e,g⟩:=It (E:=E) (l:=l) a (VQ++fo E d) (Z<|.im<|ai d) (Z<|aN [(d.1,d.2+2),(d.1+2,d.2)]) (by rw[d7];lia);refine⟨c,e,?_⟩;rw[cS,ed];show (ri [l,Z<|.aR<|bS E,Z<|bh VQ,Z<|.im<|ai d,Wt]).bind _=_;rw[LL ⋯,nc,<-bz];exact g
def Dq(V3:dF E):pL [aT E]=Z (bh<|dP E,[aT E]):=by
 have d:=V3.len;let⟨b,c,a⟩:=It (E:=E) (l:=Z (aT E)) E [] Y Y (by simp;lia);rw[k7]at a;unfold pL IZ;exact ff (k:=[Z (aT E),Z<|.aR<|bS E,Z .dS,b,c]) rfl (cW (VK:=[Z (aT E),Z<|.aR<|bS E,Y,Y,Y]) (lz (c5 (VV:=[.a6 0]) rfl rfl rfl (CE V3.ah ⋯) rfl) (gY rfl) rfl)<|cW (VK:=[Z (aT E),Z<|.aR<|bS E,Z<|bh [],Y,Y]) rfl<|cW (jC (m:=Y) rfl a rfl)<|dY rfl) rfl
def SI{p:aw->aw}{n J u:aw}{Wv:Option ak}(e:n∈E)(a:E.length<=1000):se [l,V5,Z<|.aR<|cp E p,Z<|.im<|ai n,Wt,Wv,Z<|.im<|ai J,Z<|.im<|ai u]=Z (.aI,[l,V5,Z<|.aR<|cp E<|jP u J p n,Z<|.im<|ai n,Wt,Wv,Z<|.im<|ai J,Z<|.im<|ai u]):=by
 have I:bJ (av eN (aa<|av a9 (ag 2)<|ag 3)<|ag 7) [l,V5,Z<|.aR<|cp E p,Z<|.im<|ai n,Wt,Wv,Z<|.im<|ai J,Z<|.im<|ai u]=Z (decide (p n=u),[l,V5,Z<|.aR<|cp E p,Z<|.im<|ai n,Wt,Wv,Z<|.im<|ai J,Z<|.im<|ai u]):=eD (b7 (aZ<|dA<|qq p e) rfl rfl rfl<|HZ _ _);unfold se;by_cases i:p n=u
 ·rw[dJ i]at I;have c:jP u J p n=λd=>if d=n then J else p d:=funext λd=>by
   unfold jP;exact zg ⟨λt=>t.1,λt=>⟨t,i⟩⟩
  rw[c];refine pw I (jv rfl ?_);show (hU (.aR<|cp E p) (.im<|ai n)<|.im<|ai J).map _=_;rw[UK e a];rfl
 ·rw[eB i]at I;have c:jP u J p n=p:=funext λd=>by
   unfold jP;exact aP λt=>i t.2
  rw[c];exact il I rfl
theorem Fb{E:List aw}{J u:aw}{l V5 Wt Wv:Option ak}(d:E.length<=1000):∀(a:List aw) (p:aw->aw) (b:Option ak),(∀n∈a,n∈E)->∃c,ed (br 3) se (a.map ai) [l,V5,Z<|.aR<|cp E p,b,Wt,Wv,Z<|.im<|ai J,Z<|.im<|ai u]=Z (.aI,[l,V5,Z<|.aR<|cp E<|a.foldl (jP u J) p,c,Wt,Wv,Z<|.im<|ai J,Z<|.im<|ai u])
 |[],p,b,_=>⟨b,rfl⟩
 |n::a,p,b,e=>by
  let⟨c,g⟩:=Fb (E:=E) (J:=J) (u:=u) (l:=l) (V5:=V5) (Wt:=Wt) (Wv:=Wv) d a (jP u J p n) (Z<|.im<|ai n) λf h=>e f (.tail _ h);refine⟨c,?_⟩;rw[cS,ed];show (se [l,V5,Z<|.aR<|cp E p,Z<|.im<|ai n,Wt,Wv,Z<|.im<|ai J,Z<|.im<|ai u]).bind _=_;rw[SI (e n<|.head _) d];exact g
def P7{h:(aw->aw)×List a4}{c:a4}{b a B:Option ak}(k:E.length<=1000)(n:h.2.length<=1000)(A:c.1∈E)(C:c.2∈E):∃e p q,ta [Z (aT E),V5,Z<|.aR<|cp E h.1,b,Z<|bh h.2,Z<|.im<|aQ c,a,B]=Z (.aI,[Z (aT E),V5,Z<|.aR<|cp E (bK h c).1,e,Z<|bh (bK h c).2,Z<|.im<|aQ c,p,q]):=by
 let⟨o,aM⟩:=h;have WQ:a9 (.im<|aQ c) (aL 0)=Z (.im<|ai c.1):=rfl;have r:a9 (.im<|aQ c) (aL 1)=Z (.im<|ai c.2):=rfl;have f:cn 6 (av a9 (ag 2)<|aa<|av a9 (ag 5)<|aa<|au<|.int 0) [Z (aT E),V5,Z<|.aR<|cp E o,b,Z<|bh aM,Z<|.im<|aQ c,a,B]=Z (.aI,[Z (aT E),V5,Z<|.aR<|cp E o,b,Z<|bh aM,Z<|.im<|aQ c,Z<|.im<|ai<|o c.1,B]):=lz (b7 rfl (aZ<|dA WQ) rfl rfl<|qq o A) (gY rfl) rfl;have g:cn 7 (av a9 (ag 2)<|aa<|av a9 (ag 5)<|aa<|au<|.int 1) [Z (aT E),V5,Z<|.aR<|cp E o,b,Z<|bh aM,Z<|.im<|aQ c,Z<|.im<|ai<|o c.1,B]=Z (.aI,[Z (aT E),V5,Z<|.aR<|cp E o,b,Z<|bh aM,Z<|.im<|aQ c,Z<|.im<|ai<|o c.1,Z<|.im<|ai<|o c.2]):=lz (b7 rfl (aZ<|dA r) rfl rfl<|qq o C) (gY rfl) rfl;have I:bJ (av gj (ag 6)<|ag 7) [Z (aT E),V5,Z<|.aR<|cp E o,b,Z<|bh aM,Z<|.im<|aQ c,Z<|.im<|ai<|o c.1,Z<|.im<|ai<|o c.2]=Z (!decide (o c.1=o c.2),[Z (aT E),V5,Z<|.aR<|cp E o,b,Z<|bh aM,Z<|.im<|aQ c,Z<|.im<|ai<|o c.1,Z<|.im<|ai<|o c.2]):=eD (dA<|zQ _ _);unfold ta;by_cases i:o c.1=o c.2
 ·rw[dJ i]at I;rw[show bK (o,aM) c=(o,aM) from aJ i];exact⟨_,_,_,cW f<|cW g<|il I rfl⟩
 ·rw[eB i]at I;rw[show bK (o,aM) c=(gr o c,aM++[c]) from aP i];let⟨e,j⟩:=Fb (E:=E) (J:=o c.1) (u:=o c.2) (l:=Z (aT E)) (V5:=V5) (Wt:=Z (bh<|aM++[c])) (Wv:=Z (.im<|aQ c)) k E o b λ_ i=>i;have s:cp E (E.foldl (jP (o c.2)<|o c.1) o)=cp E (gr o c):=OZ λd v=>by
   rw[E3 i];exact zg ⟨λt=>t.2,λt=>⟨v,t⟩⟩
  rw[s]at j;have w:ha (bh aM) [.im (aQ c)]=Z (.im .aS,bh<|aM++[c]):=by
   have:ha (bh aM) [.im (aQ c)]=Z (.im .aS,.lst<|aM.map aQ++[aQ c]):=uk (by rw[bB];dsimp only at n;lia);rw[this];simp
  exact⟨_,_,_,cW f<|cW g<|pw I<|cW (lg<|j7 rfl rfl (bX rfl rfl) rfl rfl w rfl)<|jC (m:=Y) rfl j rfl⟩
theorem B0{E:List aw}{V5:Option ak}(k:E.length<=1000):∀(U:List a4) (h:(aw->aw)×List a4) (b Wv a B:Option ak),h.2.length+U.length<=1000->(∀c∈U,c.1∈E/\c.2∈E)->∃d g i j,ed (br 5) ta (U.map aQ) [Z (aT E),V5,Z<|.aR<|cp E h.1,b,Z<|bh h.2,Wv,a,B]=Z (.aI,[Z (aT E),V5,Z<|.aR<|cp E (fb U h).1,d,Z<|bh (fb U h).2,g,i,j])
 |[],h,b,Wv,a,B,_,_=>⟨b,Wv,a,B,rfl⟩
 |c::U,h,b,Wv,a,B,VN,e=>by
  rw[dV]at VN;let⟨l,m,n,X⟩:=P7 (V5:=V5) (b:=b) (a:=a) (B:=B) (h:=h) k ⋯ (e c<|.head _).1 (e c<|.head _).2;have q:(bK h c).2.length<=h.2.length+1:=by
   unfold bK;split
   ·lia
   ·rw[d7];exact bT _
  let⟨d,g,i,j,o⟩:=B0 (E:=E) (V5:=V5) k U (bK h c) l (Z<|.im<|aQ c) m n ⋯ λf p=>e f (.tail _ p);refine⟨d,g,i,j,?_⟩;rw[cS,ed];show (ta [Z (aT E),V5,Z<|.aR<|cp E h.1,b,Z<|bh h.2,Z<|.im<|aQ c,a,B]).bind _=_;rw[X];exact o
theorem Dj{E:List aw}{l V5:Option ak}(g:E.length<=1000):∀(a done:List aw) (b:Option ak),(done++a)=E->E.Nodup->∃f,ed (br 3) s9 (a.map ai) [l,V5,Z<|.aR<|cp done λd=>d,b,Y,Y,Y,Y]=Z (.aI,[l,V5,Z<|.aR<|cp E λd=>d,f,Y,Y,Y,Y])
 |[],done,b,c,_=>⟨b,by rw[cj]at c;rw[c];rfl⟩
 |n::a,done,b,c,ah=>by
  have h:n∉done:=λi=>by
   rw[<-c]at ah;exact (dt.mp ah).2.2 n i n (.head _) rfl
  let⟨f,j⟩:=Dj (E:=E) (l:=l) (V5:=V5) g a (done++[n]) (Z<|.im<|ai n) (by rw[bz];exact c) ah;refine⟨f,?_⟩;have ld:done.length<=E.length:=by rw[<-c,d7];lia
  have k:hU (.aR<|cp done λd=>d) (.im<|ai n) (.im<|ai n)=Z (.aR<|cp (done++[n]) λd=>d):=by
   have:g9 (cp done λd=>d) (d3 n) (ai n)=cp (done++[n]) λd=>d:=by
    unfold g9;rw[aP λi=>by
     let⟨p,m,e⟩:=oH.mp i;let⟨d,o,rfl⟩:=dK.mp m;exact h (qW (e9 e) ▸ o)]
    unfold cp;rw[fM];rfl
   rw[<-this];exact aJ ⟨rfl,by unfold cp;rw[bB];lia⟩
  have X:s9 [l,V5,Z<|.aR<|cp done λd=>d,Z<|.im<|ai n,Y,Y,Y,Y]=Z (.aI,[l,V5,Z<|.aR<|cp (done++[n]) λd=>d,Z<|.im<|ai n,Y,Y,Y,Y]):=by
   unfold s9;refine jv rfl ?_;show (hU (.aR<|cp done λd=>d) (.im<|ai n)<|.im<|ai n).map _=_;rw[k];rfl
  rw[cS,ed];show (s9 [l,V5,Z<|.aR<|cp done λd=>d,Z<|.im<|ai n,Y,Y,Y,Y]).bind _=_;rw[X];exact j
def U1(ah:E.Nodup)(b:E.length<=1000)(VN:U.length<=1000)(e:∀c∈U,c.1∈E/\c.2∈E)(f:eM [bh (fb U (λd=>d,[])).2]=Z (bh x)):vW [aT E,bh U]=Z (.im<|.tup<|x.map aQ,[aT E,bh U]):=by
 let⟨a,L⟩:=Dj (E:=E) (l:=Z (aT E)) (V5:=Z (bh U)) b E [] Y rfl ah;let⟨g,h,i,j,M⟩:=B0 (E:=E) (V5:=Z .dS) b U (λd=>d,[]) a Y Y Y (by show 0+_<=_;lia) e;unfold vW Dc;exact ff (k:=[Z (aT E),Z<|bh U,Z<|.aR<|cp E (fb U (λd=>d,[])).1,g,Z<|bh (fb U (λd=>d,[])).2,h,i,j]) rfl (cW (VK:=[Z (aT E),Z<|bh U,Z<|.aR<|cp [] λd=>d,Y,Y,Y,Y,Y]) rfl (cW (jC (m:=Y) rfl L rfl)<|cW (VK:=[Z (aT E),Z<|bh U,Z<|.aR<|cp E λd=>d,a,Z<|bh [],Y,Y,Y]) rfl<|cW (jC (m:=Z (1,bh U)) (VK:=[Z (aT E),Z .dS,Z<|.aR<|cp E λd=>d,a,Z<|bh [],Y,Y,Y]) rfl M rfl)<|dY<|vQ<|er (bX rfl rfl) rfl f) ) rfl
def Tp{kept:List a4}(V3:dF E)(a:∀c∈kept,eV E c)(g:kept.length<=100)(b:eM [bh (fb (kept++dP E) (λd=>d,[])).2]=Z (bh x)):pU [aT E,.im<|.tup<|kept.map aQ]=Z (.im<|.tup<|x.map aQ,[aT E,.im<|.tup<|kept.map aQ]):=by
 have aF:=V3.len;have bA:=sP E E;have h:(dP E).length<=2*E.length:=bA;have f:∀c∈kept++dP E,c.1∈E/\c.2∈E:=λc e=>by
  rcases dy.mp e with i|i
  ·exact⟨(a c i).1,(a c i).2.1⟩
  ·exact⟨(kh.mp i).1,(kh.mp i).2.1⟩
 have v:=U1 V3.ah ⋯ (by rw[d7];lia) f b;have ad:dp (bh kept) (bh<|dP E)=Z (bh<|kept++dP E):=by
  rw[show bh (kept++dP E)=.lst (kept.map aQ++(dP E).map aQ) by rw[bh,fM]];exact aJ (by rw[bB,bB];lia)
 unfold pU F9;exact ff (k:=[Z (aT E),Z<|.im<|.tup<|kept.map aQ]) rfl (dY<|c5 (VV:=[.a6 0,.cA<|bh<|kept++dP E]) (bX rfl<|bX (aZ<|b7 (aZ<|er (bX rfl rfl) rfl rfl) (aZ<|c5 (VV:=[.a6 0]) rfl rfl rfl (Dq V3) rfl) rfl rfl ad) rfl) rfl rfl v rfl) rfl
inductive eX (cs:List b5) (h:b5):b5->Prop
 | self:eX cs h h
 | step {g d:b5}:eX cs h g->d∈cs->q1 g d=V->eX cs h d
def Ld(VG:List b5)(n:b5):ml (.im<|ai n) (.aR<|bS VG)=Z (d9<|!decide (n∈VG)):=by
 have:=ym VG n;show (hW (ai n)<|.aR<|bS VG).map (λr=>ak.im<|.aF<|!r)=_;have C:(hW (ai n)<|.aR<|bS VG).map (λr=>ak.im<|.aF r)=Z (d9<|decide (n∈VG)):=this;let⟨@r,a,b⟩:=cv.mp C;rw[a];cases b;rfl
theorem uI{V7:Type}[DecidableEq V7]:∀{M H:List V7},M.Nodup->(∀f∈M,f∈H)->M.length<=H.length
 |[],_,_,_=>kZ _
 |f::M,H,ah,e=>by
  have aI:=hN.mp ah;have:=uI (H:=H.erase f) aI.2 λt a=>(Az (λc=>aI.1 (by rw[<-c];exact a))).mpr (e t<|.tail _ a);have c:=Ia (e f<|.head _);have o:=yk (e f<|.head _);rw[dV];lia
def d0(cs:List b5)(o:List b5×List b5)(n:b5):List b5×List b5:=(if n∈cs/\n∉o.1 then (o.1++[n],o.2++[n]) else o)
abbrev hG(V5:Option ak)(cs:List b5)(o:List b5×List b5)(Wt:Option ak):a5:=[Z (.aR<|bS cs),V5,Z<|.aR<|bS o.1,Z<|aN o.2,Wt]
def NS{cs:List b5}(A:o.1.length<10000)(C:o.2.length<10000):sS (hG V5 cs o<|Z<|.im<|ai n)=Z (.aI,hG V5 cs (d0 cs o n)<|Z<|.im<|ai n):=by
 have V8:bJ (av j6 (ag 4)<|ag 0) (hG V5 cs o<|Z<|.im<|ai n)=Z (decide (n∈cs),hG V5 cs o<|Z<|.im<|ai n):=eD (dA<|ym cs n);have Wd:bJ (av ml (ag 4)<|ag 2) (hG V5 cs o<|Z<|.im<|ai n)=Z (!decide (n∈o.1),hG V5 cs o<|Z<|.im<|ai n):=eD (dA<|Ld o.1 n);unfold sS d0;by_cases g:n∈cs
 ·rw[dJ g]at V8;by_cases d:n∈o.1
  ·rw[dJ d]at Wd;rw[aP λi=>i.2 d];exact il (l3 V8 Wd) rfl
  ·rw[eB d]at Wd;rw[aJ ⟨g,d⟩];have a:hU (.aR<|bS o.1) (.im<|.tup<|d3 n) (d9 V)=Z (.aR<|bS<|o.1++[n]):=by
    have c:gs o.1 n=o.1++[n]:=by unfold gs;rw[aP d]
    rw[<-c,<-D6];exact aJ ⟨rfl,by unfold bS;rw[bB];lia⟩
   refine pw (l3 V8 Wd) (cW (VK:=[Z (.aR<|bS cs),V5,Z<|.aR<|bS<|o.1++[n],Z<|aN o.2,Z<|.im<|ai n]) ?_ ?_)
   ·refine jv rfl ?_;show (hU (.aR<|bS o.1) (.im<|.tup<|d3 n)<|d9 V).map _=_;rw[a];rfl
   ·refine lg (j7 rfl rfl (bX rfl rfl) rfl rfl (uk (by rw[bB];lia)) ?_);show _=[Z (.aR<|bS cs),V5,Z<|.aR<|bS<|o.1++[n],Z<|aN<|o.2++[n],Z<|.im<|ai n];unfold aN;rw[fM];rfl
 ·rw[eB g]at V8;rw[aP λi=>g i.1];exact il (qJ V8) rfl
def K1(cs:List b5)(o:List b5×List b5)(n:b5):(d0 cs o n).1.length<=o.1.length+1/\(d0 cs o n).2.length<=o.2.length+1:=by
 unfold d0;split
 ·rw[d7,d7];exact⟨bT _,bT _⟩
 ·exact⟨⋯,⋯⟩
theorem Cr{V5:Option ak}{cs:List b5}:∀(z:List b5) (o:List b5×List b5) (Wt:Option ak),o.1.length+z.length<10000->o.2.length+z.length<10000->∃a,ed (br 4) sS (z.map ai) (hG V5 cs o Wt)=Z (.aI,hG V5 cs (z.foldl (d0 cs) o) a)
 |[],o,Wt,_,_=>⟨Wt,rfl⟩
 |n::z,o,Wt,A,C=>by
  rw[dV]at A C;have M:=K1 cs o n;let⟨a,b⟩:=Cr (V5:=V5) z (d0 cs o n) (Z<|.im<|ai n) ⋯ ⋯;refine⟨a,?_⟩;rw[cS,ed];show (sS<|hG V5 cs o<|Z<|.im<|ai n).bind _=_;rw[NS ⋯ ⋯];exact b
structure nP(cs:List b5)(h:b5)(o:List b5×List b5):Prop where
 ah:o.1.Nodup
 yq:h∈o.1
 con:∀f∈o.1,eX cs h f
 sub:∀f∈o.1,f=h\/f∈cs
 AW:∀f∈o.2,f∈o.1
def nP.step{cs:List b5}{h f:b5}{o:List b5×List b5}(VJ:nP cs h o)(b:f∈o.1){n:b5}(j:n∈js f):nP cs h (d0 cs o n):=by
 unfold d0;split
 ·rename_i e;refine⟨?_,eL _ VJ.yq,λt a=>?_,λt a=>?_,λt a=>?_⟩
  ·rw[dt];exact⟨VJ.ah,fN _ _,λg k d l c=>e.2 (by rw[<-cH.mp l,<-c];exact k)⟩
  ·rcases dy.mp a with i|i
   ·exact VJ.con t i
   ·rw[cH.mp i];exact .step (VJ.con f b) e.1 (FW.mpr j)
  ·rcases dy.mp a with i|i
   ·exact VJ.sub t i
   ·rw[cH.mp i];exact .inr e.1
  ·rcases dy.mp a with i|i
   ·exact eL _ (VJ.AW t i)
   ·exact ez _ i
 ·exact VJ
def Nn{cs:List b5}{t:b5}:(t∈o.1->t∈(d0 cs o n).1)/\(t∈o.2->t∈(d0 cs o n).2)/\(t∈(d0 cs o n).1->t∈o.1\/t∈(d0 cs o n).2)/\(n∈cs->n∈(d0 cs o n).1):=by
 unfold d0;split
 ·rename_i e;refine⟨λi=>eL _ i,λi=>eL _ i,λi=>?_,λ_=>ez _<|.head _⟩;rcases dy.mp i with i|i
  ·exact .inl i
  ·exact .inr (ez _ i)
 ·rename_i e;refine⟨λi=>i,λi=>i,.inl,λi=>?_⟩;by_cases p:n∈o.1
  ·exact p
  ·exact absurd ⟨i,p⟩ e
theorem Dp{cs:List b5}{h f:b5}:∀(z:List b5) (o:List b5×List b5),(∀n∈z,n∈js f)->f∈o.1->nP cs h o->nP cs h (z.foldl (d0 cs) o)/\(∀t,t∈o.1->t∈(z.foldl (d0 cs) o).1)/\(∀t,t∈o.2->t∈(z.foldl (d0 cs) o).2)/\(∀t,t∈(z.foldl (d0 cs) o).1->t∈o.1\/t∈(z.foldl (d0 cs) o).2)/\(∀n∈z,n∈cs->n∈(z.foldl (d0 cs) o).1)/\(z.foldl (d0 cs) o).1.length+o.2.length=(z.foldl (d0 cs) o).2.length+o.1.length
 |[],o,_,_,VJ=>⟨VJ,λ_ e=>e,λ_ e=>e,λ_ e=>.inl e,λn e=>(by cases e),wt _ _⟩
 |n::z,o,a,b,VJ=>by
  have H:=λt=>Nn (cs:=cs) (o:=o) (n:=n) (t:=t);let@⟨j,d,g,k,l,m⟩:=Dp z (d0 cs o n) (λs hd=>a s<|.tail _ hd) ((H f).1 b) (VJ.step b<|a n<|.head _);refine⟨j,λt e=>d t<|(H t).1 e,λt e=>g t<|(H t).2.1 e,λt e=>?_,λs hd e=>?_,?_⟩
  ·rcases k t e with i|i
   ·rcases (H t).2.2.1 i with y|y
    ·exact .inl y
    ·exact .inr (g t y)
   ·exact .inr i
  ·rcases bO.mp hd with rfl|hd
   ·exact d s ((H s).2.2.2 e)
   ·exact l s hd e
  ·have c:(d0 cs o n).1.length+o.2.length=(d0 cs o n).2.length+o.1.length:=by
    unfold d0;split
    ·rw[d7,d7,ko];lia
    ·exact wt _ _
   show (z.foldl (d0 cs)<|d0 cs o n).1.length+o.2.length=(z.foldl (d0 cs)<|d0 cs o n).2.length+o.1.length;lia
structure m5(cs:List b5)(h:b5)(o:List b5×List b5):Prop where
 i:nP cs h o
 done:∀g∈o.1,g∉o.2->∀d∈cs,q1 g d=V->d∈o.1
def nP.len{cs:List b5}(VJ:nP cs h o):o.1.length<=cs.length+1:=
 uI (H:=h::cs) VJ.ah λf a=>by
  rcases VJ.sub f a with e|e
  ·rw[e];exact .head _
  ·exact .tail _ e
def m5.next{cs:List b5}(VJ:m5 cs h (N,y++[f])):m5 cs h ((js f).foldl (d0 cs) (N,y))/\((js f).foldl (d0 cs) (N,y)).1.length+y.length=((js f).foldl (d0 cs) (N,y)).2.length+N.length:=by
 have l:f∈N:=VJ.i.AW f (ez _<|.head _);let@⟨m,n,o,p,q,r⟩:=Dp (cs:=cs) (h:=h) (js f) (N,y) (λ_ e=>e) l ⟨VJ.i.ah,VJ.i.yq,VJ.i.con,VJ.i.sub,λt s=>VJ.i.AW t<|eL _ s⟩;refine⟨⟨m,λg u a d j c=>?_⟩,r⟩;have v:g∈N:=(p g u).resolve_right a;by_cases k:g=f
 ·subst k;exact q d (FW.mp c) j
 ·refine n d (VJ.done g v (λi=>?_) d j c);rcases dy.mp i with i|i
  ·exact a (o g i)
  ·exact k (cH.mp i)
def m5.fin{cs:List b5}(VJ:m5 cs h (N,[]))(f:b5):f∈N↔eX cs h f:=by
 refine⟨VJ.i.con f,λe=>?_⟩;induction e with
 |self=>exact VJ.i.yq
 |step _ a c d=>exact VJ.done _ d (λi=>by cases i) _ a c
def UD{cs:List b5}{h f:b5}(A:N.length<5000)(C:y.length<5000):∃a,uY (hG V5 cs (N,y++[f]) Wt)=Z (.aI,hG V5 cs ((js f).foldl (d0 cs) (N,y)) a):=by
 let⟨@a,b⟩:=Cr (V5:=V5) (cs:=cs) (js f) (N,y) Wt (by show _+4<_;lia) (by show _+4<_;lia);refine⟨a,?_⟩;unfold uY;refine jC (m:=Y) (VK:=hG V5 cs (N,y) Wt) (yH (s:=aN (js f)) (c5 (di (cC<|j7 (n:=aN (y++[f])) (c:=aN y) rfl rfl rfl rfl rfl ?_ rfl) rfl) rfl rfl (J5 f) rfl) rfl) b rfl;show (((y++[f]).map ai).getLast?).map (λs=>(ak.im s,ak.lst ((y++[f]).map ai).dropLast))=Z (.im<|ai f,aN y);rw[fM,List.map_singleton,List.getLast?_concat,List.dropLast_concat];rfl
def M8{cs:List b5}(D:cs.length<=900):∃pt,ph [.aR (bS cs),.im<|ai h]=Z (aT pt,[.aR (bS cs),.im<|ai h])/\ia pt/\(∀f,f∈pt↔eX cs h f):=by
 have t:m5 cs h ([h],[h]):=⟨⟨fN _ _,.head _,λf j=>by rw[cH.mp j];exact .self,λf j=>.inl<|cH.mp j,λf j=>j⟩,λg u a=>absurd u a⟩;let⟨@VW,dD,⟨N,@Wt,rfl,VJ⟩⟩:=y8 (n:=B2) (d:=uY) (λH k=>∃N y Wt,k=hG (Z<|.im<|ai h) cs (N,y) Wt/\m5 cs h (N,y)/\y.length<=N.length/\H+N.length=cs.length+1+y.length) (λk=>∃N Wt,k=hG (Z<|.im<|ai h) cs (N,[]) Wt/\m5 cs h (N,[])) (λH k ⟨N,y,Wt,c,VJ,v,w⟩=>by
  subst c;have a3:=VJ.i.len;rcases List.eq_nil_or_concat y with rfl|⟨y,f,rfl⟩
  ·exact⟨aq,_,i7 rfl rfl rfl,λe=>(by cases e),λ_=>⟨N,Wt,rfl,VJ⟩⟩
  ·rw[List.concat_eq_append] at *;refine⟨V,_,i7 (s:=aN (y++[f])) rfl rfl ?_,λ_=>?_,λe=>by cases e⟩
   ·show Z (!((y++[f]).map ai).isEmpty)=Z V;rw[fM,List.isEmpty_eq_false_iff.mpr ↥0];rfl
   ·rw[d7,ko]at v w;let⟨@x,l⟩:=UD (cs:=cs) (h:=h) (f:=f) (N:=N) (y:=y) (V5:=Z (.im<|ai h)) (Wt:=Wt) (by show _<_;dsimp only at a3;lia) (by dsimp only at a3;lia);let@⟨VX,m⟩:=VJ.next;have p:=VX.i.len;generalize (js f).foldl (d0 cs) (N,y)=o at l VX m p;let⟨z,Wo⟩:=o;dsimp only at a3 p m;exact⟨.aI,_,l,.inl rfl,H-1,by omega,z,Wo,x,rfl,VX,by omega,by omega⟩) 1000000 (cs.length+1) (hG (Z<|.im<|ai h) cs ([h],[h]) Y) ⟨[h],[h],Y,rfl,t,bT _,by show _=cs.length+1+1;rfl⟩ ⋯
 have q:=VJ.i.ah;have r:=VJ.i.len;let⟨@pt,A,B,C⟩:=RR q (by dsimp only at r ⊢;lia);refine⟨pt,?_,C,λf=>B.mem_iff.trans<|VJ.fin f⟩;have VN:eM [.aR (bS N)]=Z (aN pt):=by
  show gE ((bS N).map λo=>.tup o.1)=_;have c:((bS N).map λo=>ab.tup o.1)=N.map ai:=by unfold bS;rw[f5];rfl
  rw[c];unfold gE;rw[aJ (mw.mpr (rJ q (by dsimp only at r ⊢;lia))),A]
 unfold ph F1;refine ff (k:=hG (Z<|.im<|ai h) cs (N,[]) Wt) rfl (cW (VK:=[Z (.aR<|bS cs),Z<|.im<|ai h,Z<|.aR<|bS [h],Y,Y]) rfl<|cW (VK:=hG (Z<|.im<|ai h) cs ([h],[h]) Y) rfl<|cW dD ?_) rfl;exact (dY<|er (bX (aZ<|er (bX rfl rfl) rfl VN) rfl) rfl rfl)
def E4(b:Int):rE (.int b):=λg c=>by cases c
def Ui(n:Int×Int):qe (ai n):=⟨(λg c=>by cases c),λU c t a=>by
 cases c;rcases bO.mp a with rfl|a
 ·exact E4 _
 ·rw[cH.mp a];exact E4 _⟩
def KJ{cs:List (Int×Int)}{f:ab}(e:f∈cs.map ai):qe f:=by
 let⟨@n,W,rfl⟩:=dK.mp e;exact Ui n
def S1{B:List ab}(e:∀f∈B,qe f)(a:B.length<=290):wA (.tup B):=⟨(λg c=>by cases c),λU c=>by cases c;exact⟨a,e⟩⟩
theorem z9:∀E:List b5,ab.cO 7 (E.map ai)=V
 |[]=>rfl
 |d::E=>by
  rw[cS,ab.cO,z9 E];rfl
structure q5(cs:List b5):Prop where
 up:ia cs
 kR:∀n∈cs,0<=n.1/\n.1<=30/\0<=n.2/\n.2<=30
 len:cs.length<=200
def q5.qv{cs:List b5}(O:q5 cs):wA (.tup<|cs.map ai):=S1 (λf a=>KJ a) (by rw[bB];have:=O.len;lia)
def q5.is{cs:List b5}(O:q5 cs):zc (.tup<|cs.map ai)=V:=by
 show ((cs.map ai).all iY&&rP (cs.map ai))=V;rw[Ed O.up,AD,jm];intro f a;let⟨@n,b,rfl⟩:=dK.mp a;exact Tc (O.kR n b)
def K2(g d:List b5):eN (aL ((g.map ai).length:Int)) (aL ((d.map ai).length:Int))=Z (d9<|decide (g.length=d.length)):=by
 rw[qx,bB,bB];have:decide ((g.length:Int)=(d.length:Int))=decide (g.length=d.length):=kd.mpr ⟨λe=>⋯,λe=>⋯⟩;rw[this]
def RC(h:b5)(r:List b5):a9 (aT (h::r)) (aL 0)=Z (.im<|ai h):=by
 show (e5 ((h::r).map ai) 0).map ak.im=_;rw[xU (lY 0) (s:=ai h) rfl];rfl
def RF{N:ae}{r a:List b5}(O:q5 (h::r))(b:ph [.aR (bS (h::r)),.im<|ai h]=Z (aT a,[.aR (bS (h::r)),.im<|ai h])):pe N [aT (h::r)]=Z (d9<|decide (a.length=(h::r).length),[aT (h::r)]):=by
 have c:=N_ (N:=N) O.qv;rw[O.is]at c;have a3:=O.len;have L:=CE (cs:=h::r) (yy O.up) (by omega);have ne:eN (aL (((h::r).map ai).length:Int)) (aL 0)=Z (d9 aq):=by
  rw[qx,eB (by rw[bB,dV];omega)]
 have V8:gy (aa<|bf 1 (G.p8 N)<|aj (ag 0) ay) [Z (aT (h::r))]=Z (V,[Z (aT (h::r))]):=i7 (aZ<|c5 (VV:=[.a6 0]) (i:=[aT (h::r)]) (r:=d9 V) rfl rfl rfl c rfl) rfl rfl;have Wd:bJ (av eN (aa<|bV eO<|aj (ag 0) ay)<|aa<|au<|.int 0) [Z (aT (h::r))]=Z (aq,[Z (aT (h::r))]):=eD (b7 (aZ<|er (bX rfl rfl) rfl rfl) rfl rfl rfl ne);have d:bf 2 G.ph (aj (aa<|bf 1 G.hz<|aj (ag 0) ay)<|aj (aa<|av a9 (ag 0)<|aa<|au<|.int 0) ay) [Z (aT (h::r))]=Z (aT a,[Z (aT (h::r))]):=c5 (VV:=[.cA (.aR<|bS (h::r)),.cA<|.im<|ai h]) (bX (aZ<|c5 (VV:=[.a6 0]) (i:=[aT (h::r)]) rfl rfl rfl L rfl)<|bX (aZ<|dA<|RC h r) rfl) rfl rfl b rfl;unfold pe FE;exact ff (k:=[Z (aT (h::r))]) rfl (cW (il (m_ (lO V8) Wd) rfl)<|dY<|b7 (aZ<|er (bX (aZ d) rfl) rfl rfl) (aZ<|er (bX rfl rfl) rfl rfl) rfl rfl<|K2 a (h::r)) rfl
def Mt{a b:List aw}(A:a.Pairwise sU)(C:b.Pairwise sU)(o:a.Perm b):a=b:=G_ (le:=sU) (λg d W W f t=>by unfold sU at f t;exact el ⋯ ⋯) A C o
structure hh(E aE:List aw):Prop where
 B:dF E
 lE:fK E
 pm:aE.Perm (cells E)
 pC:fK aE
def hh.len(O:hh E aE):aE.length=4*E.length:=by rw[O.pm.length_eq,qN]
def hh.blocks(O:hh E aE):mj [aT aE]=Z (aT E,[aT aE]):=by
 let⟨m,a,b⟩:=ux O.B O.pm O.pC;have a3:=O.len;have aF:=O.B.len;have dh:=La O.pm O.B.ah (λd e=>O.B.par d e m b);let⟨x,c,o,r⟩:=T7 a ⋯ (by rw[a3,dh.length_eq]);cases Mt (ET.mp r) (ET.mp O.lE) (o.trans dh);exact c
structure h4(E:List aw)(F:List a4):Prop where
 eJ:∀c∈F,eV E c
 ah:F.Nodup
 up:oK F
 len:F.length+1=E.length
 sp:yd E F
def KS(c:a4):nR [.im (aQ c)]=Z (d9 V,[.im (aQ c)]):=rfl
theorem CJ:∀{M:List ab},M.Pairwise (λg d=>a7 g d=V)->((M.zip<|M.drop 1).all λo=>a7 o.1 o.2)=V
 |[],_=>rfl
 |[_],_=>rfl
 |g::d::r,e=>by
  show (a7 g d&&(((d::r).zip<|(d::r).drop 1).all λo=>a7 o.1 o.2))=V;let⟨A,C⟩:=fZ.mp e;rw[A d (.head _),CJ C];rfl
def fQ(U:List a4):List (List ab×ab):=(U.map λc=>(ic c,.aF V))
theorem C9{l:Option ak}:∀(a done:List a4) (b:Option ak),(done++a).Nodup->done.length+a.length<=1000->∃Wo,ed (br 2) mD (a.map aQ) [l,Z<|.aR<|fQ done,b]=Z (.aI,[l,Z<|.aR<|fQ<|done++a,Wo])
 |[],done,b,_,_=>⟨b,by rw[cj];rfl⟩
 |c::a,done,b,ah,f=>by
  rw[dV]at f;have g:c∉done:=λi=>(dt.mp ah).2.2 c i c (.head _) rfl;let⟨Wo,h⟩:=C9 (l:=l) a (done++[c]) (Z<|.im<|aQ c) (by rw[bz];exact ah) (by rw[d7];show done.length+1+_<=_;lia);refine⟨Wo,?_⟩;have j:hU (.aR<|fQ done) (.im<|aQ c) (.im<|.aF V)=Z (.aR<|fQ<|done++[c]):=by
   have:g9 (fQ done) (ic c) (.aF V)=fQ (done++[c]):=by
    unfold g9;rw[aP λi=>by
     let⟨p,k,e⟩:=oH.mp i;let⟨d,m,rfl⟩:=dK.mp k;exact g (Fn (e9 e) ▸ m)]
    unfold fQ;rw[fM];rfl
   rw[<-this];exact aJ ⟨rfl,by unfold fQ;rw[bB];lia⟩
  have X:mD [l,Z<|.aR<|fQ done,Z<|.im<|aQ c]=Z (.aI,[l,Z<|.aR<|fQ<|done++[c],Z<|.im<|aQ c]):=by
   unfold mD;refine jv rfl ?_;show (hU (.aR<|fQ done) (.im<|aQ c)<|.im<|.aF V).map _=_;rw[j];rfl
  rw[cS,ed];show (mD [l,Z<|.aR<|fQ done,Z<|.im<|aQ c]).bind _=_;rw[X,show done++c::a=done++[c]++a by rw[bz];rfl];exact h
def JN(ah:U.Nodup)(b:U.length<=1000):hz [bh U]=Z (.aR<|fQ U,[bh U]):=by
 let⟨m,a⟩:=C9 (l:=Z .dS) U [] Y ah (by show 0+_<=_;lia);unfold hz tL;exact ff (k:=[Z (bh U),Z .dS,m]) rfl (cW (VK:=[Z (bh U),Z<|.aR<|fQ [],Y]) rfl<|cW (jC (m:=Z (0,bh U)) (VK:=[Z .dS,Z<|.aR<|fQ [],Y]) rfl a rfl)<|dY rfl) rfl
def Sp(U:List a4)(c:a4):j6 (.im<|aQ c) (.aR<|fQ U)=Z (d9<|decide (c∈U)):=by
 have L:(eZ (fQ U)<|ic c).isSome=decide (c∈U):=by
  unfold eZ fQ;induction U with
  |nil=>rfl
  |cons g r a=>
   rw[cS,jb];by_cases i:g=c
   ·subst i;simp
   ·rw[show decide (((ic g,ab.aF V):List ab×ab).1=ic c)=aq from eB λy=>i<|Fn y];dsimp only;rw[a,kd,bO];exact⟨.inr,λt=>t.resolve_left λy=>i y.symm⟩
 show ((if ab.keys 7 (ic c)=V then Z (eZ (fQ U)<|ic c).isSome else Y).map λr=>ak.im<|.aF r)=_;rw[aJ (show ab.keys 7 (ic c)=V from rfl),L];rfl
def mg{d:b5}(e:(g.1=d.1/\(g.2-d.2=1\/g.2-d.2 = -1))\/(g.2=d.2/\(g.1-d.1=1\/g.1-d.1 = -1))):q1 g d=V:=by
 unfold q1;refine dJ ?_;split<;>split<;>omega
def hh.Ar(O:hh E aE){m:aw}(p:m∈E):∀f∈aE,eX aE m f:=by
 have b:∀{d n:aw},d∈E->n∈dW d->n∈aE:=λa h=>O.pm.mem_iff.mpr (lZ.mpr ⟨_,a,h⟩);have l:∀d:aw,(d.1,d.2+1)∈dW d:=λd=>.tail _ (.head _);have q:∀d:aw,(d.1+1,d.2+1)∈dW d:=λd=>.tail _ (.tail _<|.head _);have o:∀d:aw,(d.1+1,d.2)∈dW d:=λd=>.tail _ (.tail _<|.tail _<|.head _);have k:∀d:aw,d∈dW d:=λd=>.head _;have X:∀d∈E,eX aE m d->∀n∈dW d,eX aE m n:=λd a e n h=>by
  have A:eX aE m (d.1,d.2+1):=.step e (b a<|l d) (mg (by dsimp only;lia));have r:eX aE m (d.1+1,d.2):=.step e (b a<|o d) (mg (by dsimp only;lia));have C:eX aE m (d.1+1,d.2+1):=.step A (b a<|q d) (mg (by dsimp only;lia));simp only[dW,bO,gz,eT]at h;rcases h with i|i|i|i
  ·rw[i];exact e
  ·rw[i];exact A
  ·rw[i];exact C
  ·rw[i];exact r
 have S:∀d∈E,eX aE m d:=by
  classical
  have:=O.B.con (λd=>if eX aE m d then (0,0) else (1,1)) (λg j d a i=>by
   have s:eX aE m g->eX aE m d:=λe=>by
    rcases i with i|i
    ·rw[i];exact .step (X g j e _<|l g) (by rw[<-i];exact b a (k d)) (mg (by dsimp only;lia))
    ·rw[i];exact .step (X g j e _<|o g) (by rw[<-i];exact b a (k d)) (mg (by dsimp only;lia))
   have u:eX aE m d->eX aE m g:=λe=>by
    rcases i with i|i
    ·have A:eX aE m (g.1,g.2+1):=.step e (b j<|l g) (mg (by rw[i];dsimp only;lia));exact .step A (b j<|k g) (mg (by dsimp only;lia))
    ·have A:eX aE m (g.1+1,g.2):=.step e (b j<|o g) (mg (by rw[i];dsimp only;lia));exact .step A (b j<|k g) (mg (by dsimp only;lia))
   by_cases t:eX aE m g
   ·show (if eX aE m g then _ else _)=if eX aE m d then _ else _
    rw[aJ t,aJ<|s t]
   ·show (if eX aE m g then _ else _)=if eX aE m d then _ else _
    rw[aP t,aP λy=>t<|u y])
  intro d a;have c:=this m p d a;by_cases t:eX aE m d
  ·exact t
  ·exfalso;have c:(if eX aE m m then ((0:Int),(0:Int)) else (1,1))=if eX aE m d then (0,0) else (1,1):=c
   rw[aJ .self,aP t]at c;exact absurd (congrArg Prod.fst c) ∅
 intro f v;let⟨d,a,h⟩:=lZ.mp (O.pm.mem_iff.mp v);exact X d a (S d a) f h
def Qs{aE:List b5}(VN:h∈aE)(e:eX aE h f):f∈aE:=by
 cases e with
 |self=>exact VN
 |step _ a _=>exact a
def hh.field(O:hh E aE)(N:ae):pe N [aT aE]=Z (d9 V,[aT aE]):=by
 let⟨m,b,i⟩:=ux O.B O.pm O.pC;have Ar:=O.Ar i;have a3:=O.len;have aF:=O.B.len;have VD:q5 aE:=⟨oF.mp O.pC,λn j=>by
  let⟨d,k,l⟩:=lZ.mp (O.pm.mem_iff.mp j);have:=O.B.lM d k;have:=sH.mp l;omega,by omega⟩
 cases aE with
 |nil=>cases b
 |cons h r=>
  cases b;let⟨o,p,q,g⟩:=M8 (cs:=m::r) (h:=m) (by omega);have e:=RF (N:=N) VD p;have c:o.length=(m::r).length:=Nat.le_antisymm (uI (yy q) λf a=>Qs (.head _)<|(g f).mp a) (uI (yy VD.up) λf a=>(g f).mpr<|Ar f a);rw[dJ c]at e;exact e
theorem zY:∀F:List a4,ab.cO 7 (F.map aQ)=V
 |[]=>rfl
 |c::r=>by rw[cS,ab.cO,zY r];rfl
def QX(F:List a4)(f:aw):List aw:=((F.filter λc=>decide (c.1=f)).map (·.2)++(F.filter λc=>decide (c.2=f)).map (·.1))
structure jr(E:List aw)(F:List a4)(met:List aw)(q:Nat):Prop where
 ah:met.Nodup
 sub:∀f∈met,f∈E
 fst:∀m,E[0]?=Z m->m∈met
 bR:∀b f,b<q->met[b]?=Z f->∀t,t∈QX F f->t∈met
end G
namespace L2
open Spec PyProof.Rows
section
variable{a:aK}{G:List (ae×bc)}{x:a8}{j:aA}{h:ao}
variable{aG e:ae}{Wg:List eg}{t:aD}{W_ q:Pos}{T:bC}{b:List bC}
def Sj{W9:af->ao->Prop}{c:ae}{WR:af}{dq:List zI}{k:kM}{I:eQ}(l:aH a G x j h)(f:kW a G j h.heap c aG WR)(z:a.stack=a.env::Wg)(B:a.ex=[])(C:eG a t)(D:a.aB t=Z (.ref e))(E:Φa a.K (.ref aG) (.ref e)=Z V)(VN:∀WC:bc,WC.cls=.ref aG->gD (a.o5 G c WC) (T::b) I)(F:I k x j)(hd:(t==("__debug__" : aD))=aq:=by decide):
  wpAny (aW a.prog a.w) a.A (handleBy (.ref c) a.env (.ExceptHandler (Z<|.Name t W_) Y (T::b) q::dq)) (jN a G k) W9 h:=by
 refine wpAny_handleBy_cons (codeAny_handlers_test ?_) (by intro p;cases p);obtain⟨WC,s,H⟩:∃WC,h.heap.get? c=Z WC/\WC.cls=.ref aG:=by
  let⟨U,U,WC,U,U,U,U,g,n,U⟩:=f;exact⟨WC,g,n.1⟩
 have VU:=l.o5 f s;refine wI VU C D ?_ hd;have LT:PySem.W.Looks (aW a.prog a.w) h.heap (qb<|.ref c) (.ref aG):=H ▸ ((Rn s).andThen .now);refine PySem.W.exm_one (M:=aW a.prog a.w) l.kp LT E _ _ _ h (λd m p=>p) ?_;refine codeAny_handlers_suite (Tx l f z B λVB Wk v=>?_);obtain⟨L,M,O⟩:∃WC,VB.get? c=Z WC/\WC.cls=.ref aG:=by
  let⟨U,U,WC,U,U,U,U,g,n,U⟩:=v;exact⟨WC,g,n.1⟩
 refine gT (VN L O [] _ _ j _ (Wk.o5 v M) F) (λN S p=>?_) λ_ U i=>False.elim i;cases N with
 |next=>let⟨o,Q,R,p⟩:=p;exact⟨_,Q,R.wg l.ok,p⟩
 |brk=>let⟨o,Q,R,p⟩:=p;exact⟨_,Q,R.wg l.ok,p⟩
 |cont=>let⟨o,Q,R,p⟩:=p;exact⟨_,Q,R.wg l.ok,p⟩
 |ret J=>let⟨u,o,Q,R,r,p⟩:=p;exact⟨u,_,Q,R.wg l.ok,r,p⟩
def Bx(r:iO)(L:bo):bo:=(λk=>(r k).bind L)
def NJ{V4:List Nat}{WU:List bC}{VT:Pos}{WI:ae}{Wx L:bo}{r:iO}(s:a.stack=a.env::Wg)(v:a.env.frame=Z WI)(u:a.ex=[])(w:eG a t)(A:a.aB t=Z (.ref e))(B:Φa a.K (.ref aG) (.ref e)=Z V)(C:∀VD o,hR (a.hold VD o) V4 WU Wx)(D:∀VD o z,(∀x j,z x j->wW (a.hold VD o) aG x j)->hI (a.hold VD o) V4 z WU (kB r))(VN:∀o c WC,WC.cls=.ref aG->hR (a.o5 o c WC) V4 (T::b) L)(hd:(t==("__debug__" : aD))=aq:=by decide):
  gH a V4 (.Try WU [.ExceptHandler (Z<|.Name t W_) Y (T::b) q] [] [] VT) (sa Wx<|Bx r L):=by
 intro G h x j k l ⟨g,O,a3,VK,X,ah,d,p⟩;unfold sa at d;cases m:Wx g with
 |some r=>
  rw[m]at d;exact (Ry (VT:=VT) C) h x j k l ⟨g,O,a3,VK,X,ah,by rw[m];exact d,p⟩
 |none=>
  rw[m]at d;let⟨VW,E,F⟩:=bM.mp d;refine GN (gT ((D _ G (λf Q=>∃Wc,c_ V4 x f/\bD Q VW f Wc/\bk j O Q Wc)<|λf Q H an VE c WR Wk M=>?_) [] h x j k (l.hold _) ⟨g,O,VW,X,ah,E,λf Q Wc Ww n sp=>⟨Wc,Ww,n,sp⟩⟩) (λN P y=>?_) λc P i=>i)
  ·let⟨Wc,Ww,n,sp⟩:=H;have R:=Wk.la;have S:=M.la;refine L7 R S R.ok.frames s v u λVB U al=>?_;exact Sj U al s u w A B (I:=oX V4 L) (λWC am=>VN G c WC am) ⟨_,Wc,a3,VK,n,sp.ah,F,p.on Ww sp⟩ hd
  ·have y:=jN.la y;cases N with
   |next=>exact q6 y
   |brk=>exact y
   |cont=>exact y
   |ret J=>exact y
end
end L2
namespace G
open L2
variable{o:aw->aw}{E:List aw}{F:List a4}
def Al(a b:ae):aC ak:=((av j6 (ag 0)<|ag 1))
def wd(a b:ae):bo:=((bL (ee (jY (gi<|gy<|aa<|bf 1 (G.pe b)<|aj (ag 0) ay)<|gi<|gy<|aa<|bf 2 (G.pz a)<|aj (ag 1)<|aj (aa<|au<|.fn a) ay) (cG<|au<|.aF aq) fa)<|bL (sa (cn 2<|bf 1 G.mj<|aj (ag 0) ay)<|Bx (zm 1 (pI 1 2 G.uS)<|aj (ag 0) ay)<|cG<|au<|.aF aq)<|bL (cn 3<|bf 1 G.hz<|aj (aa<|bf 1 G.pL<|aj (ag 2) ay) ay)<|cG<|ho<|e1 (bJ<|bV kx<|aj (aa<|dg 1 [3] (dn<|ag 1) (br 0) d8<|G.Al a b) ay)<|bJ<|av eN (aa<|bf 2 G.pU<|aj (ag 2)<|aj (ag 1) ay)<|ag 1))
def qr(a b:ae):cU:=(c6 2 4 [0,1] (wd a b))
def xD(M:List ab):Bool:=((M.zip<|M.drop 1).all λo=>a7 o.1 o.2)
def RG{N:ae}(n:F.length<=1000):pz N [.im (.tup<|F.map aQ),.im<|.fn N]=Z (d9<|xD<|F.map aQ,[.im (.tup<|F.map aQ),.im<|.fn N]):=by
 obtain⟨k,a⟩:∃k:a5,k=[Z (.im<|.tup<|F.map aQ),Z<|.im<|.fn N]:=⟨_,rfl⟩;have h:dg 1 [1] (dn<|ag 0) (br 0) d8 (xw N) k=Z (.lst<|F.map λ_=>.aF V,k):=by
  rw[a];refine kQ (z:=F.map aQ) (m:=Y) (VK:=[Z (.im<|.tup<|F.map aQ),Z<|.im<|.fn N]) rfl (jn aQ (λ_=>.aF V) _ (λf p=>?_) (by omega)) rfl;refine⟨[Z (.im<|aQ f),Z<|.im<|.fn N],_,[Z (.im<|aQ f),Z<|.im<|.fn N],rfl,rfl,?_,rfl⟩;unfold xw;show (if N=N then _ else _)=_;rw[aJ rfl];exact c5 (VV:=[.a6 0]) rfl rfl rfl (KS f) rfl
 have i:dg 2 [] (oy<|aj (ag 0)<|aj (aa<|iE (ag 0) (jL<|au<|.int 1) jl) ay) (e_ 2<|c3 (br 0)<|c3 (br 1) fj) d8 (Ii N) k=Z (.lst<|((F.map aQ).zip<|(F.map aQ).drop 1).map λo=>.aF<|a7 o.1 o.2,k):=by
  rw[a];refine kQ (z:=((F.map aQ).zip<|(F.map aQ).drop 1).map λo=>.tup [o.1,o.2]) (m:=Y) (VK:=[Z (.im<|.tup<|F.map aQ),Z<|.im<|.fn N]) ?_ (jn (λo:ab×ab=>.tup [o.1,o.2]) (λo=>.aF<|a7 o.1 o.2) _ (λo b=>?_) ?_) rfl
  ·rw[<-Aa];exact C_ (bX rfl (bX (aZ (u5 (a:=.im (.tup<|(F.map aQ).drop 1)) rfl rfl rfl rfl (by show Z (ak.im<|.tup<|gh (F.map aQ) (Z ((1:Nat):Int)) Y)=_;rw[sv]))) rfl)) rfl
  ·let⟨g,W,c⟩:=dK.mp (n5 b).1;let⟨d,W,e⟩:=dK.mp (mV (n5 b).2);let⟨f,t⟩:=o;dsimp only at c e ⊢;subst c e;exact⟨[Z (.im<|aQ g),Z<|.im<|aQ d],_,[Z (.im<|aQ g),Z<|.im<|aQ d],rfl,rfl,b7 rfl rfl rfl rfl rfl,rfl⟩
  ·rw[wL,gQ,bB];omega
 have j:kx [.lst (F.map λ_=>.aF V)]=Z (d9 V):=by
  rw[rn (λ_:a4=>V) F,show (F.all λ_=>V)=V from jm.mpr λ_ W=>rfl]
 have l:=rn (λo:ab×ab=>a7 o.1 o.2) ((F.map aQ).zip<|(F.map aQ).drop 1);unfold pz Fi;refine ff (k:=k) rfl ?_ (by rw[a];rfl);show bL _ _ [Z (.im<|.tup<|F.map aQ),Z<|.im<|.fn N]=_;rw[<-a];exact cW (il (m_ (lO (by rw[a];exact i7 rfl rfl rfl))<|lO<|i7 (aZ<|er (bX (aZ h) rfl) rfl j) rfl rfl) rfl) (dY<|er (bX (aZ i) rfl) rfl l)
theorem Ib:∀(U:List a4) (h:(aw->aw)×List a4),(∀c∈h.2,h.1 c.1=h.1 c.2)->h.2.Nodup->(fb U h).2.Nodup
 |[],_,_,e=>e
 |c::U,h,A,C=>by
  show (fb U<|bK h c).2.Nodup;refine Ib U _ ?_ ?_
  ·unfold bK;split
   ·exact A
   ·rename_i i;intro f a;show gr h.1 c f.1=gr h.1 c f.2;rcases dy.mp a with p|p
    ·unfold gr;rw[A f p]
    ·rw[cH.mp p];unfold gr;rw[aP i,aJ rfl]
  ·unfold bK;split
   ·exact C
   ·rename_i i;exact dt.mpr ⟨C,fN _ _,λf a t b p=>i (by rw[<-cH.mp b,<-p];exact A f a)⟩
def If(V3:dF E)(f:∀c∈F,eV E c):(fb (F++dP E) (λd=>d,[])).2.Nodup/\(fb (F++dP E) (λd=>d,[])).2.length+1=E.length/\yd E (fb (F++dP E) (λd=>d,[])).2:=by
 have j:∀c∈F++dP E,c.1∈E/\c.2∈E:=λc e=>by
  rcases dy.mp e with e|e
  ·exact⟨(f c e).1,(f c e).2.1⟩
  ·exact⟨(kh.mp e).1,(kh.mp e).2.1⟩
 let⟨Wk,W,n,W⟩:=AN V3.ah (F++dP E) (λd=>d,[]) (lu.start E) j;have all:∀g∈E,∀d∈E,(fb (F++dP E) (λd=>d,[])).1 g=(fb (F++dP E) (λd=>d,[])).1 d:=V3.con _ λg a d b i=>n (g,d) (ez _<|kh.mpr ⟨a,b,i⟩);refine⟨Ib _ _ (λ_ i=>nomatch i) mA,C4 Wk V3.ah V3.ne all,λp h g a d b=>?_⟩;rw[<-Wk.gen p h g a,<-Wk.gen p h d b,all g a d b]
def LN{Wx WJ:bo}{k:a5}{r:n0×a5}(e:Wx k=Z r):sa Wx WJ k=Z r:=by unfold sa;rw[e]
theorem Gh:∀VU F:List a4,fg (VU.map aQ) (F.map aQ)=decide (VU=F)
 |[],[]=>rfl
 |[],_::_=>rfl
 |_::_,[]=>rfl
 |g::VU,d::F=>by
  rw[cS,cS,fg,Gh VU F,AS,<-Jf];exact kd.mpr (by rw[A7])
def J6(VU F:List a4):eN (.im<|.tup<|VU.map aQ) (.im<|.tup<|F.map aQ)=Z (d9<|decide (VU=F)):=by
 show (if (ab.cO 7 (VU.map aQ)&&ab.cO 7 (F.map aQ))=V then Z (ak.im<|.aF<|fg (VU.map aQ)<|F.map aQ) else Y)=_;rw[zY,zY,aJ<|show (V&&V)=V from rfl,Gh]
def KX{aE:List aw}{a h:ae}(O:hh E aE)(u:F.length<=100):∃d,qr a h [aT aE,.im<|.tup<|F.map aQ]=Z (d9 d,[aT aE,.im<|.tup<|F.map aQ])/\(d=V↔h4 E F):=by
 have aF:=O.B.len;have H:(dP E).length<=2*E.length:=sP E E;have r:=O.field h;have jk:=RG (N:=a) (F:=F) ⋯;unfold qr wd;cases n:xD (F.map aQ) with
 |false=>
  rw[n]at jk;refine⟨aq,ff (k:=[Z (aT aE),Z<|.im<|.tup<|F.map aQ,Y,Y]) rfl (q0<|pw (m_ (lO<|i7 (aZ<|c5 (VV:=[.a6 0]) rfl rfl rfl r rfl) rfl rfl)<|Ly<|i7 (aZ<|c5 (VV:=[.a6 1,.cA<|.im<|.fn a]) rfl rfl rfl jk rfl) rfl rfl)<|dY rfl) rfl,λi=>(by cases i),λI=>?_⟩;rw[show xD (F.map aQ)=V from CJ I.up]at n;cases n
 |true=>
  rw[n]at jk;have v:jY (gi<|gy<|aa<|bf 1 (G.pe h)<|aj (ag 0) ay) (gi<|gy<|aa<|bf 2 (G.pz a)<|aj (ag 1)<|aj (aa<|au<|.fn a) ay) [Z (aT aE),Z<|.im<|.tup<|F.map aQ,Y,Y]=Z (aq,[Z (aT aE),Z<|.im<|.tup<|F.map aQ,Y,Y]):=
   m_ (lO<|i7 (aZ<|c5 (VV:=[.a6 0]) rfl rfl rfl r rfl) rfl rfl) (lO<|i7 (aZ<|c5 (VV:=[.a6 1,.cA<|.im<|.fn a]) rfl rfl rfl jk rfl) rfl rfl);obtain⟨k,o⟩:∃k:a5,k=[Z (aT aE),Z<|.im<|.tup<|F.map aQ,Z<|aT E,Z<|.aR<|fQ<|dP E]:=⟨_,rfl⟩;have s:dg 1 [3] (dn<|ag 1) (br 0) d8 (Al a h) k=Z (.lst<|F.map λc=>.aF<|decide (c∈dP E),k):=by
   rw[o];refine kQ (z:=F.map aQ) (m:=Y) (VK:=[Z (aT aE),Z<|.im<|.tup<|F.map aQ,Z<|aT E,Z<|.aR<|fQ<|dP E]) rfl (jn aQ (λc=>.aF<|decide (c∈dP E)) _ (λf J=>?_) ⋯) rfl;exact⟨[Z (.im<|aQ f),Z<|.aR<|fQ<|dP E],_,[Z (.im<|aQ f),Z<|.aR<|fQ<|dP E],rfl,rfl,dA<|Sp (dP E) f,rfl⟩
  have q:=rn (λc:a4=>decide (c∈dP E)) F;have fin:∀d,e1 (bJ<|bV kx<|aj (aa<|dg 1 [3] (dn<|ag 1) (br 0) d8<|G.Al a h) ay) (bJ<|av eN (aa<|bf 2 G.pU<|aj (ag 2)<|aj (ag 1) ay)<|ag 1) k=Z (d,k)->c6 2 4 [0,1] (wd a h) [aT aE,.im<|.tup<|F.map aQ]=Z (d9 d,[aT aE,.im<|.tup<|F.map aQ]):=λd w=>by
   unfold wd;refine ff (k:=k) rfl (cW (il v rfl) (cW (VK:=[Z (aT aE),Z<|.im<|.tup<|F.map aQ,Z<|aT E,Y]) (LN<|lz (c5 (VV:=[.a6 0]) rfl rfl rfl O.blocks rfl) (gY rfl) rfl) (cW (VK:=k) (by
    rw[o];exact lz (c5 (VV:=[.cA (bh<|dP E)]) (bX (aZ<|c5 (VV:=[.a6 2]) rfl rfl rfl (Dq O.B) rfl) rfl) rfl rfl (JN (xm O.B.ah) ⋯) rfl) (gY rfl) rfl)<|dY<|uB w))) (by rw[o];rfl)
  cases j:F.all λc=>decide (c∈dP E) with
  |false=>
   rw[j]at q;refine⟨aq,fin aq<|qJ<|eD<|er (bX (aZ s) rfl) rfl q,λi=>(by cases i),λI=>?_⟩;rw[jm.mpr λc l=>dJ<|kh.mpr<|I.eJ c l]at j;cases j
  |true=>
   rw[j]at q;have eJ:∀c∈F,eV E c:=λc l=>kh.mp (e9<|jm.mp j c l);let⟨t,x,y⟩:=If O.B eJ;let⟨VU,Wa,b,A⟩:=Ho t ⋯;have C:=Tp O.B eJ u b;refine⟨decide (VU=F),fin _ (l3 (eD<|er (bX (aZ s) rfl) rfl q) (eD (by
    rw[o];exact b7 (aZ<|c5 (VV:=[.a6 2,.a6 1]) rfl rfl rfl C rfl) rfl rfl rfl (J6 VU F)))),λi=>?_,λI=>dJ ?_⟩
   ·have c:=e9 i;subst c;exact⟨eJ,Wa.nodup_iff.mpr t,A,by rw[Wa.length_eq];exact x,λp D=>y p λc l=>D c<|Wa.mem_iff.mpr l⟩
   ·rw[Of O.B I.eJ I.len I.sp,Ru I.ah ⋯ I.up]at b;injection b with b;injection b with b;exact ((List.map_inj_right λg d e=>G0 e).mp b).symm
abbrev fh(F:List a4):ak:=.im (.tup<|F.map aQ)
def aV(s:ab):Bool:=(match nR [.im s] with
 |some (.im<|.aF u,_)=>u
 |_=>aq)
def Tq(ah:E.Nodup){aM:List a4}{o:aw->aw}(q:hY E aM o):∃T:List aw,T.Nodup/\(∀f,f∈T↔∃d∈E,o d=f)/\T.length+aM.length=E.length:=by
 induction q with
 |nil=>exact⟨E,ah,λf=>⟨λe=>⟨f,e,rfl⟩,λ⟨d,a,c⟩=>by rw[<-c];exact a⟩,rfl⟩
 |@add aM o c q b k l=>
  let⟨T,g,h,m⟩:=l;have j:o c.1∈T:=(h _).mpr ⟨c.1,b.1,rfl⟩;refine⟨T.erase<|o c.1,g.erase _,λf=>?_,?_⟩
  ·rw[g.mem_erase_iff,h];constructor
   ·rintro⟨A,d,a,rfl⟩;exact⟨d,a,aP A⟩
   ·rintro⟨d,a,e⟩;have e:(if o d=o c.1 then o c.2 else o d)=f:=e;by_cases n:o d=o c.1
    ·rw[aJ n]at e;rw[<-e];exact⟨λi=>k i.symm,c.2,b.2.1,rfl⟩
    ·rw[aP n]at e;rw[<-e];exact⟨n,d,a,rfl⟩
  ·rw[Ia j,d7,ko];have:=yk j;lia
def Ct(V3:dF E){aM:List a4}{o:aw->aw}(q:hY E aM o)(j:∀c,eV E c->o c.1=o c.2):aM.length+1=E.length:=by
 let⟨T,k,h,p⟩:=Tq V3.ah q;have n:=V3.con o λg a d b e=>j (g,d) ⟨a,b,e⟩;obtain⟨d,r,b⟩:∃d r,E=d::r:=by
  cases l:E with
  |nil=>exact absurd l V3.ne
  |cons d r=>exact⟨d,r,rfl⟩
 have i:d∈E:=by rw[b];exact .head _
 have:T.length=1:=by
  have A:o d∈T:=(h _).mpr ⟨d,i,rfl⟩;have C:T.length<=[o d].length:=k.length_le_of_subset λf m=>by
   let⟨g,a,rfl⟩:=(h f).mp m;rw[n g a d i];exact .head _
  have:=yk A;simp at C;lia
 lia
def J7{aM:List a4}(q:hY E aM o):(∀c∈aM,o c.1=o c.2)/\aM.Nodup:=by
 induction q with
 |nil=>exact⟨λ_ e=>(by cases e),mA⟩
 |@add aM o c q h d a=>
  refine⟨λf b=>?_,dt.mpr ⟨a.2,fN _ _,λf b t g i=>d (by rw[cH.mp g]at i;rw[<-i];exact a.1 f b)⟩⟩;show (if o f.1=o c.1 then o c.2 else o f.1)=if o f.2=o c.1 then o c.2 else o f.2
  rcases dy.mp b with e|e
  ·rw[a.1 f e]
  ·rw[cH.mp e,aJ rfl,aP λi=>d i.symm]
def Sm{aM:List a4}(q:hY E aM o):∀p:aw->aw,(∀c∈aM,p c.1=p c.2)->∀d,p (o d)=p d:=by
 induction q with
 |nil=>exact λ_ W W=>rfl
 |@add aM o c q h j e=>
  intro p b d;have a:=e p λf g=>b f (eL _ g);show p (if o d=o c.1 then o c.2 else o d)=p d;split
  ·rename_i i;rw[a,<-b c (ez _<|.head _),<-a c.1,<-i,a]
  ·exact a d
def Mu{F aM:List a4}(V3:dF E)(Wa:F.Perm aM)(q:hY E aM o)(j:oK F)(h:∀c,eV E c->o c.1=o c.2):h4 E F:=by
 refine⟨λc a=>q.zf c<|Wa.mem_iff.mp a,Wa.nodup_iff.mpr (J7 q).2,j,by rw[Wa.length_eq];exact Ct V3 q h,λp k g b d f=>?_⟩;have e:=Sm q p λc a=>k c (Wa.mem_iff.mpr a);have n:o g=o d:=V3.con o (λg b d f i=>h (g,d) ⟨b,f,i⟩) g b d f;rw[<-e g,<-e d,n]
end G
namespace L2
open Spec PyProof.Rows
end L2
namespace G
open L2
variable{o m d g:aw}{VU F:List a4}{y:Bool}{E:List aw}
theorem Hz{E:List aw}:∀(VI:List a4),(∀c∈VI,eV E c)->∃aM o,hY E aM o/\aM.Sublist VI.reverse/\∀c∈VI,o c.1=o c.2
 |[],_=>⟨[],_,.nil,.slnil,λ_ e=>nomatch e⟩
 |c::VI,e=>by
  let⟨aM,o,q,h,b⟩:=Hz VI λf a=>e f (.tail _ a);rw[rr];by_cases n:o c.1=o c.2
  ·exact⟨aM,o,q,h.trans<|List.sublist_append_left _ _,λf a=>by
    rcases bO.mp a with rfl|a
    ·exact n
    ·exact b f a⟩
  ·refine⟨_,_,.add q (e c<|.head _) n,h.append<|.refl _,λf a=>?_⟩;show (if o f.1=o c.1 then o c.2 else o f.1)=if o f.2=o c.1 then o c.2 else o f.2
   rcases bO.mp a with rfl|a
   ·rw[aJ rfl,aP λi=>n i.symm]
   ·rw[b f a]
def h4.hy(V3:dF E)(I:h4 E F):∃o,hY E F o/\∀c,eV E c->o c.1=o c.2:=by
 let⟨aM,o,q,h,b⟩:=Hz (E:=E) F.reverse λc a=>I.eJ c (Jn.mp a);rw[List.reverse_reverse]at h;have g:∀c,eV E c->o c.1=o c.2:=λc a=>I.sp o (λf d=>b f<|Jn.mpr d) _ a.1 _ a.2.1;have M:=Ct V3 q g;have:=I.len;rw[h.eq_of_length ⋯]at q;exact⟨o,q,g⟩
def Q9(V3:dF E){h I:aw×Nat}(VN:h∈c1 E)(f:I∈c1 E)(e:es h=es I):h=I:=by
 let⟨g,q⟩:=h;let⟨d,v⟩:=I;have a:=e2.mp VN;have b:=e2.mp f;have e:bR g q=bR d v:=e;have c:g=d:=V3.one a.1 b.1 (wK g a.2) (by rw[e];exact wK d b.2);subst c;have i:q=v:=Lr a.2 b.2 e;rw[i]
def a_(y:Bool)(d:aw):aw:=(if y=V then (d.1,29-d.2) else (d.2,29-d.1))
def df(y:Bool)(n:aw):aw:=(if y=V then (n.1,30-n.2) else (n.2,30-n.1))
def aM(y:Bool)(h:aw×Nat):aw×Nat:=((a_ y h.1,if y=V then (5-h.2)%4 else (h.2+1)%4))
def iJ(g d:aw):a4:=(if g.1<d.1\/(g.1=d.1/\g.2<d.2) then (g,d) else (d,g))
def ck(y:Bool)(c:a4):a4:=(iJ (a_ y c.1) (a_ y c.2))
def jE(e:a_ y g=a_ y d):g=d:=by
 let⟨a,b⟩:=g;let⟨aU,aV⟩:=d;cases y<;>simp only[a_,fl,fy,gk,ib]at e ⊢<;>lia
def lX(y:Bool){h:aw×Nat}(VN:h.2<4):es (aM y h)=df y (es h):=by
 let⟨⟨aU,aV⟩,q⟩:=h;have VN:q<4:=VN
 match q,VN with
 |0,_=>cases y<;>simp[es,aM,df,a_,bR]<;>lia
 |1,_=>cases y<;>simp[es,aM,df,a_,bR]<;>lia
 |2,_=>cases y<;>simp[es,aM,df,a_,bR]<;>lia
 |3,_=>cases y<;>simp[es,aM,df,a_,bR]<;>lia
def N6(y:Bool)(h:aw×Nat):(aM y h).2<4:=by
 cases y<;>exact vB _ ∅
def LS{h I:aw×Nat}(VN:h.2<4)(a:I.2<4)(e:aM y h=aM y I):h=I:=by
 let⟨g,q⟩:=h;let⟨d,v⟩:=I;have A:a_ y g=a_ y d:=congrArg Prod.fst e;have C:(if y=V then (5-q)%4 else (q+1)%4)=if y=V then (5-v)%4 else (v+1)%4:=congrArg Prod.snd e
 rw[jE A];have VN:q<4:=VN;have a:v<4:=a;have:q=v:=by cases y<;>simp at C<;>lia
 rw[this]
def mB(y:Bool)(F VU:List a4):Prop:=(∀g d,ew VU (a_ y g) (a_ y d)=ew F g d)
def tD(Wk:mB aq F VU){h:aw×Nat}(VN:h.2<4):aI VU (aM aq h)=aM aq (aI F h):=by
 let⟨d,q⟩:=h;have VN:q<4:=VN;have m:c4 (a_ aq d) ((q+1)%4)=a_ aq (c4 d q):=by
  match q,VN with
  |0,_=>simp[c4,a_];lia
  |1,_=>simp[c4,a_]
  |2,_=>simp[c4,a_];lia
  |3,_=>simp[c4,a_]
 have v:=Wk d (c4 d q);show (if ew VU (a_ aq d) (c4 (a_ aq d)<|(q+1)%4)=V then (c4 (a_ aq d)<|(q+1)%4,((q+1)%4+3)%4) else (a_ aq d,((q+1)%4+1)%4))=aM aq (if ew F d (c4 d q)=V then (c4 d q,(q+3)%4) else (d,(q+1)%4));rw[m,v];split
 ·show (a_ aq<|c4 d q,((q+1)%4+3)%4)=(a_ aq<|c4 d q,((q+3)%4+1)%4);exact el rfl (by show ((q+1)%4+3)%4=((q+3)%4+1)%4;lia)
 ·rfl
def OB(Wk:mB V F VU){h:aw×Nat}(VN:h.2<4):aI VU (aM V h)=aM V (jH F h):=by
 let⟨d,q⟩:=h;have VN:q<4:=VN;have m:c4 (a_ V d) ((5-q)%4)=a_ V (c4 d<|(q+3)%4):=by
  match q,VN with
  |0,_=>simp[c4,a_];lia
  |1,_=>simp[c4,a_]
  |2,_=>simp[c4,a_];lia
  |3,_=>simp[c4,a_]
 have v:=Wk d (c4 d<|(q+3)%4);show (if ew VU (a_ V d) (c4 (a_ V d)<|(5-q)%4)=V then (c4 (a_ V d)<|(5-q)%4,((5-q)%4+3)%4) else (a_ V d,((5-q)%4+1)%4))=aM V (if ew F d (c4 d<|(q+3)%4)=V then (c4 d<|(q+3)%4,(q+1)%4) else (d,(q+3)%4));rw[m,v];split
 ·show (a_ V _,((5-q)%4+3)%4)=(a_ V _,(5-(q+1)%4)%4);exact el rfl (by show ((5-q)%4+3)%4=(5-(q+1)%4)%4;lia)
 ·show (a_ V _,((5-q)%4+1)%4)=(a_ V _,(5-(q+3)%4)%4);exact el rfl (by show ((5-q)%4+1)%4=(5-(q+3)%4)%4;lia)
def vM(Wk:mB V F VU){h:aw×Nat}(VN:h.2<4):aI VU (aM V<|aI F h)=aM V h:=by
 rw[OB Wk (pE F h)];exact congrArg (aM V) (yx F h.1 VN)
def pJ{f t:aw}:((f,t)=iJ g d\/(t,f)=iJ g d)↔((f=g/\t=d)\/(f=d/\t=g)):=by
 unfold iJ;split<;>simp only[ib]
 ·constructor
  ·rintro (e|e)
   ·exact .inl e
   ·exact .inr ⟨e.2,e.1⟩
  ·rintro (e|e)
   ·exact .inl e
   ·exact .inr ⟨e.2,e.1⟩
 ·constructor
  ·rintro (e|e)
   ·exact .inr e
   ·exact .inl ⟨e.2,e.1⟩
  ·rintro (e|e)
   ·exact .inr ⟨e.2,e.1⟩
   ·exact .inl e
def N7(e:∀c,c∈VU↔∃s∈F,ck y s=c):mB y F VU:=λg d=>by
 unfold ew;refine kd.mpr ?_;rw[e,e];constructor
 ·rintro (⟨s,hd,c⟩|⟨s,hd,c⟩)
  ·let⟨Wb,Wl⟩:=s;rcases pJ.mp (Or.inl c.symm) with ⟨a,b⟩|⟨a,b⟩<;>rw[jE a,jE b]
   ·exact .inl hd
   ·exact .inr hd
  ·let⟨Wb,Wl⟩:=s;rcases pJ.mp (Or.inl c.symm) with ⟨a,b⟩|⟨a,b⟩<;>rw[jE a,jE b]
   ·exact .inr hd
   ·exact .inl hd
 ·rintro (hd|hd)
  ·rcases pJ.mpr (.inl ⟨rfl,rfl⟩) with i|i
   ·exact .inl ⟨_,hd,i.symm⟩
   ·exact .inr ⟨_,hd,i.symm⟩
  ·rcases pJ.mpr (.inl ⟨rfl,rfl⟩) with i|i
   ·exact .inr ⟨_,hd,i.symm⟩
   ·exact .inl ⟨_,hd,i.symm⟩
def Cg(g:i9 F){s c:a4}(hd:s∈F)(h:c∈F)(e:ck y s=ck y c):s=c:=by
 have i:=g s hd;have j:=g c h;let⟨Wb,Wl⟩:=s;let⟨d,f⟩:=c;have A:iJ (a_ y Wb) (a_ y Wl)=iJ (a_ y d) (a_ y f):=e;have H:(a_ y Wb,a_ y Wl)=iJ (a_ y d) (a_ y f)\/(a_ y Wl,a_ y Wb)=iJ (a_ y d) (a_ y f):=by rw[<-A];exact pJ.mpr (.inl ⟨rfl,rfl⟩)
 rcases pJ.mp H with ⟨a,b⟩|⟨a,b⟩
 ·rw[jE a,jE b]
 ·have a:=jE a;have b:=jE b;subst a b;simp only at i j;lia
def F3{E cs:List aw}(e:∀d∈E,a_ y d∈cs){c:a4}(f:eV E c):eV cs (ck y c):=by
 let⟨⟨h,j⟩,⟨aU,aV⟩⟩:=c;let⟨a,b,g⟩:=f;have a:=e _ a;have b:=e _ b;simp only[ib]at g;unfold ck iJ;dsimp only;split
 ·rename_i i;refine⟨a,b,?_⟩;cases y<;>simp only[a_,fl,fy,gk,ib]at i ⊢<;>lia
 ·rename_i i;refine⟨b,a,?_⟩;cases y<;>simp only[a_,fl,fy,gk,ib]at i ⊢<;>lia
def h4.turn{E cs:List aw}(I:h4 E F)(dh:cs.Perm (E.map<|a_ y))(b:VU.Perm (F.map<|ck y))(j:oK VU):h4 cs VU:=by
 have a:∀d∈E,a_ y d∈cs:=λd a=>dh.mem_iff.mpr (oV a);refine⟨λc e=>?_,b.nodup_iff.mpr<|kS I.ah λg h d a=>Cg (i9.of I.eJ) h a,j,by rw[b.length_eq,dh.length_eq,bB,bB];exact I.len,λp k g h d l=>?_⟩
 ·let⟨s,hd,rfl⟩:=dK.mp (b.mem_iff.mp e);exact F3 a (I.eJ s hd)
 ·let⟨f,m,rfl⟩:=dK.mp (dh.mem_iff.mp h);let⟨t,n,rfl⟩:=dK.mp (dh.mem_iff.mp l);refine I.sp (λi=>p<|a_ y i) (λc e=>?_) f m t n;have:=k (ck y c) (b.mem_iff.mpr<|oV e);unfold ck iJ at this;split at this
  ·exact this
  ·exact this.symm
def dF.turn{E cs:List aw}(V3:dF E)(dh:cs.Perm (E.map<|a_ y)):dF cs:=by
 have b:∀{g},g∈cs->∃f∈E,a_ y f=g:=λh=>dK.mp (dh.mem_iff.mp h);have l:∀d∈E,a_ y d∈cs:=λd a=>dh.mem_iff.mpr (oV a);refine⟨λi=>V3.ne ?_,dh.nodup_iff.mpr<|kS V3.ah λg W d W e=>jE e,by rw[dh.length_eq,bB];exact V3.len,λd a=>?_,λg h d a=>?_,λo m g h d a=>?_⟩
 ·have:=dh.length_eq;rw[i,bB]at this;exact s7 this.symm
 ·let⟨f,j,rfl⟩:=b a;have:=V3.lM f j;cases y<;>simp only[a_,fl,fy,gk]<;>lia
 ·let⟨f,j,rfl⟩:=b h;let⟨t,k,rfl⟩:=b a;have:=V3.par f j t k;cases y<;>simp only[a_,fl,fy,gk]<;>lia
 ·let⟨f,j,rfl⟩:=b h;let⟨t,k,rfl⟩:=b a;refine V3.con (λi=>o<|a_ y i) (λJ n u p q=>?_) f j t k;have c:=F3 l (show eV E (J,u) from ⟨n,p,q⟩);have:=m _ c.1 _ c.2.1 c.2.2;unfold ck iJ at this;split at this
  ·exact this
  ·exact this.symm
def QM{VX g:Nat}{L:Nat->aw×Nat}(a:∀b,b+1<VX->aI VU (L b)=L (b+1))(d:aI VU (L<|VX-1)=L 0)(e:g<VX)(WE:L g=(m,0)):
  ((range VX).map λb=>es<|L b).drop g++((range VX).map λb=>es<|L b).take g=cx VU m VX:=by
 have S:∀v,b6 (aI VU) (m,0) v=L ((g+v)%VX):=λv=>by
  induction v with
  |zero=>rw[xo,qI e,WE];rfl
  |succ v f=>
   show aI VU (b6 (aI VU) (m,0) v)=_;rw[f];have lt:(g+v)%VX<VX:=vB _ ⋯;by_cases n:(g+v)%VX+1<VX
   ·rw[a _ n,<-oL,FH (g+v) 1 VX,qI (show 1<VX by lia),qI n]
   ·have c:(g+v)%VX=VX-1:=⋯
    rw[c,d];have:(g+(v+1))%VX=0:=by
     rw[<-oL,FH,c];by_cases h:VX=1
     ·subst h;simp[Nat.mod_one]
     ·rw[qI (show 1<VX by lia),show VX-1+1=VX by lia,Nat.mod_self]
    rw[this]
 refine tI (by simp[cx];lia) λv A C=>?_;have i:v<VX:=by simpa [cx] using C
 have r:(cx VU m VX)[v]=es (L<|(g+v)%VX):=by
  simp[cx,S]
 rw[r,List.getElem_append];split
 ·rename_i n;have n:v<VX-g:=by simpa using n
  rw[rq,nv,th,qI ⋯]
 ·rename_i n;have n:¬ v<VX-g:=by simpa using n
  rw[t5,nv,th];have c:(g+v)%VX=v-(VX-g):=by
   rw[show g+v=(v-(VX-g))+VX by lia,Nat.add_mod_right,qI ⋯]
  rw[c];simp
def iX(F:List a4)(h:aw×Nat):aw:=(((es<|aI F h).1-(es h).1,(es<|aI F h).2-(es h).2))
def j1(F:List a4)(h:aw×Nat):Bool:=(!decide (iX F h=iX F (aI F h)))
def EW(V3:dF E)(I:h4 E F)(a:m∈E):lS (dk F m) (4*E.length)=(c1 E).countP (j1 F):=by
 let⟨o,q,b⟩:=I.hy V3;let⟨c,W⟩:=ud V3 (.refl _) q b a;rw[<-c.countP_eq,sd];unfold lS;rw[<-List.countP_eq_length_filter];rfl
def x1{E cs:List aw}(V3:dF E)(dh:cs.Perm (E.map<|a_ y)):((c1 E).map<|aM y).Perm (c1 cs):=by
 refine r8 (kS (Af V3.ah) λg a d b e=>LS (e2.mp a).2 (e2.mp b).2 e) (λf c=>?_) (by rw[bB,vp,vp,dh.length_eq,bB];lia);let⟨h,VN,rfl⟩:=dK.mp c;exact e2.mpr ⟨dh.mem_iff.mpr<|oV (e2.mp VN).1,N6 y h⟩
def KI(V3:dF E)(a:∀c∈F,eV E c):((c1 E).map<|aI F).Perm (c1 E):=by
 have VJ:=qV a;refine r8 (kS (Af V3.ah) VJ.inj) (λf b=>?_) (by rw[bB];lia);let⟨h,VN,rfl⟩:=dK.mp b;exact VJ.kR h VN
def KR(Wk:mB aq F VU){h:aw×Nat}(VN:h.2<4):j1 VU (aM aq h)=j1 F h:=by
 have A:=pE F h;have C:=pE F (aI F h);unfold j1 iX;rw[tD Wk VN,tD Wk A,lX _ VN,lX _ A,lX _ C];congr 1;refine kd.mpr ?_;simp only[df,fy,gk,ib];lia
def L9(Wk:mB V F VU){h:aw×Nat}(VN:h.2<4):j1 VU (aM V<|aI F<|aI F h)=j1 F h:=by
 have A:=pE F h;have C:=pE F (aI F h);unfold j1 iX;rw[vM Wk A,vM Wk VN,lX _ VN,lX _ A,lX _ C];congr 1;refine kd.mpr ?_;simp only[df,fl,ib];lia
def NC{E cs:List aw}(V3:dF E)(I:h4 E F)(b:m∈E)(dh:cs.Perm (E.map<|a_ y))(aG:dF cs)(h:h4 cs VU)(Wk:mB y F VU)(c:o∈cs):lS (dk VU o) (4*cs.length)=lS (dk F m) (4*E.length):=by
 rw[EW V3 I b,EW aG h c];cases y with
 |false=>
  rw[<-(x1 V3 dh).countP_eq,sd];exact vk λf a=>by
   show j1 VU (aM aq f)=V↔_;rw[KR Wk (e2.mp a).2]
 |true=>
  have w:=KI V3 I.eJ;rw[<-(((w.map<|aI F).trans w).map (aM V) |>.trans (x1 V3 dh)).countP_eq,sd,sd,sd];exact vk λf a=>by
   show j1 VU (aM V<|aI F<|aI F f)=V↔_;rw[L9 Wk (e2.mp a).2]
def zA(y:Bool)(F:List a4)(m:aw)(VX:Nat)(b:Nat):aw×Nat:=(aM y (b6 (aI F) (m,0)<|if y=V then VX-1-b else b))
def jT(y:Bool)(F:List a4)(m:aw)(VX:Nat):List aw:=(if y=V then ((cx F m VX).map<|df y).reverse else (cx F m VX).map (df y))
def Q4(d:∀c∈F,eV E c)(e:m∈E)(VX:Nat):(range VX).map (λb=>es<|zA y F m VX b)=jT y F m VX:=by
 have a:∀b,(b6 (aI F) (m,0) b).2<4:=λb=>(e2.mp ((qV d).b6 (show (m,0)∈c1 E from e2.mpr ⟨e,by simp⟩) b)).2;cases y with
 |false=>
  show _=(cx F m VX).map (df aq);unfold cx;rw[f5];exact oE λb W=>lX aq (a b)
 |true=>
  show _=((cx F m VX).map<|df V).reverse;refine tI (by simp[cx]) λv A C=>?_;have f:v<VX:=by simpa using A
  rw[nv,th,List.getElem_reverse,nv];unfold cx;rw[nv,th];refine (lX V<|a _).trans ?_;simp
def Rr{E cs:List aw}(V3:dF E)(I:h4 E F)(d:m∈E)(dh:cs.Perm (E.map<|a_ y))(aG:dF cs)(Wk:mB y F VU)(k:o∈cs):
  (jT y F m<|4*E.length).Perm (cells cs)/\∀g,(jT y F m<|4*E.length)[g]?=Z o->(jT y F m<|4*E.length).drop g++(jT y F m<|4*E.length).take g=cx VU o (4*E.length):=by
 let⟨p,q,l⟩:=I.hy V3;let⟨n,f⟩:=ud V3 (.refl _) q l d;have u:=mH.mpr V3.ne;obtain⟨VX,v⟩:∃VX,4*E.length=VX+1:=⟨4*E.length-1,⋯⟩;have h:∀b,b6 (aI F) (m,0) b∈c1 E:=λb=>(qV I.eJ).b6 (e2.mpr ⟨d,by simp⟩) b;have a:∀b,(b6 (aI F) (m,0) b).2<4:=λb=>(e2.mp<|h b).2;have pt:=x1 V3 dh;refine⟨?_,λg i=>?_⟩
 ·have A:((cx F m<|4*E.length).map<|df y).Perm (cells cs):=by
   rw[<-PO];refine .trans ?_ (pt.map es);refine .trans ?_ ((n.map<|aM y).map es);unfold cx;rw[f5,f5,f5];exact .of_eq (oE λb W=>(lX y<|a b).symm)
  unfold jT;split
  ·exact (List.reverse_perm _).trans A
  ·exact A
 ·rw[<-Q4 I.eJ d]at i ⊢;let⟨e,j⟩:=fY.mp i;have e:g<4*E.length:=by simpa using e
  rw[nv,th]at j;have r:∀b,zA y F m (4*E.length) b∈c1 cs:=λb=>pt.mem_iff.mp (oV<|h _);have s:zA y F m (4*E.length) g=(o,0):=Q9 aG (r g) (e2.mpr ⟨k,by simp⟩) j;refine QM (λb VF=>?_) ?_ e s
  ·cases y with
   |false=>exact tD Wk (a b)
   |true=>
    show aI VU (aM V<|b6 (aI F) (m,0)<|4*E.length-1-b)=aM V (b6 (aI F) (m,0)<|4*E.length-1-(b+1));rw[show 4*E.length-1-b=(4*E.length-1-(b+1))+1 by lia];exact vM Wk (a _)
  ·cases y with
   |false=>
    show aI VU (aM aq<|b6 (aI F) (m,0)<|4*E.length-1)=aM aq (b6 (aI F) (m,0) 0);rw[tD Wk (a _)];show aM aq (b6 (aI F) (m,0)<|4*E.length-1+1)=_;rw[show 4*E.length-1+1=4*E.length by lia,f];rfl
   |true=>
    show aI VU (aM V<|b6 (aI F) (m,0)<|4*E.length-1-(4*E.length-1))=aM V (b6 (aI F) (m,0)<|4*E.length-1-0);have c:=vM Wk (a<|4*E.length-1);have t:aI F (b6 (aI F) (m,0)<|4*E.length-1)=b6 (aI F) (m,0) (4*E.length-1-(4*E.length-1)):=by
     show b6 (aI F) (m,0) (4*E.length-1+1)=_;rw[show 4*E.length-1+1=4*E.length by lia,f,ys];rfl
    rw[t]at c;exact c
abbrev nB(aE:List aw)(a:ab)(y:List aw)(b Wt:Option ak):a5:=[Z (aT aE),Z<|.im a,Z<|aT y,b,Wt]
theorem Bi:∀VU F:List aw,fg (VU.map ai) (F.map ai)=decide (VU=F)
 |[],[]=>rfl
 |[],_::_=>rfl
 |_::_,[]=>rfl
 |g::VU,d::F=>by
  rw[cS,cS,fg,Bi VU F,mm,<-Jf];exact kd.mpr (by rw[A7])
def HQ(VU F:List aw):gj (aT VU) (aT F)=Z (d9<|!decide (VU=F)):=by
 show (if (ab.cO 7 (VU.map ai)&&ab.cO 7 (F.map ai))=V then Z (ak.im<|.aF<|!fg (VU.map ai) (F.map ai)) else Y)=_;rw[z9,z9,aJ<|show (V&&V)=V from rfl,Bi]
end G
namespace L2
open Spec PyProof.Rows PySem.W
section
variable{VO:bF}{y:bj}{P:bE}{VI:u7->ao->Prop}{l:ae}{cF t:List ae}{w:Nat}{VJ:Nat->af->Prop}{a8:Nat->aY->Prop}
def kg(L e:aY):Prop:=(∀n m,L.get? n=Z m->e.get? n=Z m)
def N0(W:lj VO y P.in1 l cF t w VJ a8){L:aY}(f:Nat->Nat->Bool)(O:∀b v J u (h:ao) (D:af->ao->Prop) (VD:af->ao->Prop),kg L h.heap->VJ b J->VJ v u->D (.bool<|f b v) h->wpAny (aW VO y) P.in1 (kT .Lt J u) D VD h){VU:ae}(s:VU∉cF)(x:∀n m,L.get? n=Z m->n∉t/\n≠VU):∀(q v:Nat) (h:ao) (a:af) (n:Nat),w-(v+1)=q->v+1<=w->a8 (v+1) h.heap->VJ (iR f v) a->
  h.heap.get? VU=Z {cls:=.type "list",dict:=Y,data:=.seq #[a,a] n,slots:=#[]}->kg L h.heap->(∀u VB Wq,VJ (iR f<|w-1) u->kg L VB->VI (.ok<|.ret u) {h with heap:=VB,toks:=Wq})->
  codeAny (aW VO y) P (.builtin "min.loop" ⟨[.ref l,.none,.ref VU],[]⟩) VI h:=by
 have z:VU∉t:=λe=>s (W.sub _ e);have A:(toString "min" ++ toString ".loop" : String) = "min.loop" := by decide
 have B:∀{e:aY}{N:bc->bc},kg L e->kg L (e.update VU N):=λq n m c=>(iZ _ _<|fI (x n m c).2).trans (q n m c);have C:∀{e VB:aY},kg L e->(∀d m,d∉t->e.get? d=Z m->VB.get? d=Z m)->kg L VB:=λq I n m c=>I n m (x n m c).1 (q n m c);intro q;induction q with
 |zero=>
  intro v h a n Q R o j g cL k;have E:v+1=w:=⋯
  refine nW wX ?_;rw[nd nz _];show wpAny _ P.in1 (nI (.ref VU) >>= _) _ _ h;refine ax (fX g rfl ?_);show wpAny _ P.in1 (tryCatch (gF<|.ref l) _ >>= _) _ _ h;refine ax (mW<|W.done h _ _ (E ▸ o) λVB Wq I=>?_);have i:=I VU _ z g;show wpAny _ P.in1 (uA VU (λ_=>#[]) >>= _) _ _ _;refine ax (pv i rfl<|ax<|iF<|ba ?_);exact k a _ Wq (by rw[<-E];exact j) (B<|C cL I)
 |succ q F=>
  intro v h a n Q R o j g cL k;have p:v+1<w:=⋯
  refine nW wX ?_;rw[nd nz _];show wpAny _ P.in1 (nI (.ref VU) >>= _) _ _ h;refine ax (fX g rfl ?_);show wpAny _ P.in1 (tryCatch (gF<|.ref l) _ >>= _) _ _ h;refine ax (mW<|W.item (v+1) h _ _ p o λu VB Wq G H I=>?_);have i:=I VU _ z g;have r:=C cL I;show wpAny _ P.in1 (tryCatch (holding [u,u]<|kT .Lt u a >>= _) _ >>= _) _ _ _;refine ax (mW<|h1<|ax<|O (v+1) (iR f v) u a _ _ _ r G j ?_);refine ax (h1<|kP<|ax<|iF<|ba ?_);cases M:f (v+1) (iR f v) with
  |true=>
   simp only[fl];refine ax (pv i rfl<|ax<|iF ?_);rw[A];refine ba ⟨lF nz _,F (v+1) _ u _ ⋯ p (W.frame _ _ _ H λd S m c=>(iZ _ _ (λe:VU=d=>s (by rw[e];exact S))).trans c) (by simp only[iR,M,fl];exact G) (oI _ i rfl) (B r) k⟩
  |false=>
   simp only[gk,fy];refine ax (iF ?_);rw[A];exact ba ⟨lF nz _,F (v+1) _ a n ⋯ p H (by simp only[iR,M,gk,fy];exact j) i r k⟩
def U4(W:lj VO y P.in1 l cF t w VJ a8){L:aY}(a:Nat->Nat->Bool)(o:∀b v J u (h:ao) (D:af->ao->Prop) (VD:af->ao->Prop),kg L h.heap->VJ b J->VJ v u->D (.bool<|a b v) h->wpAny (aW VO y) P.in1 (kT .Lt J u) D VD h){VU:ae}(f:VU∉cF)(g:∀n m,L.get? n=Z m->n∉t/\n≠VU)(i:0<w){h:ao}{n:Nat}(p:a8 0 h.heap)(j:h.heap.get? VU=Z {cls:=.type "list",dict:=Y,data:=.seq #[] n,slots:=#[]})(cL:kg L h.heap)(q:∀u VB Wq,VJ (iR a<|w-1) u->kg L VB->VI (.ok<|.ret u) {h with heap:=VB,toks:=Wq}):codeAny (aW VO y) P (.builtin "min.loop" ⟨[.ref l,.none,.ref VU],[]⟩) VI h:=by
 have r:VU∉t:=λe=>f (W.sub _ e);have s:(toString "min" ++ toString ".loop" : String) = "min.loop" := by decide
 refine nW wX ?_;rw[nd nz _];show wpAny _ P.in1 (nI (.ref VU) >>= _) _ _ h;refine ax (fX j rfl ?_);show wpAny _ P.in1 (tryCatch (gF<|.ref l) _ >>= _) _ _ h;refine ax (mW<|W.item 0 h _ _ i p λu VB Wq x z I=>?_);have k:=I VU _ r j;have A:kg L VB:=λn m c=>I n m (g n m c).1 (cL n m c);show wpAny _ P.in1 (uA VU (λ_=>#[u,u]) >>= _) _ _ _;refine ax (pv k rfl ?_);rw[s];exact ba ⟨lF nz _,N0 W a o f g _ 0 _ u _ rfl i (W.frame _ _ _ z λd B m c=>(iZ _ _ (λe:VU=d=>f (by rw[e];exact B))).trans c) x (oI _ k rfl) (λn m c=>(iZ _ _<|fI (g n m c).2).trans<|A n m c) q⟩
end
theorem GF{B:List ab}(m:qQ B):∀q,q<B.length->iR (λb v=>a7 (B.getD b .aS)<|B.getD v .aS) q<=q/\∀v,v<=q->B.getD v .aS=B.getD (iR (λb v=>a7 (B.getD b .aS)<|B.getD v .aS) q) .aS\/a7 (B.getD (iR (λb v=>a7 (B.getD b .aS)<|B.getD v .aS) q) .aS) (B.getD v .aS)=V
 |0,e=>⟨bT _,λv f=>.inl (by rw[Jl.mp f];rfl)⟩
 |q+1,e=>by
  let⟨A,C⟩:=GF m q ⋯;rw[iR];have g:=m4 e;have a:B.getD (iR (λb v=>a7 (B.getD b .aS)<|B.getD v .aS) q) .aS∈B:=m4 ⋯;generalize h:iR (λb v=>a7 (B.getD b .aS)<|B.getD v .aS) q=d at A C a ⊢;by_cases n:a7 (B.getD (q+1) .aS) (B.getD d .aS)=V
  ·rw[aJ n];refine⟨bT _,λv f=>?_⟩;rcases pS v (q+1) with p|p
   ·right;rcases C v ⋯ with c|c
    ·rw[c];exact n
    ·exact qF (m.2 _ g _ a) (m.2 _ a _ (m4 ⋯)) n c
   ·rw[show v=q+1 by lia];exact .inl rfl
  ·rw[aP n];refine⟨⋯,λv f=>?_⟩;rcases pS v (q+1) with p|p
   ·exact C v ⋯
   ·rw[show v=q+1 by lia];by_cases c:B.getD (q+1) .aS=B.getD d .aS
    ·exact .inl c
    ·right;have:=oi (m.2 _ g _ a) c;rw[A3]at n;rw[n]at this;cases i:a7 (B.getD d .aS) (B.getD (q+1) .aS) with
     |true=>rfl
     |false=>rw[i]at this;cases this
section
variable{a:aK}
def Pg(al:a.calm=V)(cr:a.A.units+20<b9):eY a (.builtin "min") (λz j D=>∃(g:ae) (B:List ab) (VR:List ar),z=[.ref g]/\j g=Z (.lst VR)/\bN j B VR/\qQ B/\B≠[]/\
  ∀s t,s∈B->(∀c∈B,c=s\/a7 s c=V)->cM j s t->D t j):=by
 intro G h x j z VZ D l r e;let⟨M,B,VR,rfl,am,hd,m,an,p⟩:=e;let⟨J,rfl,ap⟩:=ih r;cases ap;let⟨i,VP,w,k,c⟩:=l.aX M _ am;have I:h.heap.IsList M VP.toArray:=⟨_,c,rfl,w,rfl⟩;have as:=hd.length;have a1:=k.length;have q:0<B.length:=mH.mpr an;have a2:=hd.e8 l.aX k;refine DL Hj IS HO (F.args_min1 _) ?_;show wpAny _ a.A.in1 (bx.Builtins.bindParams "min" ["key","default"] 0 ⟨[],[]⟩ >>= _) _ _ h;refine ax (vZ (show bx.Builtins.bindParams "min" ["key","default"] 0 ⟨[],[]⟩=pure [Y,Y] from rfl) ?_);refine ax (ba ?_);refine ax (wpAny_pyIter_list I ?_);have W:=lj.list (prog:=a.prog) (w:=a.w) (A:=a.A.in1) (l.ok.hd al) h.heap.objs.size M (ef<|cg c) VP.toArray;have bd:(toString "min" ++ toString ".loop" : String) = "min.loop" := by decide
 refine ax (i0 ?_);rw[bd];have be:∀n m,h.heap.get? n=Z m->n<h.heap.objs.size:=λn m c=>cg c;refine ba ⟨lF nz _,U4 W (L:=h.heap) (λb v=>a7 (B.getD b .aS)<|B.getD v .aS) ?f ?bi ?bm ?w ?X (dr _ rfl) ?cL ?VI⟩
 case f=>
  intro b v J u VE bn bs cL VF o N;have Q:=a2.tq cL;let⟨g,R,bv⟩:=Q.get (show VP[b]?=Z J by simpa using VF);let⟨d,aU,aV⟩:=Q.get (show VP[v]?=Z u by simpa using o);have ca:B.getD b .aS=g:=by rw[cR,R];rfl
  have cd:B.getD v .aS=d:=by rw[cR,aU];rfl
  rw[ca,cd]at N;exact tJ 6 (m.2 g (jJ R) d<|jJ aU) (by show a.A.units+1+6+2<b9;lia) bv aV a.prog a.w bs bn N
 case bi=>
  intro C;simp only[h3,bO,gz,eT]at C;have:=cg c;lia
 case bm=>
  intro n S E;have:=be n S E;rw[h3];exact⟨λC=>by rw[cH.mp C]at this;exact iU _ this,⋯⟩
 case w=>rw[cX];lia
 case X=>exact⟨KQ (h:=h.heap.push _) ⟨_,dr _ rfl,rfl,rfl⟩ λm c=>b4 _ c,(I.push _).push _⟩
 case cL=>exact λn S E=>b4 _ (b4 _ E)
 case VI=>
  intro u VB Wq H cL;let⟨aU,aV⟩:=GF m (B.length-1) ⋯;rw[cX,<-a1,<-as]at H;generalize iR (λb v=>a7 (B.getD b .aS)<|B.getD v .aS) (B.length-1)=d at H aU aV;have T:d<B.length:=⋯
  let⟨t,ce,ch⟩:=hd.get (show B[d]?=Z (B.getD d .aS) by rw[cR,fL T];rfl);let⟨ci,U,cl⟩:=k.get ce;have jg:ci=u:=by
   have:VP[d]?=Z u:=by simpa using H
   rw[this]at U;exact (Option.some.inj U).symm
  subst jg;refine⟨t,j,l.kept (We:=Wq) cL,cl,p _ t (m4 T) (λc co=>?_) ch⟩;let⟨v,o,rfl⟩:=vT.mp co;have:=aV v ⋯;rw[show B.getD v .aS=B[v] by rw[cR,fL o];rfl]at this;exact this
@[simp] def q7:hE:=λB=>match B with
 |[.lst f]=>if tr f=V then (gN a7 f).head?.map .im else Y
 |_=>Y
def IG(k:a.calm=V)(l:a.A.units+20<b9):g5 a (.builtin "min") q7:=by
 refine (Pg k l).imp λz j D ⟨B,s,m,c,p⟩=>?_;unfold q7 at c;split at c
 ·rename_i f;split at c
  ·rename_i n;have d:=mw.mp n;let⟨H,h,o⟩:=cv.mp c;subst o;let⟨u,rfl,e⟩:=gv m;let⟨VI,g,VR,rfl,A,C,W⟩:=e;have Wa:=iL f;have lt:=oT d.1.3 d.1.2;cases VN:gN a7 f with
   |nil=>rw[VN]at h;cases h
   |cons E r=>
    rw[VN]at h lt Wa;cases h;rw[fZ]at lt;have q:∀c∈f,c=H\/a7 H c=V:=λc v=>by
     rcases bO.mp (Wa.mem_iff.mpr v) with i|i
     ·exact .inl i
     ·exact .inr (lt.1 c i)
    refine⟨g,f,VR,rfl,A,C,d.1,λi=>by rw[i]at Wa;simpa using Wa.length_eq,λs t hd w x=>?_⟩;have:s=H:=by
     rcases q s hd with i|i
     ·exact i
     ·rcases w H (Wa.mem_iff.mp<|.head _) with y|y
      ·exact y.symm
      ·have I:=qF (d.1.2 _ hd _<|Wa.mem_iff.mp<|.head _) (d.1.2 _ (Wa.mem_iff.mp<|.head _) _ hd) y i;rw[r9]at I;cases I
    subst this;exact cb.i p x
  ·cases c
 ·cases c
end
end L2
namespace L2
end L2
namespace L2
open Spec PyProof.Rows PySem.W SeqAt
section
variable{a:aK}
@[simp] def qa:ak->List ak->Option (ak×ak):=λn B=>match n,B with
 |.lst z,[]=>Z (.im .aS,.lst z.reverse)
 |_,_=>Y
def QB:oB a "list.reverse" qa:=by
 intro G h x j f T u VZ D l d e k;let⟨n,B,r,t,VI,VU,dk,m,ah,c,p⟩:=k;unfold qa at c;split at c
 ·rename_i z;cases c;let⟨g,VR,rfl,A,C,rfl⟩:=dk;let⟨rfl,rfl⟩:=m;cases d;cases e.zero;have WM:fW j g:=⟨_,A,(λ_ c=>by cases c),(λ_ W c=>by cases c)⟩;let⟨i,VP,w,o,q,b⟩:=l.hs A;refine m6 F.slot_list_reverse ⟨_,b,rfl⟩ F.entry_list_reverse (F.args_list_reverse_1 _) (Lo g VP.toArray w (by rw[cX,<-q];exact i)) ⟨b,?_⟩;refine⟨.aS,_,l.sq (S:=VP.reverse) A b ↥0 o.reverse (by rw[List.length_reverse];exact i),rfl,?_⟩;exact p .aS _ [] [g] ⟨rfl,rfl⟩ ⟨g,_,rfl,eW,C.rev.mono<|cM.k5 WM,rfl⟩ (bk.chg (.head _) WM (fN _ _) λf s=>by simpa using s)
 ·cases c
end
end L2
namespace G
open L2
variable{VG:dQ}{E aE:List aw}{y:Bool}{m:aw}
def yc:bo:=((bL (ee (bJ<|av eN (ag 0)<|aa<|au<|.int 0) (cG<|c0<|aj (aa<|av a9 (ag 1)<|aa<|au<|.int 1)<|aj (aa<|av hH (aa<|au<|.int 30)<|aa<|av a9 (ag 1)<|aa<|au<|.int 0) ay) fa)<|cG<|c0<|aj (aa<|av a9 (ag 1)<|aa<|au<|.int 0)<|aj (aa<|av hH (aa<|au<|.int 30)<|aa<|av a9 (ag 1)<|aa<|au<|.int 1) ay))
def qn:cU:=(c6 2 2 [0,1] yc)
def Dk:aC ak:=((bf 2 G.qn<|aj (ag 1)<|aj (ag 0) ay))
def FC:bo:=((cG<|bV q7<|aj (aa<|dg 1 [0] (dn<|aa<|bf 1 G.q2<|aj (ag 1) ay) (br 0) d8 G.Dk) ay))
def l0:cU:=(c6 2 2 [0,1] FC)
def tg:bo:=((hn<|fH hl 2 ha<|aj (aa<|bV iH<|aj (aa<|bV eM<|aj (aa<|eI<|aj (aa<|bf 2 G.l0<|aj (ag 0)<|aj (ag 3) ay)<|aj (aa<|bf 2 G.l0<|aj (ag 0)<|aj (ag 4) ay) ay) ay) ay) ay))
def AY:bo:=((bL (cn 2<|eI ay)<|bL (g0 (dn<|ag 1) (e_ 2<|c3 (br 3)<|c3 (br 4) fj) G.tg)<|cG<|bV iH<|aj (aa<|bV eM<|aj (ag 2) ay) ay))
def l_:cU:=(c6 2 5 [0,1] AY)
def DC:bo:=((bL (cn 1<|s_ (ag 0)<|aa<|bV q7<|aj (ag 0) ay)<|cG<|bV iH<|aj (aa<|av dp (aa<|iE (ag 0) (jL<|fB 1) jl)<|aa<|iE (ag 0) jl<|jL<|fB 1) ay))
def qZ:cU:=(c6 1 2 [0] DC)
def BH(a b:ae)(VG:dQ):aC ak:=((bf 2 G.l0<|aj (ag 1)<|aj (ag 0) ay))
def Dz(a b:ae)(VG:dQ):aC ak:=((bf 2 G.qn<|aj (ag 1)<|aj (ag 0) ay))
def z2(a b:ae)(VG:dQ):bo:=((bL (cn 3<|bf 1 G.ig<|aj (ag 0) ay)<|bL (cn 4<|bV eM<|aj (aa<|dg 1 [2] (dn<|ag 0) (br 0) d8<|G.BH a b VG) ay)<|bL (cn 5<|bf 2 G.l_<|aj (ag 2)<|aj (ag 1) ay)<|bL (ee (jY (bJ<|av gj (aa<|bf 1 G.mj<|aj (aa<|bf 1 G.ig<|aj (ag 4) ay) ay)<|aa<|bV iH<|aj (ag 4) ay)<|bJ<|av (wN V) (aa<|bf 2 (G.qr a b)<|aj (aa<|bf 1 G.ig<|aj (ag 4) ay)<|aj (ag 5) ay)<|aa<|au<|.aF V) (cG<|au<|.aF aq) fa)<|bL (cn 6<|dg 1 [2] (dn<|aa<|bf 2 (G.k_ VG)<|aj (ag 3)<|aj (ag 1) ay) (br 0) d8<|G.Dz a b VG)<|bL (ee (bJ<|av eN (ag 2)<|aa<|au<|.int 1) (hn<|fH hl 6 qa ay) fa)<|bL (ee (bJ<|av gj (aa<|bf 2 (G.k_ VG)<|aj (aa<|bf 1 G.ig<|aj (ag 4) ay)<|aj (ag 5) ay)<|aa<|bf 1 G.qZ<|aj (ag 6) ay) (cG<|au<|.aF aq) fa)<|cG<|av eN (aa<|bf 2 (G.n4 VG)<|aj (aa<|bf 1 G.ig<|aj (ag 4) ay)<|aj (ag 5) ay)<|aa<|bf 2 (G.n4 VG)<|aj (ag 3)<|aj (ag 1) ay))
def mG(a b:ae)(VG:dQ):cU:=(c6 3 7 [0,1,2] (z2 a b VG))
def xS(a b:ae)(VG:dQ):aC ak:=((bf 2 G.l0<|aj (aa<|au<|.int 0)<|aj (ag 0) ay))
def tv(a b:ae)(VG:dQ):bo:=((bL (ee (jY (gi<|gy<|aa<|bf 3 (G.mG a b VG)<|aj (ag 3)<|aj (ag 4)<|aj (aa<|au<|.int 0) ay)<|gi<|gy<|aa<|bf 3 (G.mG a b VG)<|aj (ag 3)<|aj (ag 4)<|aj (aa<|au<|.int 1) ay) (cG<|au<|.aF aq) fa)<|p0 3 4<|aj (aa<|bV eM<|aj (aa<|dg 1 [] (dn<|ag 3) (br 0) d8<|G.xS a b VG) ay)<|aj (aa<|bf 2 G.l_<|aj (aa<|au<|.int 0)<|aj (ag 4) ay) ay))
def tZ(a b:ae)(VG:dQ):bo:=((bL (cn 2<|bf 2 G.rS<|aj (ag 0)<|aj (ag 1) ay)<|bL (cn 3<|bf 1 G.ro<|aj (ag 2) ay)<|bL (cn 4<|bf 2 G.sX<|aj (ag 2)<|aj (ag 3) ay)<|g0 (mM<|aj (aa<|au<|.int 3) ay) (br 5)<|G.tv a b VG))
def yU(a b:ae)(VG:dQ):bo:=((bL (g0 (mM<|aj (aa<|bV rf<|aj (aa<|au<|.int 1)<|aj (aa<|bV sA<|aj (aa<|au<|.int 6)<|aj (aa<|bV eO<|aj (ag 0) ay) ay) ay) ay) (br 1)<|G.tZ a b VG)<|cG<|au<|.aF V))
def r0(a b:ae)(VG:dQ):cU:=(c6 1 6 [0] (yU a b VG))
abbrev d4(y:Bool):ak:=aL (if y=V then 1 else 0)
def GA(y:Bool)(n:aw):qn [d4 y,.im<|ai n]=Z (.im<|ai<|df y n,[d4 y,.im<|ai n]):=by
 have a:a9 (.im<|ai n) (aL 0)=Z (aL n.1):=rfl;have b:a9 (.im<|ai n) (aL 1)=Z (aL n.2):=rfl;unfold qn;cases y with
 |false=>
  refine ff (k:=[Z (d4 aq),Z<|.im<|ai n]) rfl ?_ rfl;unfold yc;refine q0 ((nx (VK:=[Z (d4 aq),Z<|.im<|ai n]) rfl).trans<|dY ?_);exact rW (di (cC<|d_ rfl rfl rfl rfl b)<|di (cC<|d_ rfl (cC<|d_ rfl rfl rfl rfl a) rfl rfl rfl) rfl) rfl (fu rfl) rfl
 |true=>
  refine ff (k:=[Z (d4 V),Z<|.im<|ai n]) rfl ?_ rfl;unfold yc;refine cW (il rfl rfl) (dY ?_);exact rW (di (cC<|d_ rfl rfl rfl rfl a)<|di (cC<|d_ rfl (cC<|d_ rfl rfl rfl rfl b) rfl rfl rfl) rfl) rfl (fu rfl) rfl
def H3{M:List aw}(ah:M.Nodup)(b:M.length<=1000)(Wa:aE.Perm M)(t:fK aE)(c:aE[0]?=Z m):q7 [aN M]=Z (.im<|ai m):=by
 have a:=rJ ah b;have d:gN a7 (M.map ai)=aE.map ai:=(AU a.1 (Wa.map ai) t).symm;show (if tr (M.map ai)=V then (gN a7<|M.map ai).head?.map ak.im else Y)=_;rw[aJ (mw.mpr a),d,List.head?_map,List.head?_eq_getElem?,c];rfl
def UY(d:aw):fK [d,(d.1,d.2+1),(d.1+1,d.2),(d.1+1,d.2+1)]:=by
 refine oF.mpr ?_;simp only[kI,fZ,bO,gz,eT,forall_eq_or_imp,forall_eq];simp;lia
def MP(y:Bool)(d:aw):q7 [aN ((dW d).map<|df y)]=Z (.im<|ai<|a_ y d):=by
 have a:∀f∈dW d,∀t∈dW d,df y f=df y t->f=t:=λf W t W e=>by
  let⟨g,h⟩:=f;let⟨i,j⟩:=t;cases y<;>simp only[df,fl,fy,gk,ib]at e ⊢<;>lia
 have ah:=kS (IE d) a;refine H3 ah (by rw[bB];exact fu rfl) (.symm (r8 ah (λf b=>?_) (by rw[bB];exact fu rfl))) (UY<|a_ y d) rfl;let⟨n,c,rfl⟩:=dK.mp b;have:=sH.mp c;let⟨k,l⟩:=n;let⟨aU,aV⟩:=d;cases y<;>simp only[df,a_,fl,fy,gk,bO,gz,eT,ib]at this ⊢<;>lia
def wa(y:Bool)(d:aw):l0 [d4 y,.im<|ai d]=Z (.im<|ai<|a_ y d,[d4 y,.im<|ai d]):=by
 have a:dg 1 [0] (dn<|aa<|bf 1 G.q2<|aj (ag 1) ay) (br 0) d8 G.Dk [Z (d4 y),Z<|.im<|ai d]=Z (aN<|(dW d).map<|df y,[Z (d4 y),Z<|.im<|ai d]):=by
  have c:(.lst ((dW d).map λn=>ai<|df y n):ak)=aN ((dW d).map<|df y):=by
   show _=ak.lst (((dW d).map<|df y).map ai);rw[f5];rfl
  rw[<-c];refine kQ (z:=(dW d).map ai) (m:=Y) (VK:=[Z (d4 y),Z<|.im<|ai d]) (yH (c5 (VV:=[.a6 1]) rfl rfl rfl (Jz d) rfl) rfl) (jn ai (λn=>ai<|df y n) _ (λn W=>?_)<|fu rfl) rfl;refine⟨[Z (.im<|ai n),Z<|d4 y],_,[Z (.im<|ai n),Z<|d4 y],rfl,rfl,?_,rfl⟩;exact c5 (VV:=[.a6 1,.a6 0]) rfl rfl rfl (GA y n) rfl
 unfold l0 FC;exact ff (k:=[Z (d4 y),Z<|.im<|ai d]) rfl (dY<|er (bX (aZ a) rfl) rfl<|MP y d) rfl
def QS{f t:aw}(e:f≠t):eM [aN [f,t]]=Z (aN [(iJ f t).1,(iJ f t).2]):=by
 have c:eM [aN [f,t]]=gE ([f,t].map ai):=rT λs hd=>by
  let⟨n,W,rfl⟩:=dK.mp hd;exact⟨_,rfl⟩
 rw[c];have ah:[f,t].Nodup:=by simp[e]
 unfold iJ;split
 ·rename_i i;exact Dh (.refl _) (oF.mpr (by simp only[kI,fZ,bO,gz,eT,forall_eq];simp;exact i)) (fu rfl) ah
 ·rename_i i;have a:t.1<f.1\/(t.1=f.1/\t.2<f.2):=by
   let⟨b,d⟩:=f;let⟨g,h⟩:=t;simp only[ne_eq,ib]at e i ⊢;lia
  have r:fK [t,f]:=oF.mpr (by simp only[kI,fZ,bO,gz,eT,forall_eq];simp;exact a);exact Dh (List.Perm.swap _ _ _) r (fu rfl) ah
abbrev mN(y:Bool)(a:ab)(U:List a4)(b Wt:Option ak):a5:=[Z (d4 y),Z<|.im a,Z<|bh U,b,Wt]
theorem I8{y:Bool}{a:ab}:∀(M U:List a4) (b Wt:Option ak),(∀c∈M,c.1≠c.2)->U.length+M.length<=1000->
  ∃d g,ed (e_ 2<|c3 (br 3)<|c3 (br 4) fj) tg (M.map aQ) (mN y a U b Wt)=Z (.aI,mN y a (U++M.map (ck y)) d g)
 |[],U,b,Wt,_,_=>⟨b,Wt,by rw[vz,vz,cj];rfl⟩
 |c::M,U,b,Wt,e,j=>by
  rw[dV]at j;let⟨d,g,k⟩:=I8 (y:=y) (a:=a) M (U++[ck y c]) (Z<|.im<|ai c.1) (Z<|.im<|ai c.2) (λs hd=>e s<|.tail _ hd) (by rw[d7,ko];lia);refine⟨d,g,?_⟩;have aU:=wa y c.1;have aV:=wa y c.2;have h:=QS (f:=a_ y c.1) (t:=a_ y c.2) λi=>e c (.head _) (jE i);have l:ha (bh U) [.im (aQ<|ck y c)]=Z (.im .aS,bh<|U++[ck y c]):=by
   show (if (U.map aQ).length<100000 then Z (ak.im .aS,ak.lst<|U.map aQ++[aQ (ck y c)]) else Y)=_;rw[aJ (by rw[bB];lia)];show _=Z (ak.im .aS,ak.lst<|(U++[ck y c]).map aQ);rw[fM];rfl
  have X:tg (mN y a U (Z<|.im<|ai c.1)<|Z<|.im<|ai c.2)=Z (.aI,mN y a (U++[ck y c]) (Z<|.im<|ai c.1)<|Z<|.im<|ai c.2):=by
   unfold tg;exact lg (j7 rfl rfl (di (cC<|nN (di (cC<|nN (di (cC<|tn (B:=[.im (ai<|a_ y c.1),.im<|ai<|a_ y c.2]) (di (cC<|c5 (VV:=[.a6 0,.a6 3]) rfl rfl rfl aU rfl)<|di (cC<|c5 (VV:=[.a6 0,.a6 4]) rfl rfl rfl aV rfl) rfl) rfl (fu rfl) rfl) rfl) rfl h) rfl) rfl rfl) rfl) rfl rfl l (by rfl))
  rw[cS,ed];dsimp only;rw[show e_ 2 (c3 (br 3)<|c3 (br 4) fj) (.im<|aQ c) (mN y a U b Wt)=Z (mN y a U (Z<|.im<|ai c.1)<|Z<|.im<|ai c.2) from rfl];show (tg _).bind _=_;rw[X];rw[show U++(c::M).map (ck y)=U++[ck y c]++M.map (ck y) by simp];exact k
def G7{F:List a4}(I:h4 E F)(q:E.length<=100):∃VU,l_ [d4 y,fh F]=Z (fh VU,[d4 y,fh F])/\VU.Perm (F.map<|ck y)/\oK VU:=by
 have W5:=I.len;have a:=i9.of I.eJ;let⟨e,f,b⟩:=I8 (y:=y) (a:=.tup (F.map aQ)) F [] Y Y (λc h i=>by
  have:=a c h;rw[i]at this;lia) (by simp;lia)
 rw[k7]at b;let⟨VU,j,l,n⟩:=Ho (VG:=F.map (ck y)) (kS I.ah λg o d p=>Cg a o p) (by rw[bB];lia);refine⟨VU,?_,j,n⟩;unfold l_;refine ff (k:=mN y (.tup<|F.map aQ) (F.map<|ck y) e f) rfl ?_ rfl;show AY [Z (d4 y),Z<|fh F,Y,Y,Y]=_;unfold AY;exact cW (VK:=mN y (.tup<|F.map aQ) [] Y Y) (h7 rfl (gY rfl) rfl) (cW (jC (m:=Y) (z:=F.map aQ) (VK:=mN y (.tup<|F.map aQ) [] Y Y) rfl b rfl)<|dY<|er (bX (aZ<|er (bX rfl rfl) rfl l) rfl) rfl rfl)
theorem Hr:∀{y:List aw}{v:Nat}{n:aw},y.Nodup->y[v]?=Z n->jD (y.map ai) (ai n)=Z v
 |[],v,n,_,e=>by simp at e
 |g::y,0,n,_,e=>by
  cases e;rw[cS,jD,mm,aJ<|dJ rfl]
 |g::y,v+1,n,ah,e=>by
  have a:n∈y:=jJ e;have ne:¬ g=n:=λc=>(hN.mp ah).1 (c ▸ a);rw[cS,jD,mm,eB ne,aP ∅,Hr (hN.mp ah).2 e];rfl
def Qv{W:List aw}{g:Nat}(ah:W.Nodup)(b:W.length<=1000)(Wa:aE.Perm W)(t:fK aE)(c:aE[0]?=Z m)(a:W[g]?=Z m):qZ [aN W]=Z (aT<|W.drop g++W.take g,[aN W]):=by
 have fT:=H3 ah b Wa t c;have j:g<W.length:=(fY.mp a).1;have d:p2 (aN W) (.im<|ai m)=Z (aL (g:Nat)):=by
  have e:=rB m;have Wo:=xH W;show (if (ab.bA 8 (ai m)&&ab.cO 8 (W.map ai))=V/\(W.map ai).length<=100000 then (jD (W.map ai)<|ai m).map λ(v:Nat)=>ak.im (.int (v:Int)) else Y)=_;rw[aJ ⟨by rw[e,Wo];rfl,by rw[bB];lia⟩,Hr ah a];rfl
 have f:kH (aN W) (Z (g:Int)) Y=Z (aN<|W.drop g):=by
  show Z (ak.lst<|gh (W.map ai) (Z ((g:Nat):Int)) Y)=_;rw[sv,<-mx]
 have h:kH (aN W) Y (Z (g:Int))=Z (aN<|W.take g):=by
  show Z (ak.lst<|gh (W.map ai) Y<|Z ((g:Nat):Int))=_;rw[Bf,<-ly]
 have i:dp (aN<|W.drop g) (aN<|W.take g)=Z (aN<|W.drop g++W.take g):=by
  have:dp (aN<|W.drop g) (aN<|W.take g)=Z (.lst<|(W.drop g).map ai++(W.take g).map ai):=aJ (by
   rw[bB,bB,gQ,h5];lia)
  rw[this,<-fM]
 unfold qZ DC;refine ff (k:=[Z (aN W),Z<|aL (g:Nat)]) rfl (cW (VK:=[Z (aN W),Z<|aL (g:Nat)]) (h7 (UJ rfl rfl rfl (cC<|nN (di rfl rfl) rfl fT) rfl rfl d) (gY rfl) rfl)<|dY ?_) rfl;exact er (bX (aZ<|b7 (aZ<|u5 rfl rfl rfl rfl f) (aZ<|u5 rfl rfl rfl rfl h) rfl rfl i) rfl) rfl rfl
def hh.of(V3:dF E)(lE:fK E):∃aE,ig [aN E]=Z (aT aE,[aN E])/\hh E aE:=by
 let⟨aE,a,Wa,t⟩:=TG V3;exact⟨aE,a,V3,lE,Wa,t⟩
def Eo(V3:dF E):∃cs:List aw,cs.Perm (E.map<|a_ y)/\eM [aN (E.map<|a_ y)]=Z (aN cs)/\fK cs:=by
 have aF:=V3.len;let⟨cs,dh,a,b⟩:=we (VG:=E.map (a_ y)) (kS V3.ah λg W d W e=>jE e) (by rw[bB];lia);refine⟨cs,dh,?_,b⟩;rw[<-a];exact rT λs hd=>by
  let⟨n,W,rfl⟩:=dK.mp hd;exact⟨_,rfl⟩
def AK(N:aw->aw)(M:List aw):(.lst (M.map λn=>ai<|N n):ak)=aN (M.map N):=by
 show _=ak.lst ((M.map N).map ai);rw[f5];rfl
abbrev cB(E:List aw)(b:ab)(y:Bool)(c Wt Wv a:Option ak):a5:=[Z (aN E),Z<|.im b,Z<|d4 y,c,Wt,Wv,a]
def CX(q:nF VG){e f:ae}{E:List aw}{F:List a4}(y:Bool)(V3:dF E)(lE:fK E)(I:h4 E F):mG e f VG [aN E,fh F,d4 y]=Z (d9 V,[aN E,fh F,d4 y]):=by
 show mG e f VG [aN E,.im<|.tup<|F.map aQ,d4 y]=Z (d9 V,[aN E,.im<|.tup<|F.map aQ,d4 y]);have aF:=V3.len;have ce:=mH.mpr V3.ne;let⟨aE,P,O⟩:=hh.of V3 lE;let⟨cs,dh,Q,R⟩:=Eo (y:=y) V3;have aG:=V3.turn dh;let⟨i,hQ,VD⟩:=hh.of aG R;let⟨VU,C,D,U⟩:=G7 (y:=y) I ⋯;have h:=I.turn dh D U;have Wk:mB y F VU:=N7 λc=>by rw[D.mem_iff,dK]
 have bR:cs.length=E.length:=by rw[dh.length_eq,bB]
 let⟨m,H,l⟩:=ux V3 O.pm O.pC;let⟨o,r,p⟩:=ux aG VD.pm VD.pC;let⟨T,al,am⟩:=KX (a:=e) (h:=f) VD (show VU.length<=100 by have:=h.len;lia);cases am.mpr h;have J:=w_ q V3 H l (i9.of I.eJ) I.eJ O.len;have w:=w_ q aG r p (i9.of h.eJ) h.eJ VD.len;let⟨S,an,ap⟩:=I.hy V3;let⟨S,as,a1⟩:=h.hy aG;have L:=Ik q V3 H l (i9.of I.eJ) I.eJ O.len (ud V3 (.refl _) an ap l).2;have x:=Ik q aG r p (i9.of h.eJ) h.eJ VD.len (ud aG (.refl _) as a1 p).2;rw[NC V3 I l dh aG h Wk p]at x;let⟨wp,t⟩:=Rr V3 I l dh aG Wk p;have a2:(jT y F m<|4*E.length).Nodup:=wp.nodup_iff.mpr aG.Fw;have ch:(jT y F m<|4*E.length).length=4*E.length:=by rw[wp.length_eq,qN,bR]
 have M:i.Perm (jT y F m<|4*E.length):=VD.pm.trans wp.symm;let⟨g,N⟩:=Cs.mp (M.mem_iff.mp<|jJ r);have s:=Qv a2 ⋯ M VD.pC r N;rw[t g N]at s;rw[bR]at w;have bd:=zi F m (4*E.length);have be:=VD.blocks;have ne:=HQ cs cs;rw[dJ rfl]at ne;have A:=HQ (cx VU o<|4*E.length) (cx VU o<|4*E.length);rw[dJ rfl]at A;have B:=qx (lS (dk F m) (4*E.length):Int) (lS (dk F m) (4*E.length):Int);rw[dJ rfl]at B;have ci:∀k:a5,d4 y=d4 y:=λ_=>rfl;have j:∀(k:a5),ee (bJ<|av eN (ag 2)<|aa<|au<|.int 1) (hn<|fH hl 6 qa ay) fa (cB E (.tup<|F.map aQ) y (Z<|aT aE) (Z<|aN cs) (Z<|fh VU)<|Z<|aN<|(cx F m<|4*E.length).map<|df y)=Z (.aI,cB E (.tup<|F.map aQ) y (Z<|aT aE) (Z<|aN cs) (Z<|fh VU)<|Z<|aN<|jT y F m<|4*E.length):=λ_=>by
  cases y with
  |false=>exact il rfl rfl
  |true=>
   refine (nx (VK:=cB E (.tup<|F.map aQ) V (Z<|aT aE) (Z<|aN cs) (Z<|fh VU) (Z<|aN<|(cx F m<|4*E.length).map<|df V)) rfl).trans ?_;have bi:qa (aN<|(cx F m<|4*E.length).map<|df V) []=Z (.im .aS,aN<|jT V F m<|4*E.length):=by
    show Z (ak.im .aS,ak.lst (((cx F m<|4*E.length).map<|df V).map ai).reverse)=Z (.im .aS,ak.lst<|(((cx F m<|4*E.length).map<|df V).reverse).map ai);rw[List.map_reverse]
   exact lg (j7 rfl rfl rfl rfl rfl bi (by rfl))
 have j:=j [];generalize jT y F m (4*E.length)=W at j s;generalize (cx VU o<|4*E.length)=ar at w s A;generalize (cx F m<|4*E.length)=u at J j bd;generalize (lS (dk F m) (4*E.length):Int)=aC at L x B;have bm:l_ [d4 y,.im<|.tup<|F.map aQ]=Z (.im<|.tup<|VU.map aQ,[d4 y,.im<|.tup<|F.map aQ]):=C;have bn:ee (bJ<|av eN (ag 2)<|aa<|au<|.int 1) (hn<|fH hl 6 qa ay) fa (cB E (.tup<|F.map aQ) y (Z<|aT aE) (Z<|aN cs) (Z<|.im<|.tup<|VU.map aQ)<|Z<|aN<|u.map<|df y)=Z (.aI,cB E (.tup<|F.map aQ) y (Z<|aT aE) (Z<|aN cs) (Z<|.im<|.tup<|VU.map aQ)<|Z<|aN W):=j;clear j C;generalize (.tup (F.map aQ):ab)=b at *;generalize (.tup (VU.map aQ):ab)=d at *;have bs:dg 1 [2] (dn<|ag 0) (br 0) d8 (G.BH e f VG) (cB E b y (Z<|aT aE) Y Y Y)=Z (aN<|E.map<|a_ y,cB E b y (Z<|aT aE) Y Y Y):=by
  rw[<-AK];refine kQ (z:=E.map ai) (m:=Z (0,aN E)) (VK:=[Z .dS,Z<|.im b,Z<|d4 y,Z<|aT aE,Y,Y,Y]) rfl (jn ai (λn=>ai<|a_ y n) _ (λn S=>?_) ⋯) rfl;refine⟨[Z (.im<|ai n),Z<|d4 y],_,[Z (.im<|ai n),Z<|d4 y],rfl,rfl,?_,rfl⟩;exact c5 (VV:=[.a6 1,.a6 0]) rfl rfl rfl (wa y n) rfl
 have bv:dg 1 [2] (dn<|aa<|bf 2 (G.k_ VG)<|aj (ag 3)<|aj (ag 1) ay) (br 0) d8 (G.Dz e f VG) (cB E b y (Z<|aT aE) (Z<|aN cs) (Z<|.im d) Y)=Z (aN<|u.map<|df y,cB E b y (Z<|aT aE) (Z<|aN cs) (Z<|.im d) Y):=by
  rw[<-AK];refine kQ (z:=u.map ai) (m:=Y) (VK:=cB E b y (Z<|aT aE) (Z<|aN cs) (Z<|.im d) Y) (yH (c5 (VV:=[.a6 3,.a6 1]) rfl rfl rfl J rfl) rfl) (jn ai (λn=>ai<|df y n) _ (λn S=>?_) ⋯) rfl;refine⟨[Z (.im<|ai n),Z<|d4 y],_,[Z (.im<|ai n),Z<|d4 y],rfl,rfl,?_,rfl⟩;exact c5 (VV:=[.a6 1,.a6 0]) rfl rfl rfl (GA y n) rfl
 have v:∀a,bf 1 G.ig (aj (ag 4) ay) (cB E b y (Z<|aT aE) (Z<|aN cs) (Z<|.im d) a)=Z (aT i,cB E b y (Z<|aT aE) (Z<|aN cs) (Z<|.im d) a):=λa=>c5 (VV:=[.a6 4]) rfl rfl rfl hQ rfl;have V8:bJ (av gj (aa<|bf 1 G.mj<|aj (aa<|bf 1 G.ig<|aj (ag 4) ay) ay)<|aa<|bV iH<|aj (ag 4) ay) (cB E b y (Z<|aT aE) (Z<|aN cs) (Z<|.im d) Y)=Z (aq,cB E b y (Z<|aT aE) (Z<|aN cs) (Z<|.im d) Y):=
  eD (b7 (aZ<|c5 (VV:=[.cA (aT i)]) (bX (aZ<|v Y) rfl) rfl rfl be rfl) (aZ<|er (bX rfl rfl) rfl rfl) rfl rfl ne);have Wd:bJ (av (wN V) (aa<|bf 2 (G.qr e f)<|aj (aa<|bf 1 G.ig<|aj (ag 4) ay)<|aj (ag 5) ay)<|aa<|au<|.aF V) (cB E b y (Z<|aT aE) (Z<|aN cs) (Z<|.im d) Y)=Z (aq,cB E b y (Z<|aT aE) (Z<|aN cs) (Z<|.im d) Y):=
  eD (b7 (aZ<|c5 (VV:=[.cA (aT i),.a6 5]) (bX (aZ<|v Y)<|bX rfl rfl) rfl rfl al rfl) rfl rfl rfl rfl);have ca:bJ (av gj (aa<|bf 2 (G.k_ VG)<|aj (aa<|bf 1 G.ig<|aj (ag 4) ay)<|aj (ag 5) ay)<|aa<|bf 1 G.qZ<|aj (ag 6) ay) (cB E b y (Z<|aT aE) (Z<|aN cs) (Z<|.im d)<|Z<|aN W)=Z (aq,cB E b y (Z<|aT aE) (Z<|aN cs) (Z<|.im d)<|Z<|aN W):=
  eD (b7 (aZ<|c5 (VV:=[.cA (aT i),.a6 5]) (bX (aZ<|v _)<|bX rfl rfl) rfl rfl w rfl) (aZ<|c5 (VV:=[.a6 6]) rfl rfl rfl s rfl) rfl rfl A);have cd:av eN (aa<|bf 2 (G.n4 VG)<|aj (aa<|bf 1 G.ig<|aj (ag 4) ay)<|aj (ag 5) ay) (aa<|bf 2 (G.n4 VG)<|aj (ag 3)<|aj (ag 1) ay) (cB E b y (Z<|aT aE) (Z<|aN cs) (Z<|.im d)<|Z<|aN W)=Z (d9 V,cB E b y (Z<|aT aE) (Z<|aN cs) (Z<|.im d)<|Z<|aN W):=
  b7 (aZ<|c5 (VV:=[.cA (aT i),.a6 5]) (bX (aZ<|v _)<|bX rfl rfl) rfl rfl x rfl) (aZ<|c5 (VV:=[.a6 3,.a6 1]) rfl rfl rfl L rfl) rfl rfl B;unfold mG;refine ff (k:=cB E b y (Z<|aT aE) (Z<|aN cs) (Z<|.im d) (Z<|aN W)) rfl ?_ rfl;show z2 e f VG (cB E b y Y Y Y Y)=_;unfold z2;exact cW (VK:=cB E b y (Z<|aT aE) Y Y Y) (h7 (c5 (VV:=[.a6 0]) rfl rfl rfl P rfl) (gY rfl) rfl) (cW (VK:=cB E b y (Z<|aT aE) (Z<|aN cs) Y Y) (h7 (er (bX (aZ bs) rfl) rfl Q) (gY rfl) rfl)<|cW (VK:=cB E b y (Z<|aT aE) (Z<|aN cs) (Z<|.im d) Y) (h7 (c5 (VV:=[.a6 2,.a6 1]) rfl rfl rfl bm rfl) (gY rfl) rfl)<|cW (il (m_ V8 Wd) rfl)<|cW (VK:=cB E b y (Z<|aT aE) (Z<|aN cs) (Z<|.im d) (Z<|aN<|u.map<|df y)) (h7 bv (gY rfl) rfl)<|cW bn<|cW (il ca rfl)<|dY cd)
abbrev fe(l V5 a b Wt Wv:Option ak):a5:=[l,V5,a,b,Wt,Wv]
def Qd(d:nF VG){b c:ae}{E:List aw}{F:List a4}{l V5 a Wv:Option ak}(V3:dF E)(lE:fK E)(I:h4 E F):
  ∃cs VU,tv b c VG (fe l V5 a (Z<|aN E) (Z<|fh F) Wv)=Z (.aI,fe l V5 a (Z<|aN cs) (Z<|fh VU) Wv)/\dF cs/\fK cs/\h4 cs VU:=by
 have aF:=V3.len;let⟨cs,dh,e,f⟩:=Eo (y:=aq) V3;let⟨VU,g,h,i⟩:=G7 (y:=aq) I ⋯;refine⟨cs,VU,?_,V3.turn dh,f,I.turn dh h i⟩;have j:=CX d (e:=b) (f:=c) aq V3 lE I;have k:=CX d (e:=b) (f:=c) V V3 lE I;have o:dg 1 [] (dn<|ag 3) (br 0) d8 (G.xS b c VG) (fe l V5 a (Z<|aN E) (Z<|fh F) Wv)=Z (aN<|E.map<|a_ aq,fe l V5 a (Z<|aN E) (Z<|fh F) Wv):=by
  rw[<-AK];refine kQ (z:=E.map ai) (m:=Z (3,aN E)) (VK:=fe l V5 a (Z .dS) (Z<|fh F) Wv) rfl (jn ai (λn=>ai<|a_ aq n) _ (λn W=>?_) ⋯) rfl;refine⟨[Z (.im<|ai n)],_,[Z (.im<|ai n)],rfl,rfl,?_,rfl⟩;exact c5 (VV:=[.cA (d4 aq),.a6 0]) rfl rfl rfl (wa aq n) rfl
 have V8:gi (gy<|aa<|bf 3 (G.mG b c VG)<|aj (ag 3)<|aj (ag 4)<|aj (aa<|au<|.int 0) ay) (fe l V5 a (Z<|aN E) (Z<|fh F) Wv)=Z (aq,fe l V5 a (Z<|aN E) (Z<|fh F) Wv):=
  lO (i7 (aZ<|c5 (VV:=[.a6 3,.a6 4,.cA<|d4 aq]) rfl rfl rfl j rfl) rfl rfl);have Wd:gi (gy<|aa<|bf 3 (G.mG b c VG)<|aj (ag 3)<|aj (ag 4)<|aj (aa<|au<|.int 1) ay) (fe l V5 a (Z<|aN E) (Z<|fh F) Wv)=Z (aq,fe l V5 a (Z<|aN E) (Z<|fh F) Wv):=
  lO (i7 (aZ<|c5 (VV:=[.a6 3,.a6 4,.cA<|d4 V]) rfl rfl rfl k rfl) rfl rfl);have p:bV eM (aj (aa<|dg 1 [] (dn<|ag 3) (br 0) d8<|G.xS b c VG) ay) (fe l V5 a (Z<|aN E) (Z<|fh F) Wv)=Z (aN cs,fe l V5 a (Z<|aN E) (Z<|fh F) Wv):=er (bX (aZ o) rfl) rfl e;have q:bf 2 G.l_ (aj (aa<|au<|.int 0)<|aj (ag 4) ay) (fe l V5 a (Z<|aN E) (Z<|fh F) Wv)=Z (fh VU,fe l V5 a (Z<|aN E) (Z<|fh F) Wv):=c5 (VV:=[.cA (d4 aq),.a6 4]) rfl rfl rfl g rfl;unfold tv;exact cW (il (m_ V8 Wd) rfl) (DY (di (cC p)<|di (cC q) rfl) rfl (gY rfl) (gY rfl) rfl)
def SN(y:nF VG){V2:List Int}{q:Int}{g i:ae}{r s Wt Wv:Option ak}(B:0<=q)(D:q<1000):
  ∃Wo G H a,tZ g i VG (fe (Z<|.dE<|V2.map .int) (Z<|aL q) r s Wt Wv)=Z (.aI,fe (Z<|.dE<|V2.map .int) (Z<|aL q) Wo G H a):=by
 let⟨e,J,j⟩:=JV (V2:=V2) B D;let⟨A,E,L,VL,V3,lE⟩:=Rg (w:=999000) j;let⟨C,F,aM,o,M,V0,t,hy,u,x⟩:=Ol (w:=998900) V3 VL;have I:=Mu V3 t hy u x;let⟨p,rfl⟩:=j.lst;let⟨N,rfl⟩:=VL.lst;let⟨n,rfl⟩:=V0.lst;clear hy x t u;let⟨VW,O,cs,VU,a,rfl,W⟩:=z1 (Wh:=br 5) (d:=tv g i VG) (z:=iD 0 3) (λb k=>∃cs VU a,k=fe (Z<|.dE<|V2.map .int) (Z<|aL q) (Z<|.lst n) (Z<|aN cs) (Z<|fh VU) a/\dF cs/\fK cs/\h4 cs VU) (k:=fe (Z<|.dE<|V2.map .int) (Z<|aL q) (Z<|.lst n) (Z<|aN E) (Z<|fh F) Wv)
  ⟨_,_,_,rfl,V3,lE,I⟩ (λb f k T P=>by
   let⟨cs,VU,a,rfl,aG,Q,h⟩:=P;let⟨U,al,c,R,S,VE⟩:=Qd y (b:=g) (c:=i) (l:=Z (.dE<|V2.map .int)) (V5:=Z (aL q)) (a:=Z (.lst n)) (Wv:=Z (.im f)) aG Q h;exact⟨_,_,_,rfl,c,.inl rfl,_,_,_,rfl,R,S,VE⟩)
 unfold tZ;exact⟨_,_,_,_,cW (VK:=fe (Z<|.dE<|V2.map .int) (Z<|aL q) (Z<|.lst p) s Wt Wv) (h7 (c5 (VV:=[.a6 0,.a6 1]) rfl rfl rfl J rfl) (gY rfl) rfl) (cW (VK:=fe (Z<|.dE<|V2.map .int) (Z<|aL q) (Z<|.lst N) (Z<|aN E) Wt Wv) (h7 (c5 (VV:=[.a6 2]) rfl rfl rfl L rfl) (gY rfl) rfl) (cW (VK:=fe (Z<|.dE<|V2.map .int) (Z<|aL q) (Z<|.lst n) (Z<|aN E) (Z<|fh F) Wv) (h7 (c5 (VV:=[.a6 2,.a6 3]) rfl rfl rfl M rfl) (gY rfl) rfl) (jC (m:=Y) (zX (v:=3) (di rfl rfl) rfl ⟨⋯,⋯⟩) O rfl)))⟩
def Uq(g h:ae)(j:nF VG)(V2:List Int)(v:V2.length<100000):∃i,r0 g h VG [.dE (V2.map .int)]=Z (.im<|.aF V,i):=by
 obtain⟨w,l,WY,x⟩:∃w:Int,bV rf (aj (aa<|au<|.int 1)<|aj (aa<|bV sA<|aj (aa<|au<|.int 6)<|aj (aa<|bV eO<|aj (ag 0) ay) ay) ay) (fe (Z<|.dE<|V2.map .int) Y Y Y Y Y)=Z (aL w,fe (Z<|.dE<|V2.map .int) Y Y Y Y Y)/\0<=w/\w<=6:=by
  refine⟨_,er (bX rfl<|bX (aZ<|er (bX rfl<|bX (aZ<|er (bX rfl rfl) rfl rfl) rfl) rfl rfl) rfl) rfl rfl,?_,?_⟩
  ·split<;>split<;>lia
  ·split<;>split<;>lia
 let⟨VW,n,o,a,e,Wt,Wv,rfl⟩:=z1 (Wh:=br 1) (d:=tZ g h VG) (z:=iD 0 w.toNat) (λb k=>∃V5 a e Wt Wv,k=fe (Z<|.dE<|V2.map .int) V5 a e Wt Wv) (k:=fe (Z<|.dE<|V2.map .int) Y Y Y Y Y)
  ⟨_,_,_,_,_,rfl⟩ (λb f k p r=>by
   let⟨V5,a,e,Wt,Wv,rfl⟩:=r;let⟨VF,rfl⟩:=Lg p;let⟨Wo,s,t,u,c⟩:=SN j (V2:=V2) (q:=0+(b:Int)) (g:=g) (i:=h) (r:=a) (s:=e) (Wt:=Wt) (Wv:=Wv) ⋯ ⋯;exact⟨_,_,_,rfl,c,.inl rfl,_,Wo,s,t,u,rfl⟩)
 refine⟨_,ff (k:=fe (Z<|.dE<|V2.map .int) o a e Wt Wv) rfl ?_ rfl⟩;show yU g h VG (fe (Z<|.dE<|V2.map .int) Y Y Y Y Y)=_;unfold yU;exact cW (jC (m:=Y) (zX (bX (aZ l) rfl) rfl ⟨⋯,⋯⟩) n rfl) (dY rfl)
end G
namespace L2
end L2
set_option maxHeartbeats 4000000
namespace K44
open L2 PyProof.Rows
variable{N:ae}{n:eh}{q:Nat}{P:bE}
def dc(b:Nat):bC:=(PySem.Challenge.pw_mowfloor_k44_whole_rings_mirrored.main.body.getD b (.Pass ⟨0,0,0,0⟩))
structure dM(aB:aD->Option af):Prop where
 rv:aB "all" = Y
 Og:aB "bool" = Y
 G9:aB "dict" = Y
 CT:aB "int" = Y
 qD:aB "isinstance" = Y
 hV:aB "len" = Y
 Sf:aB "list" = Y
 BM:aB "max" = Y
 vj:aB "min" = Y
 xV:aB "range" = Y
 kD:aB "sorted" = Y
 Mr:aB "sum" = Y
 i2:aB "tuple" = Y
 u1:aB "zip" = Y
 FQ:∃I,aB "GREATEST" = Z (.int 30 I)
 l4:∃I,aB "SIDE" = Z (.int 2 I)
def r1:fR "all" = Z (.builtin "all"):=by decide +kernel
def RS:fR "bool" = Z (.type "bool"):=by decide +kernel
def Gy:fR "dict" = Z (.type "dict"):=by decide +kernel
def Im:fR "int" = Z (.type "int"):=by decide +kernel
def pX:fR "isinstance" = Z (.builtin "isinstance"):=by decide +kernel
def hL:fR "len" = Z (.builtin "len"):=by decide +kernel
def Ph:fR "list" = Z (.type "list"):=by decide +kernel
def Bk:fR "max" = Z (.builtin "max"):=by decide +kernel
def ua:fR "min" = Z (.builtin "min"):=by decide +kernel
def kl:fR "sorted" = Z (.builtin "sorted"):=by decide +kernel
def QP:fR "sum" = Z (.builtin "sum"):=by decide +kernel
def i1:fR "tuple" = Z (.type "tuple"):=by decide +kernel
def ct(a:ep q P):P.units+20<b9:=by have:=a.un;omega
def CB(a:ep q P):P.units+30<b9:=by have:=a.un;omega
abbrev x8:bC:=dc 2
abbrev LA:List aD:=["thing"]
abbrev x3:bC:=dc 3
abbrev Ub:List aD:=["thing"]
abbrev ot:bC:=dc 4
abbrev M_:List aD:=["thing"]
abbrev mY:bC:=dc 5
abbrev NO:List aD:=["thing"]
abbrev uZ:bC:=dc 6
abbrev Ni:List aD:=["thing","is_kind"]
abbrev uN:bC:=dc 6
abbrev S6:List aD:=["thing","is_kind"]
abbrev za:bC:=dc 7
abbrev Sh:List aD:=["one","other"]
abbrev px:bC:=dc 8
abbrev TF:List aD:=["things","found","thing"]
abbrev yS:bC:=dc 9
abbrev JX:List aD:=["cell","row","column"]
abbrev v5:bC:=dc 10
abbrev UR:List aD:=["free","start","found","waiting","cell"]
abbrev v7:bC:=dc 16
abbrev MH:List aD:=["field","cell"]
abbrev mR:bC:=dc 17
abbrev EK:List aD:=["field","found"]
abbrev vH:bC:=dc 19
abbrev Rb:List aD:=["thing"]
abbrev tT:bC:=dc 20
abbrev OR:List aD:=["thing"]
abbrev sm:bC:=dc 22
abbrev zR:List aD:=["walk","ways"]
abbrev xB:bC:=dc 25
abbrev UU:List aD:=["cell","way","many"]
abbrev xg:bC:=dc 26
abbrev UG:List aD:=["field","tree","cell","block","ways"]
abbrev tR:bC:=dc 27
abbrev Rv:List aD:=["field","tree","walk"]
abbrev tW:bC:=dc 28
abbrev Rw:List aD:=["field","tree","walk"]
abbrev sM:bC:=dc 30
abbrev Dg:List aD:=["some","every","found","block","onward"]
abbrev zr:bC:=dc 31
abbrev KU:List aD:=["some","branches","group","block","found","branch","stays","given_up"]
abbrev wo:bC:=dc 32
abbrev R9:List aD:=["some","kept"]
abbrev wR:bC:=dc 33
abbrev S7:List aD:=["field","thing","some","every"]
abbrev yh:bC:=dc 35
abbrev SX:List aD:=["_law_script","_law_k"]
abbrev v3:bC:=dc 36
abbrev Nz:List aD:=["_law_script","_law_k","_law_cell","_law_bound","_law_seed"]
abbrev z5:bC:=dc 37
abbrev Rp:List aD:=["_law_hand_here","_law_many","_law_digit"]
abbrev tx:bC:=dc 38
abbrev JL:List aD:=["_law_hand_here","_law_many","_law_some","_law_turn","_law_row","_law_column","_law_down","_law_right_here","_law_one"]
abbrev y4:bC:=dc 39
abbrev OS:List aD:=["_law_block_here","_law_row","_law_column"]
abbrev uV:bC:=dc 40
abbrev OV:List aD:=["_law_some","_law_cells","_law_block_here"]
abbrev w4:bC:=dc 41
abbrev GY:List aD:=["_law_some","_law_pairs_here","_law_row","_law_column"]
abbrev vn:bC:=dc 42
abbrev JM:List aD:=["_law_hand_here","_law_some","_law_rest","_law_taken","_law_piece","_law_one","_law_other","_law_old","_law_new"]
abbrev wu:bC:=dc 43
abbrev O_:List aD:=["_law_way","_law_cell"]
abbrev sr:bC:=dc 44
abbrev M6:List aD:=["_law_way","_law_block_here"]
abbrev rM:bC:=dc 45
abbrev NH:List aD:=["_law_way","_law_tree_here","_law_made","_law_one","_law_other"]
abbrev u3:bC:=dc 46
abbrev Ur:List aD:=["_law_cells","_law_at"]
abbrev ru:bC:=dc 47
abbrev Jx:List aD:=["_law_some","_law_tree_here","_law_way","_law_field_here","_law_turned","_law_branches_here","_law_walk"]
abbrev AQ:bC:=dc 48
abbrev RO:List aD:=["_law_script","_law_k","_law_hand_here","_law_some","_law_tree_here","_law_turn"]
section
variable{VJ:bF}{y:bj}{R:Φ}{aB:aD->Option af}{VM:aY}
abbrev Fd(n:eh)(N:ae):Prop:=eK n 1 "is_whole" x8 N ["thing"] 1 G.p7
def N9(O:dm n.K n.aB "is_whole" x8 N ["thing"])(F:dM n.aB):Fd n N:=by
 refine dU LA O λah Wm P Wg h j VD a=>?_;exact (b8<|c7<|lR (hJ<|qC rfl F.qD pX rfl F.CT Im<|az 0)<|hJ<|sg<|U3<|hJ<|qC rfl F.qD pX rfl F.Og RS<|az 0)
abbrev y2(n:eh)(N:ae):Prop:=eK n 2 "is_pair" x3 N ["thing"] 1 G.od
def Tz(O:dm n.K n.aB "is_pair" x3 N ["thing"])(F:dM n.aB){c:ae}(b:Fd n c):y2 n N:=by
 refine dU Ub O λah Wm P Wg h j VD a=>?_;exact (b8<|c7<|lR (hJ<|qC rfl F.qD pX rfl F.i2 i1<|az 0)<|lR (hJ<|mF (kE<|ct a) (a0<|dN iI F.hV hL<|bG<|az 0) bb<|e7 _)<|lR (hJ<|cc b a<|bG<|c9 a (az 0) bb)<|hJ<|sg<|cc b a<|bG<|c9 a (az 0) bb)
abbrev Om(n:eh)(N:ae):Prop:=eK n 3 "are_two_pairs" ot N ["thing"] 1 G.nR
def RV(O:dm n.K n.aB "are_two_pairs" ot N ["thing"])(F:dM n.aB){c:ae}(b:y2 n c):Om n N:=by
 refine dU M_ O λah Wm P Wg h j VD a=>?_;exact (b8<|c7<|lR (hJ<|qC rfl F.qD pX rfl F.i2 i1<|az 0)<|lR (hJ<|mF (kE<|ct a) (a0<|dN iI F.hV hL<|bG<|az 0) bb<|e7 _)<|lR (hJ<|cc b a<|bG<|c9 a (az 0) bb)<|hJ<|sg<|cc b a<|bG<|c9 a (az 0) bb)
abbrev Ms(n:eh)(N:ae):Prop:=eK n 3 "is_cell" mY N ["thing"] 1 G.lp
def OW(O:dm n.K n.aB "is_cell" mY N ["thing"])(F:dM n.aB){b:ae}(c:y2 n b):Ms n N:=by
 refine dU NO O λah Wm P Wg h j VD a=>?_;exact (b8<|c7<|lR (hJ<|cc c a<|bG<|az 0)<|lR (hJ<|Gp nJ nJ bb (c9 a (az 0) bb)<|a0<|ki rfl F.FQ.choose_spec)<|hJ<|sg<|Gp nJ nJ bb (c9 a (az 0) bb)<|a0<|ki rfl F.FQ.choose_spec)
def Mv(O:dm R aB "is_rising" uZ N ["thing","is_kind"])(F:dM aB){b:ae}(d:cP VJ y R aB VM 3 "is_cell" mY b ["thing"] 1 G.lp):
  cP VJ y R aB VM 4 "is_rising" uZ N ["thing","is_kind"] 2 (G.sJ b):=by
 refine dU Ni O λah Wm P Wg h j VD c=>?_;exact (b1 (gL (hZ.nQ<|pF (mh<|lI<|a0<|qC rfl F.qD pX rfl F.i2 i1<|az 0)<|qo<|mh<|lI<|a0<|dN (rC rfl) F.rv r1<|bG<|a0<|jO ["part"] [1] (gc<|az 0) (λa=>(fT 0))<|λa=>(F7 d c (ec 1)<|bG<|az 0)) (b8<|c7 jh) gK)<|b8<|c7<|dN (rC rfl) F.rv r1<|bG<|a0<|jO ["ahead" ,"behind"] [] (Dx rfl F.u1<|bZ (az 0)<|a0<|oQ (az 0) (n8 ie) oo) (λa=>(jU (fT 0)<|fT 1))<|λa=>(mF (Eb<|ct c) (az 0) (az 1)<|e7 _))
def Px(O:dm R aB "is_rising" uN N ["thing","is_kind"])(F:dM aB){b:ae}(d:cP VJ y R aB VM 3 "are_two_pairs" ot b ["thing"] 1 G.nR):
  cP VJ y R aB VM 4 "is_rising" uN N ["thing","is_kind"] 2 (G.pz b):=by
 refine dU S6 O λah Wm P Wg h j VD c=>?_;exact (b1 (gL (hZ.nQ<|pF (mh<|lI<|a0<|qC rfl F.qD pX rfl F.i2 i1<|az 0)<|qo<|mh<|lI<|a0<|dN (rC rfl) F.rv r1<|bG<|a0<|jO ["part"] [1] (gc<|az 0) (λa=>(fT 0))<|λa=>(F7 d c (ec 1)<|bG<|az 0)) (b8<|c7 jh) gK)<|b8<|c7<|dN (rC rfl) F.rv r1<|bG<|a0<|jO ["ahead" ,"behind"] [] (Dx rfl F.u1<|bZ (az 0)<|a0<|oQ (az 0) (n8 ie) oo) (λa=>(jU (fT 0)<|fT 1))<|λa=>(mF (Eb<|ct c) (az 0) (az 1)<|e7 _))
abbrev D_(n:eh)(N:ae):Prop:=eK n 1 "lesser_first" za N ["one","other"] 2 G.r6
def QQ(O:dm n.K n.aB "lesser_first" za N ["one","other"])(F:dM n.aB):D_ n N:=by
 refine dU Sh O λah Wm P Wg h j VD a=>?_;exact (b8 (c7 (jo (by exact (bZ (a0<|dN (MG rfl<|ct a) F.vj ua<|bZ (az 0)<|az 1)<|a0<|dN (Lf rfl<|ct a) F.BM Bk<|bZ (az 0)<|az 1)))))
abbrev AR(n:eh)(N:ae):Prop:=eK n 1 "lookup" px N ["things"] 1 G.hz
def Kh(O:dm n.K n.aB "lookup" px N ["things"])(F:dM n.aB):AR n N:=by
 refine dU TF O λah Wm P Wg h j VD a=>?_;exact (b1 (d5 1 ah Es) (b1 (kv (Ww:=[0]) iz rfl (gc<|az 0) (gf 2 ah) (b8<|jw jh<|o_ (ec 1) (iM<|ec 2)<|tG<|ct a) ∅ (o7 ∅))<|b8<|c7<|iM<|ec 1))
abbrev Jc(n:eh)(N:ae):Prop:=eK n 1 "around" yS N ["cell"] 1 G.xq
def Nr(O:dm n.K n.aB "around" yS N ["cell"])(F:dM n.aB):Jc n N:=by
 refine dU JX O λah Wm P Wg h j VD a=>?_;exact (b1 (d5 1 ah<|lG a (az 0) bb) (b1 (d5 2 ah<|lG a (az 0) bb) (b8 (c7 (hc (by exact (nr (gB (by exact (bZ (cK jB (az 1) bb)<|az 2))) (by exact (j9 (gB (by exact (bZ (az 1)<|cK jB (az 2) bb))) (gB (by exact (bZ (az 1)<|cK fS (az 2) bb))) (gB (by exact (bZ (cK fS (az 1) bb)<|az 2))))))))))))
abbrev N4(n:eh)(N:ae):Prop:=eK n 2 "reached" v5 N ["free","start"] 2 G.ph
def LH(O:dm n.K n.aB "reached" v5 N ["free","start"])(F:dM n.aB){b:ae}(c:Jc n b):N4 n N:=by
 refine dU UR O λah Wm P Wg h j VD a=>?_;exact (b1 (d5 2 ah<|Ou (ct a) (iM<|ec 1) jh) (b1 (d5 3 ah (hc (by exact (bG<|az 1)))) (b1 (Am 1000000 iz (lI<|az 3) (b8 (kv (Ww:=[0,1]) iz rfl (gc<|a0<|cc c a<|bG<|a0<|Iy ju jF EA H8 Sy<|ec 3) (gf 4 ah) (b8<|gL (hZ.nQ<|vJ (ft (rA<|ct a) (az 4) (az 0) rfl)<|B9<|ft (F6<|ct a) (az 4) (az 2) rfl) (b1 (jw jh<|o_ (ec 2) (iM<|ec 4)<|tG<|ct a)<|b8<|kV<|lC ju jF q9 qM rb (ec 3)<|bG<|az 4) gK) ∅ TN)))<|b8<|c7<|i6 k0 rfl F.i2 i1<|bG<|a0<|dN (km rfl<|ct a) F.kD kl<|bG<|az 2)))
abbrev zp(n:eh)(N:ae):Prop:=eK n 1 "block_of" v7 N ["field","cell"] 2 G.oM
def QO(O:dm n.K n.aB "block_of" v7 N ["field","cell"])(F:dM n.aB):zp n N:=by
 refine dU MH O λah Wm P Wg h j VD a=>?_;exact (b8 (c7 (jo (by exact (bZ (cK jB (c9 a (az 1) bb)<|cK ma (cK jB (c9 a (az 1) bb)<|c9 a (c9 a (az 0) bb) bb)<|a0<|ki rfl F.l4.choose_spec)<|cK jB (c9 a (az 1) bb)<|cK ma (cK jB (c9 a (az 1) bb)<|c9 a (c9 a (az 0) bb) bb)<|a0<|ki rfl F.l4.choose_spec)))))
def MD:kU EK ["field"] (dZ mR):=CL
abbrev KO(n:eh)(N:ae):Prop:=eK n 2 "blocks" mR N ["field"] 1 G.mj
def Li(O:dm n.K n.aB "blocks" mR N ["field"])(F:dM n.aB){b:ae}(c:AR n b){d:ae}(e:zp n d):KO n N:=by
 refine dU EK O λah Wm P Wg h j VD a=>?_;exact (b1 (d5 1 ah<|cc c a<|bG<|a0<|jO ["cell"] [0] (gc<|az 0) (λf=>(fT 0))<|λf=>(cc e a<|bZ (az 1)<|az 0))<|b1 (gL (ft (nE<|ct a) (a0<|dN iI F.hV hL<|bG<|az 0) (cK hP (cK hP (a0<|dN IA F.hV hL<|bG<|az 1)<|a0<|ki rfl F.l4.choose_spec)<|a0<|ki rfl F.l4.choose_spec)<|e7 _) (b8 TO) gK)<|b8<|c7<|i6 k0 rfl F.i2 i1<|bG<|a0<|dN (km rfl<|ct a) F.kD kl<|bG<|az 1)
def J_(O:dm R aB "blocks" mR N ["field"])(F:dM aB){d:ae}(e:cP VJ y R aB VM 1 "lookup" px d ["things"] 1 G.hz){f:ae}(g:cP VJ y R aB VM 1 "block_of" v7 f ["field","cell"] 2 G.oM){b:ae}(c:zl R aB "NoBlocks" b):
  wk VJ y R aB VM 2 "blocks" mR N ["field"] 1 (pI 1 2 G.uS) b:=by
 refine OT (V4:=[]) O MD rfl λah Wm P Wg h j VD a=>?_;exact (RK (d5 1 ah<|cc e a<|bG<|a0<|jO ["cell"] [0] (gc<|az 0) (λl=>(fT 0))<|λl=>(cc g a<|bZ (az 1)<|az 0))<|LR (ft (nE<|ct a) (a0<|dN iI F.hV hL<|bG<|az 0) (cK hP (cK hP (a0<|dN IA F.hV hL<|bG<|az 1)<|a0<|ki rfl F.l4.choose_spec)<|a0<|ki rfl F.l4.choose_spec)<|e7 _)<|JZ rfl rfl c.1 c.2<|λk x j i=>LX k x j i)
def O9(O:dm R aB "is_floor" vH N ["thing"])(F:dM aB){a:ae}(b:cP VJ y R aB VM 3 "is_cell" mY a ["thing"] 1 G.lp){c:ae}(d:cP VJ y R aB VM 4 "is_rising" uZ c ["thing","is_kind"] 2 (G.sJ a)):
  cP VJ y R aB VM 5 "is_floor" vH N ["thing"] 1 (G.p8 a):=by
 refine dU Rb O λah Wm P Wg h j VD e=>?_;exact (b8<|c7<|cc d e<|bZ (az 0)<|a0<|y6 rfl b.m)
def Oi(O:dm R aB "is_field" tT N ["thing"])(F:dM aB){b:ae}(k:cP VJ y R aB VM 3 "is_cell" mY b ["thing"] 1 G.lp){c:ae}(d:cP VJ y R aB VM 5 "is_floor" vH c ["thing"] 1 (G.p8 b)){e:ae}(f:cP VJ y R aB VM 2 "reached" v5 e ["free","start"] 2 G.ph){g:ae}(i:cP VJ y R aB VM 1 "lookup" px g ["things"] 1 G.hz):
  cP VJ y R aB VM 6 "is_field" tT N ["thing"] 1 (G.pe b):=by
 refine dU OR O λah Wm P Wg h j VD a=>?_;exact (b1 (gL (hZ.nQ<|pF (mh<|lI<|a0<|cc d a<|bG<|az 0)<|qo<|ft (kE<|ct a) (a0<|dN iI F.hV hL<|bG<|az 0) bb<|e7 _) (b8<|c7 jh) gK)<|b8<|c7<|mF (kE<|ct a) (a0<|dN iI F.hV hL<|bG<|a0<|cc f a<|bZ (a0<|cc i a<|bG<|az 0)<|c9 a (az 0) bb) (a0<|dN iI F.hV hL<|bG<|az 0)<|e7 _)
abbrev Fg(n:eh)(N:ae):Prop:=eK n 1 "turns" sm N ["walk"] 1 G.vN
def Mp(O:dm n.K n.aB "turns" sm N ["walk"])(F:dM n.aB):Fg n N:=by
 refine dU zR O λah Wm P Wg h j VD a=>?_;exact (b1 (GW (b:=1) (own:=["ahead" ,"behind"]) (Wi:=[]) ah rfl (Or.inl rfl) rfl (pW (dZ sm) zR (by decide +kernel)) ∅ (Gm rfl F.u1<|bZ (az 0)<|a0<|GZ<|BD<|oQ (az 0) (n8 ie) oo) (λc=>(jU (fT 0)<|fT 1)) (λc=>xx) (λc=>(jo (by exact (bZ (cK jB (c9 a (az 1) bb)<|c9 a (az 0) bb)<|cK jB (c9 a (az 1) bb)<|c9 a (az 0) bb)))) ∅) (b8 (c7 (dN (Uw rfl) F.Mr QP (bG (a0 (wF (own:=["ahead" ,"behind"]) (Wi:=[]) rfl (pW (dZ sm) zR (by decide +kernel)) ∅ (Gm rfl F.u1<|bZ (az 1)<|a0<|GZ<|BD<|oQ (az 1) (n8 ie) oo) (λc=>(jU (fT 0)<|fT 1)) (λc=>(zF<|ft (nE<|ct a) (az 0) (az 1)<|e7 _))<|λc=>ie)))))))
abbrev EG(n:eh)(VG:dQ)(N:ae):Prop:=eK n 1 "moved" xB N ["cell","way","many"] 3 (G.me VG)
def KD(O:dm n.K n.aB "moved" xB N ["cell","way","many"])(F:dM n.aB){VG:dQ}(de:lB n.K n.P n.w VG.kt VG.cD)(b:n.aB "WAYS" = Z (.ref VG.gI)):EG n VG N:=by
 refine dU UU O λah Wm P Wg h j VD a=>?_;exact (b8 (c7 (jo (by exact (bZ (cK fS (a0<|jt (jM (ct a) de) (az 0) bb<|λ_ W=>rfl)<|cK hP (a0<|jt (jM (ct a) de) (az 1) bb<|λ_ W=>rfl)<|az 2)<|cK fS (a0<|jt (jM (ct a) de) (az 0) bb<|λ_ W=>rfl)<|cK hP (a0<|jt (jM (ct a) de) (az 1) bb<|λ_ W=>rfl)<|az 2)))))
abbrev EX(n:eh)(VG:dQ)(N:ae):Prop:=eK n 2 "next_round" xg N ["field","tree","cell"] 3 (G.qp VG)
def TJ(O:dm n.K n.aB "next_round" xg N ["field","tree","cell"])(F:dM n.aB){VG:dQ}(de:lB n.K n.P n.w VG.kt VG.cD)(c:n.aB "WAYS" = Z (.ref VG.gI)){d:ae}(e:zp n d){f:ae}(g:D_ n f){i:ae}(b:EG n VG i):EX n VG N:=by
 refine dU UG O λah Wm P Wg h j VD a=>?_;exact (b1 (d5 3 ah<|cc e a<|bZ (az 0)<|az 2) (b1 (d5 4 ah (jt (jM (ct a) de) (a0<|y6 rfl c) (gB (by exact (bZ (cK jB (a0<|jt (jM (ct a) de) (az 2) bb<|λ_ W=>rfl)<|a0<|jt (jM (ct a) de) (az 3) bb<|λ_ W=>rfl)<|cK jB (a0<|jt (jM (ct a) de) (az 2) bb<|λ_ W=>rfl)<|a0<|jt (jM (ct a) de) (az 3) bb<|λ_ W=>rfl)))<|λ_ W=>rfl))<|b1 (gL (ft (rA<|ct a) (a0<|cc g a<|bZ (az 3)<|a0<|cc b a<|j9 (az 3) (a0<|jt (jM (ct a) de) (az 4) bb<|λ_ W=>rfl)<|a0<|ki rfl F.l4.choose_spec) (az 1) rfl) (b8<|c7<|cc b a<|j9 (az 2) (a0<|jt (jM (ct a) de) (az 4) bb<|λ_ W=>rfl) bb) gK)<|b8<|c7<|cc b a<|j9 (az 2) (a0<|jt (jM (ct a) de) (az 4) bb<|λ_ W=>rfl) bb))
abbrev Hs(n:eh)(VG:dQ)(N:ae):Prop:=eK n 3 "ring" tR N ["field","tree"] 2 (G.k_ VG)
def Od(O:dm n.K n.aB "ring" tR N ["field","tree"])(F:dM n.aB){VG:dQ}(de:lB n.K n.P n.w VG.kt VG.cD)(d:n.aB "WAYS" = Z (.ref VG.gI)){b:ae}(c:EX n VG b):Hs n VG N:=by
 refine dU Rv O λah Wm P Wg h j VD a=>?_;exact (b1 (d5 2 ah (hc (by exact (bG<|c9 a (az 0) bb))))<|b1 (Am 1000000 iz (ft zj (a0<|dN iI F.hV hL<|bG<|az 2) (a0<|dN iI F.hV hL<|bG<|az 0)<|e7 _)<|b8<|kV<|lC ju jF q9 qM rb (ec 2)<|bG<|a0<|cc c a<|j9 (az 0) (az 1)<|c9 a (az 2)<|a0<|vK ie)<|b8<|c7<|i6 k0 rfl F.i2 i1<|bG<|az 2)
abbrev Pj(n:eh)(VG:dQ)(N:ae):Prop:=eK n 4 "ring_turns" tW N ["field","tree"] 2 (G.n4 VG)
def Nq(O:dm n.K n.aB "ring_turns" tW N ["field","tree"])(F:dM n.aB){VG:dQ}(de:lB n.K n.P n.w VG.kt VG.cD)(f:n.aB "WAYS" = Z (.ref VG.gI)){b:ae}(c:Hs n VG b){d:ae}(e:Fg n d):Pj n VG N:=by
 refine dU Rw O λah Wm P Wg h j VD a=>?_;exact (b1 (d5 2 ah<|cc c a<|bZ (az 0)<|az 1)<|b8<|c7<|cc e a<|bG<|cK fS (az 2)<|a0<|oQ (az 2) oo<|n8 ie)
abbrev Jq(n:eh)(N:ae):Prop:=eK n 2 "all_branches" sM N ["some"] 1 G.pL
def Sk(O:dm n.K n.aB "all_branches" sM N ["some"])(F:dM n.aB){d:ae}(e:AR n d):Jq n N:=by
 refine dU Dg O λah Wm P Wg h j VD a=>?_;exact (b1 (sj (b:=1) ah rfl (Or.inr rfl) (cc e a<|bG<|az 0) ∅) (b1 (d5 2 ah (hc (by exact l2))) (b1 (kv (Ww:=[0]) iz rfl (gc<|az 0) (oc (b:=3) ah rfl (Or.inr rfl) ∅) (b1 (d5 4 ah (hc (by exact (bZ (gB (by exact (bZ (c9 a (az 3) bb)<|cK fS (c9 a (az 3) bb)<|a0<|ki rfl F.l4.choose_spec))) (gB (by exact (bZ (cK fS (c9 a (az 3) bb)<|a0<|ki rfl F.l4.choose_spec)<|c9 a (az 3) bb))))))) (b8 (kV (lC ju jF yM yL zH (ec 2) (bG (a0 (wF (own:=["other"]) (Wi:=[1,3]) rfl (pW (dZ sM) Dg (by decide +kernel)) ∅ (gc<|az 4) (λc=>(fT 0)) (λc=>(zF<|ft (rA<|ct a) (az 0) (az 1) rfl)) (λc=>(jo (by exact (bZ (az 2)<|az 0))))))))))) ∅ (o7 ∅))<|b8<|c7<|iM<|ec 2)))
abbrev EN(n:eh)(N:ae):Prop:=eK n 1 "joining" zr N ["some","branches"] 2 G.vW
def NV(O:dm n.K n.aB "joining" zr N ["some","branches"])(F:dM n.aB):EN n N:=by
 refine dU KU O λah Wm P Wg h j VD a=>?_;exact (b1 (d5 2 ah Es) (b1 (kv (Ww:=[0,1]) iz rfl (gc<|az 0) (gf 3 ah) (b8<|jw (iM<|ec 3)<|o_ (ec 2) (iM<|ec 3)<|tG<|ct a) ∅ (o7 ∅)) (b1 (d5 4 ah (hc (by exact l2))) (b1 (kv (Ww:=[0,1]) iz rfl (gc<|az 1) (gf 5 ah) (b1 (d5 6 ah<|lG a (az 2)<|c9 a (az 5) bb) (b1 (d5 7 ah<|lG a (az 2)<|c9 a (az 5) bb) (b8 (gL (ft (nE<|ct a) (az 6) (az 7)<|e7 _) (b1 (kV<|lC ju jF q9 qM rb (ec 4)<|bG<|az 5) (b8 (kv (Ww:=[0,1]) iz rfl (gc<|az 0) (gf 3 ah) (b8<|gL (ft (kE<|ct a) (c9 a (az 2)<|az 3) (az 7)<|e7 _) (b8<|jw (iM<|ec 6)<|o_ (ec 2) (iM<|ec 3)<|tG<|ct a) gK) ∅ (o7 ∅)))) gK)))) ∅ (o7 ∅))<|b8<|c7<|i6 k0 rfl F.i2 i1<|bG<|a0<|dN (km rfl<|ct a) F.kD kl<|bG<|az 4))))
abbrev K0(n:eh)(N:ae):Prop:=eK n 3 "full_tree" wo N ["some","kept"] 2 G.pU
def MU(O:dm n.K n.aB "full_tree" wo N ["some","kept"])(F:dM n.aB){b:ae}(c:EN n b){d:ae}(e:Jq n d):K0 n N:=by
 refine dU R9 O λah Wm P Wg h j VD a=>?_;exact (b8<|c7<|cc c a<|bZ (az 0)<|cK fS (a0<|i6 Sd rfl F.Sf Ph<|bG<|az 1)<|a0<|cc e a<|bG<|az 0)
def Uj(O:dm R aB "is_tree" wR N ["field","thing"])(F:dM aB){e:ae}(I:cP VJ y R aB VM 3 "is_cell" mY e ["thing"] 1 G.lp){f:ae}(i:cP VJ y R aB VM 3 "are_two_pairs" ot f ["thing"] 1 G.nR){k:ae}(l:cP VJ y R aB VM 6 "is_field" tT k ["thing"] 1 (G.pe e)){n:ae}(p:cP VJ y R aB VM 4 "is_rising" uN n ["thing","is_kind"] 2 (G.pz f)){g:ae}(q:cP VJ y R aB VM 2 "blocks" mR g ["field"] 1 G.mj){s:ae}(t:cP VJ y R aB VM 1 "lookup" px s ["things"] 1 G.hz){u:ae}(v:cP VJ y R aB VM 2 "all_branches" sM u ["some"] 1 G.pL){w:ae}(x:cP VJ y R aB VM 3 "full_tree" wo w ["some","kept"] 2 G.pU){d:ae}(A:zl R aB "NoBlocks" d)(B:wk VJ y R aB VM 2 "blocks" mR g ["field"] 1 (pI 1 2 G.uS) d)(C:Φa R (.ref d) (.ref d)=Z V):
  cP VJ y R aB VM 7 "is_tree" wR N ["field","thing"] 2 (G.qr f e):=by
 refine dU S7 O λah Wm P Wg h j VD a=>?_;exact (b1 (gL (hZ.nQ<|pF (mh<|lI<|a0<|cc l a<|bG<|az 0)<|qo<|mh<|lI<|a0<|cc p a<|bZ (az 1)<|a0<|y6 rfl i.m) (b8<|c7 jh) gK) (b1 (NJ (r:=(zm 1 (pI 1 2 G.uS)<|aj (ag 0) ay)) (L:=(cG<|au<|.aF aq)) rfl rfl rfl rfl A.1 C (λVD o=>(b8<|d5 2 ah<|cc q a<|bG<|az 0)) (λVD o z D=>(PN (b:=2) ah rfl (Or.inl rfl)<|LO B a rfl rfl D<|bG<|az 0))<|λo c WC J=>(b8<|c7 jh)) (b1 (sj (b:=3) ah rfl (Or.inr rfl) (cc t a<|bG<|a0<|cc v a<|bG<|az 2) ∅)<|b8<|c7<|lR (hJ<|dN (rC rfl) F.rv r1<|bG<|a0<|jO ["branch"] [3] (gc<|az 1) (λE=>(fT 0))<|λE=>(mF (rA<|ct a) (az 0) (az 1) rfl))<|hJ<|sg<|mF (kE<|ct a) (a0<|cc x a<|bZ (az 2)<|az 1) (az 1)<|e7 _)))
abbrev Hk(n:eh)(N:ae):Prop:=eK n 1 "_law_cell_at" yh N ["_law_script","_law_k"] 2 G.sy
def Mf(O:dm n.K n.aB "_law_cell_at" yh N ["_law_script","_law_k"])(F:dM n.aB):Hk n N:=by
 refine dU SX O λah Wm P Wg h j VD a=>?_;exact (b1 (gL (ft zj (az 1) (a0<|dN iI F.hV hL<|bG<|az 0)<|e7 _) (b8<|c7<|lG a (az 0)<|az 1) gK)<|b8<|c7 ie)
abbrev T_(n:eh)(N:ae):Prop:=eK n 2 "_law_hand" v3 N ["_law_script","_law_k"] 2 G.rS
def JK(O:dm n.K n.aB "_law_hand" v3 N ["_law_script","_law_k"])(F:dM n.aB){a:ae}(b:Hk n a):T_ n N:=by
 refine dU Nz O λah Wm P Wg h j VD c=>?_;exact (b1 (d5 2 ah<|cc b c<|bZ (az 0)<|az 1) (b1 (d5 3 ah<|l6 hP (cK hP (cK wh bb bb)<|cK wh bb bb)<|cK wh bb bb) (b1 (d5 4 ah<|l6 ma (cK hP (cK fS (cK fS (cK ma (az 2) bb)<|cK hP (cK hP bb<|az 1)<|az 1) bb) bb) bb) (b8 (c7 (hc (by exact (j9 (cK hP (cK ma (az 2)<|az 3)<|a0<|i6 Q6 rfl F.CT Im<|bG<|a0<|mF Td (az 2) (cK wh bb bb)<|e7 _) (az 4) bb))))))))
abbrev AP(n:eh)(N:ae):Prop:=eK n 1 "_law_pick" z5 N ["_law_hand_here","_law_many"] 2 G.gp
def Ll(O:dm n.K n.aB "_law_pick" z5 N ["_law_hand_here","_law_many"])(F:dM n.aB):AP n N:=by
 refine dU Rp O λah Wm P Wg h j VD a=>?_;exact (b1 (gL (ft PL (c9 a (az 0) bb) bb<|e7 _) (b1 (d5 2 ah<|l6 ma (c9 a (az 0) bb)<|az 1)<|b1 (jw (l6 Fc (c9 a (az 0) bb)<|az 1)<|o_ (ec 0) ie<|zv<|ct a)<|b8<|c7<|iM<|ec 2) gK)<|b1 (jw (l6 fS (c9 a (az 0) bb) bb)<|o_ (ec 0) ie<|zv<|ct a)<|b1 (jw (l6 ma (cK fS (cK fS (cK hP (c9 a (az 0) bb) bb) bb)<|cK hP bb<|c9 a (az 0) bb) bb)<|o_ (ec 0) ie<|zv<|ct a)<|b8<|c7<|l6 ma (cK Fc (cK ma (cK hP (c9 a (az 0) bb)<|c9 a (az 0) bb) bb) bb)<|az 1)
abbrev OI(n:eh)(N:ae):Prop:=eK n 2 "_law_some_blocks" tx N ["_law_hand_here"] 1 G.ro
def Qf(O:dm n.K n.aB "_law_some_blocks" tx N ["_law_hand_here"])(F:dM n.aB){c:ae}(b:AP n c):OI n N:=by
 refine dU JL O λah Wm P Wg h j VD a=>?_;exact (b1 (d5 1 ah (l6 fS bb (a0 (cc b a (bZ (az 0) (c9 a (a0 (hc (by exact (nr bb (by exact (j9 bb bb bb))))))<|a0<|cc b a<|bZ (az 0) bb)))))) (b1 (d5 2 ah (hc (by exact (bG (gB (by exact (bZ (a0<|cc b a<|bZ (az 0) bb)<|a0<|cc b a<|bZ (az 0) bb))))))) (b1 (kv (Ww:=[0]) iz rfl (yr rfl F.xV<|bG<|cK hP bb<|az 1) (gf 3 ah) (b1 (jw (lG a (az 2)<|a0<|cc b a<|bZ (az 0)<|a0<|dN iI F.hV hL<|bG<|az 2)<|jU (gf 4 ah)<|gf 5 ah) (b1 (gL (ft (kE<|ct a) (a0<|cc b a<|bZ (az 0) bb) bb<|e7 _) (b8<|jw (lG a (az 2)<|a0<|vK ie)<|jU (gf 4 ah)<|gf 5 ah) gK) (b1 (jw (lG a (a0 (hc (by exact (nr (gB (by exact (bZ bb bb))) (by exact (j9 (gB (by exact (bZ bb bb))) (gB (by exact (bZ bb<|a0<|vK ie))) (gB (by exact (bZ (a0<|vK ie) bb)))))))))<|a0<|cc b a<|bZ (az 0) bb)<|jU (gf 6 ah)<|gf 7 ah) (b1 (d5 8 ah (jo (by exact (bZ (cK fS (az 4)<|az 6)<|cK fS (az 5)<|az 7))))<|b8<|gL (hZ.nQ<|vJ (ft (F6<|ct a) (az 8) (az 2) rfl)<|vJ (ft zj (a0<|dN iI F.hV hL<|bG<|az 2) (az 1)<|e7 _)<|vJ (CQ nJ nJ bb (c9 a (az 8) bb) bb)<|B9<|CQ nJ nJ bb (c9 a (az 8) bb) bb) (b8<|kV<|lC ju jF q9 qM rb (ec 2)<|bG<|az 8) gK)))) ∅ A0)<|b8<|c7<|dN (km rfl<|ct a) F.kD kl<|bG<|az 2)))
abbrev yO(n:eh)(N:ae):Prop:=eK n 1 "_law_four" y4 N ["_law_block_here"] 1 G.q2
def O8(O:dm n.K n.aB "_law_four" y4 N ["_law_block_here"])(F:dM n.aB):yO n N:=by
 refine dU OS O λah Wm P Wg h j VD a=>?_;exact (b1 (jw (iM<|ec 0)<|jU (gf 1 ah)<|gf 2 ah) (b8 (c7 (hc (by exact (nr (gB (by exact (bZ (az 1)<|az 2))) (by exact (j9 (gB (by exact (bZ (az 1)<|cK fS (az 2) bb))) (gB (by exact (bZ (cK fS (az 1) bb)<|cK fS (az 2) bb))) (gB (by exact (bZ (cK fS (az 1) bb)<|az 2)))))))))))
abbrev Uo(n:eh)(N:ae):Prop:=eK n 2 "_law_field" uV N ["_law_some"] 1 G.ig
def Ot(O:dm n.K n.aB "_law_field" uV N ["_law_some"])(F:dM n.aB){b:ae}(c:yO n b):Uo n N:=by
 refine dU OV O λah Wm P Wg h j VD a=>?_;exact (b1 (d5 1 ah (hc (by exact l2))) (b1 (kv (Ww:=[0]) iz rfl (gc<|az 0) (gf 2 ah) (b8<|kV<|lC ju jF yM yL zH (ec 1)<|bG<|a0<|cc c a<|bG<|az 2) ∅ (o7 ∅))<|b8<|c7<|i6 k0 rfl F.i2 i1<|bG<|a0<|dN (km rfl<|ct a) F.kD kl<|bG<|az 1))
abbrev Ge(n:eh)(N:ae):Prop:=eK n 1 "_law_pairs" w4 N ["_law_some"] 1 G.sl
def Mz(O:dm n.K n.aB "_law_pairs" w4 N ["_law_some"])(F:dM n.aB):Ge n N:=by
 refine dU GY O λah Wm P Wg h j VD a=>?_;exact (b1 (d5 1 ah (hc (by exact l2))) (b1 (RB (Ww:=[0]) iz rfl (az 0) (jU (oc (b:=2) ah rfl (Or.inr rfl) ∅) (oc (b:=3) ah rfl (Or.inr rfl) ∅)) (b8 (kV (lC ju jF yM yL zH (ec 1) (bG (a0 (wF (own:=["_law_one"]) (Wi:=[0,2,3]) rfl (pW (dZ w4) GY (by decide +kernel)) ∅ (gc (a0 (hc (by exact (bZ (gB (by exact (bZ (az 2)<|cK fS (az 3) bb))) (gB (by exact (bZ (cK fS (az 2) bb)<|az 3)))))))) (λc=>(fT 0)) (λc=>(zF<|ft (rA<|ct a) (az 0) (az 1) rfl)) (λc=>(jo (by exact (bZ (gB (by exact (bZ (az 2)<|az 3)))<|az 0)))))))))) ∅ ∅)<|b8<|c7<|dN (km rfl<|ct a) F.kD kl<|bG<|az 1))
abbrev Pp(n:eh)(N:ae):Prop:=eK n 2 "_law_tree" vn N ["_law_hand_here","_law_some"] 2 G.sX
def Qg(O:dm n.K n.aB "_law_tree" vn N ["_law_hand_here","_law_some"])(F:dM n.aB){d:ae}(e:Ge n d){f:ae}(g:AP n f):Pp n N:=by
 refine dU JM O λah Wm P Wg h j VD a=>?_;exact (b1 (GJ (b:=2) (v:=3) rfl ah rfl rfl ∅ rfl rfl (bZ (a0<|cc e a<|bG<|az 1) (a0 (hc (by exact l2)))) ∅ ∅ rfl) (b1 (sj (b:=4) ah rfl (Or.inr rfl) (i6 (HS rfl<|CB a) rfl F.G9 Gy (bG (a0 (jO ["_law_block_here"] [] (gc<|az 1) (λc=>(fT 0)) (λc=>(jo (by exact (bZ (az 0)<|az 0)))))))) ∅) (b1 (Am 1000000 iz (ft (nE<|ct a) (az 2) (a0 (hc (by exact l2)))<|e7 _) (b1 (jw (lC ju jF EA H8 Q0 (ec 2)<|bG<|a0<|cc g a<|bZ (az 0)<|a0<|dN iI F.hV hL<|bG<|az 2)<|jU (gf 5 ah)<|gf 6 ah) (b8 (gL (ft (nE<|ct a) (c9 a (az 4)<|az 5) (c9 a (az 4)<|az 6)<|e7 _) (b1 (kV (lC ju jF q9 qM rb (ec 3) (bG (gB (by exact (bZ (az 5)<|az 6)))))) (b1 (jw (jo (by exact (bZ (c9 a (az 4)<|az 5)<|c9 a (az 4)<|az 6))) (jU (oc (b:=7) ah rfl (Or.inr rfl) ∅) (oc (b:=8) ah rfl (Or.inr rfl) ∅))) (b8 (sj (b:=4) ah rfl (Or.inr rfl) (i6 (HS rfl<|CB a) rfl F.G9 Gy (bG (a0 (jO ["_law_block_here"] [4,7,8] (gc<|az 1) (λc=>(fT 0)) (λc=>(jo (by exact (bZ (az 0)<|a0<|Pz (ft (kE<|ct a) (c9 a (az 1)<|az 0) (az 2)<|e7 _) (iM<|ec 3)<|lG a (az 1)<|az 0)))))))) ∅)))) gK))))<|b8<|c7<|i6 k0 rfl F.i2 i1<|bG<|a0<|dN (km rfl<|ct a) F.kD kl<|bG<|az 3)))
abbrev Cv(n:eh)(N:ae):Prop:=eK n 1 "_law_other_way" wu N ["_law_way","_law_cell"] 2 G.qn
def Q_(O:dm n.K n.aB "_law_other_way" wu N ["_law_way","_law_cell"])(F:dM n.aB):Cv n N:=by
 refine dU O_ O λah Wm P Wg h j VD a=>?_;exact (b1 (gL (ft (kE<|ct a) (az 0) bb<|e7 _) (b8 (c7 (jo (by exact (bZ (c9 a (az 1) bb)<|cK jB bb<|c9 a (az 1) bb))))) gK) (b8 (c7 (jo (by exact (bZ (c9 a (az 1) bb)<|cK jB bb<|c9 a (az 1) bb))))))
abbrev Jg(n:eh)(N:ae):Prop:=eK n 2 "_law_block" sr N ["_law_way","_law_block_here"] 2 G.l0
def To(O:dm n.K n.aB "_law_block" sr N ["_law_way","_law_block_here"])(F:dM n.aB){b:ae}(c:yO n b){d:ae}(e:Cv n d):Jg n N:=by
 refine dU M6 O λah Wm P Wg h j VD a=>?_;exact (b8<|c7<|dN (IG rfl<|ct a) F.vj ua<|bG<|a0<|jO ["_law_cell"] [0] (gc<|a0<|cc c a<|bG<|az 1) (λf=>(fT 0))<|λf=>(cc e a<|bZ (az 1)<|az 0))
abbrev Kz(n:eh)(N:ae):Prop:=eK n 3 "_law_branches" rM N ["_law_way","_law_tree_here"] 2 G.l_
def PG(O:dm n.K n.aB "_law_branches" rM N ["_law_way","_law_tree_here"])(F:dM n.aB){c:ae}(b:Jg n c):Kz n N:=by
 refine dU NH O λah Wm P Wg h j VD a=>?_;exact (b1 (d5 2 ah (hc (by exact l2))) (b1 (kv (Ww:=[0,1]) iz rfl (gc<|az 1) (jU (gf 3 ah)<|gf 4 ah) (b8 (kV (lC ju jF q9 qM rb (ec 2) (bG (a0 (i6 k0 rfl F.i2 i1 (bG (a0 (dN (km rfl<|ct a) F.kD kl (bG (a0 (hc (by exact (bZ (a0<|cc b a<|bZ (az 0)<|az 3)<|a0<|cc b a<|bZ (az 0)<|az 4)))))))))))))) ∅ (o7 ∅))<|b8<|c7<|i6 k0 rfl F.i2 i1<|bG<|a0<|dN (km rfl<|ct a) F.kD kl<|bG<|az 2))
abbrev J8(n:eh)(N:ae):Prop:=eK n 1 "_law_begun" u3 N ["_law_cells"] 1 G.qZ
def Qu(O:dm n.K n.aB "_law_begun" u3 N ["_law_cells"])(F:dM n.aB):J8 n N:=by
 refine dU Ur O λah Wm P Wg h j VD a=>?_;exact (b1 (d5 1 ah<|SW (ct a) (az 0)<|a0<|dN (IG rfl<|ct a) F.vj ua<|bG<|az 0)<|b8<|c7<|i6 k0 rfl F.i2 i1<|bG<|cK fS (a0<|oQ (az 0) (n8<|iM<|ec 1) oo)<|a0<|oQ (az 0) oo<|n8<|iM<|ec 1)
def OJ(O:dm R aB "_law_right" ru N ["_law_some","_law_tree_here","_law_way"])(F:dM aB){VG:dQ}(de:lB R VJ y VG.kt VG.cD)(A:aB "WAYS" = Z (.ref VG.gI)){e:ae}(B:cP VJ y R aB VM 3 "are_two_pairs" ot e ["thing"] 1 G.nR){f:ae}(C:cP VJ y R aB VM 3 "is_cell" mY f ["thing"] 1 G.lp){k:ae}(c:cP VJ y R aB VM 2 "_law_field" uV k ["_law_some"] 1 G.ig){l:ae}(m:cP VJ y R aB VM 2 "_law_block" sr l ["_law_way","_law_block_here"] 2 G.l0){n:ae}(o:cP VJ y R aB VM 3 "_law_branches" rM n ["_law_way","_law_tree_here"] 2 G.l_){p:ae}(q:cP VJ y R aB VM 2 "blocks" mR p ["field"] 1 G.mj){r:ae}(s:cP VJ y R aB VM 7 "is_tree" wR r ["field","thing"] 2 (G.qr e f)){t:ae}(g:cP VJ y R aB VM 3 "ring" tR t ["field","tree"] 2 (G.k_ VG)){u:ae}(v:cP VJ y R aB VM 1 "_law_other_way" wu u ["_law_way","_law_cell"] 2 G.qn){w:ae}(x:cP VJ y R aB VM 1 "_law_begun" u3 w ["_law_cells"] 1 G.qZ){z:ae}(i:cP VJ y R aB VM 4 "ring_turns" tW z ["field","tree"] 2 (G.n4 VG)):
  cP VJ y R aB VM 8 "_law_right" ru N ["_law_some","_law_tree_here","_law_way"] 3 (G.mG e f VG):=by
 refine dU Jx O λah Wm P Wg h j VD a=>?_;exact (b1 (d5 3 ah<|cc c a<|bG<|az 0) (b1 (d5 4 ah<|dN (km rfl<|ct a) F.kD kl<|bG<|a0<|jO ["_law_block_here"] [2] (gc<|az 0) (λd=>(fT 0))<|λd=>(cc m a<|bZ (az 1)<|az 0)) (b1 (d5 5 ah<|cc o a<|bZ (az 2)<|az 1) (b1 (gL (hZ.nQ<|pF (ft (nE<|ct a) (a0<|cc q a<|bG<|a0<|cc c a<|bG<|az 4) (a0<|i6 k0 rfl F.i2 i1<|bG<|az 4)<|e7 _)<|qo<|ft Ku (a0<|cc s a<|bZ (a0<|cc c a<|bG<|az 4)<|az 5) (a0 jh)<|e7 _) (b8<|c7 jh) gK) (b1 (GW (b:=6) (own:=["_law_cell"]) (Wi:=[2]) ah rfl (Or.inl rfl) rfl (pW (dZ ru) Jx (by decide +kernel)) ∅ (gc<|a0<|cc g a<|bZ (az 3)<|az 1) (λd=>(fT 0)) (λd=>xx) (λd=>(cc v a<|bZ (az 1)<|az 0)) ∅)<|b1 (gL (ft (kE<|ct a) (az 2) bb<|e7 _) (b8<|kV<|Iy ju jF PySem.F.slot_list_reverse PySem.F.type_list_reverse QB<|ec 6) gK)<|b1 (gL (ft (nE<|ct a) (a0<|cc g a<|bZ (a0<|cc c a<|bG<|az 4)<|az 5) (a0<|cc x a<|bG<|az 6)<|e7 _) (b8<|c7 jh) gK)<|b8<|c7<|mF (kE<|ct a) (a0<|cc i a<|bZ (a0<|cc c a<|bG<|az 4)<|az 5) (a0<|cc i a<|bZ (az 3)<|az 1)<|e7 _)))))
def JY(O:dm R aB "law" AQ N ["_law_script"])(F:dM aB){VG:dQ}(de:lB R VJ y VG.kt VG.cD)(t:aB "WAYS" = Z (.ref VG.gI)){c:ae}(u:cP VJ y R aB VM 3 "are_two_pairs" ot c ["thing"] 1 G.nR){d:ae}(w:cP VJ y R aB VM 3 "is_cell" mY d ["thing"] 1 G.lp){f:ae}(g:cP VJ y R aB VM 2 "_law_hand" v3 f ["_law_script","_law_k"] 2 G.rS){i:ae}(k:cP VJ y R aB VM 2 "_law_some_blocks" tx i ["_law_hand_here"] 1 G.ro){l:ae}(m:cP VJ y R aB VM 2 "_law_tree" vn l ["_law_hand_here","_law_some"] 2 G.sX){n:ae}(e:cP VJ y R aB VM 8 "_law_right" ru n ["_law_some","_law_tree_here","_law_way"] 3 (G.mG c d VG)){o:ae}(p:cP VJ y R aB VM 3 "_law_branches" rM o ["_law_way","_law_tree_here"] 2 G.l_){q:ae}(r:cP VJ y R aB VM 2 "_law_block" sr q ["_law_way","_law_block_here"] 2 G.l0):
  cP VJ y R aB VM 9 "law" AQ N ["_law_script"] 1 (G.r0 c d VG):=by
 refine dU RO O λah Wm P Wg h j VD a=>?_;exact (b1 (kv (Ww:=[0]) iz rfl (yr rfl F.xV<|bG<|a0<|dN (BL rfl) F.BM Bk<|bZ bb<|a0<|dN (Bh rfl) F.vj ua<|bZ bb<|a0<|dN iI F.hV hL<|bG<|az 0) (gf 1 ah) (b1 (d5 2 ah<|cc g a<|bZ (az 0)<|az 1) (b1 (d5 3 ah<|cc k a<|bG<|az 2) (b1 (d5 4 ah<|cc m a<|bZ (az 2)<|az 3) (b8 (kv (Ww:=[0]) iz rfl (yr rfl F.xV<|bG bb) (gf 5 ah) (b1 (gL (hZ.nQ<|pF (mh<|lI<|a0<|cc e a<|j9 (az 3) (az 4) bb)<|qo<|mh<|lI<|a0<|cc e a<|j9 (az 3) (az 4) bb) (b8<|c7 jh) gK) (b8 (GJ (b:=3) (v:=4) rfl ah rfl rfl ∅ rfl rfl (bZ (a0<|dN (km rfl<|ct a) F.kD kl<|bG<|a0<|jO ["_law_block_here"] [] (gc<|az 3) (λs=>(fT 0))<|λs=>(cc r a<|bZ bb<|az 0))<|a0<|cc p a<|bZ bb<|az 4) ∅ ∅ rfl))) ∅ A0))))) ∅ A0)<|b8<|c7 jh)
end
end K44
namespace L2
open Spec PyProof.Rows
section
variable{R:Φ}
variable{g:ae}{s:Option ae}{w:Nat}{h:Array (Option af)}
def kpm{b v:Int}{I J:h_}(e:R.lookup g=Z ⟨.type "tuple",s,.seq #[.int b I,.int v J] w,h⟩):hv R g b v:=⟨_,_,_,_,_,e⟩
def krm{f t:ae}(e:R.lookup g=Z ⟨.type "tuple",s,.seq #[.ref f,.ref t] w,h⟩):oj R g f t:=⟨_,_,_,e⟩
end
end L2
namespace K44
open L2 PyProof.Rows
variable{b k:ae}{M:PySem.W.OpenLaw}
def all_mk{y:bj}{R:Φ}{e:aY}{aB:aD->Option af}{o E H I J L N O P Q T U al am an ap as a1 a2 bd be bi bm bn bs bv ca cd ce ch ci cl co cr cs db:ae}(a:R.In e)(c:e.Ns d2 aB)(ds:aB "law" = Z (.ref o)){p q:h_}(dL:dj R "is_whole" x8 E)(eq:dj R "is_pair" x3 H)(ev:dj R "are_two_pairs" ot k)(ex:dj R "is_cell" mY b)(fn:dj R "is_rising" uZ I)(fr:dj R "is_rising" uN J)(f0:dj R "lesser_first" za L)(f1:dj R "lookup" px N)(f2:dj R "around" yS O)(f4:dj R "reached" v5 P)(f8:dj R "block_of" v7 Q)(ga:dj R "blocks" mR T)(ge:dj R "is_floor" vH U)(gl:dj R "is_field" tT al)(go:dj R "turns" sm am)(gt:dj R "moved" xB an)(g1:dj R "next_round" xg ap)(g2:dj R "ring" tR as)(g3:dj R "ring_turns" tW a1)(hd:dj R "all_branches" sM a2)(he:dj R "joining" zr bd)(hf:dj R "full_tree" wo be)(hm:dj R "is_tree" wR bi)(hw:dj R "_law_cell_at" yh bm)(h0:dj R "_law_hand" v3 bn)(ii:dj R "_law_pick" z5 bs)(im:dj R "_law_some_blocks" tx bv)(io:dj R "_law_four" y4 ca)(it:dj R "_law_field" uV cd)(jp:dj R "_law_pairs" w4 ce)(kw:dj R "_law_tree" vn ch)(lc:dj R "_law_other_way" wu ci)(lf:dj R "_law_block" sr cl)(li:dj R "_law_branches" rM co)(lm:dj R "_law_begun" u3 cr)(ln:dj R "_law_right" ru cs)(r:dj R "law" AQ db){VG:dQ}{s:ae}(ls:Ψ R d2 "WAYS" = Z (Z<|.ref s))(lv:VG.gI=s)(de:lB R M.prog y VG.kt VG.cD)(lw:Ψ R d2 "GREATEST" = Z (Z<|.int 30 p))(mb:Ψ R d2 "SIDE" = Z (Z<|.int 2 q)){g:ae}(mo:Ψ R d2 "NoBlocks" = Z (Z<|.ref g))(mp:Δ R g [.type "ValueError",.type "Exception",.type "BaseException",.type "object"] "ValueError.__new__" = V)(ms:Φa R (.ref g) (.ref g)=Z V)(m0:Ψ R d2 "all" = Z Y)(na:Ψ R d2 "bool" = Z Y)(nb:Ψ R d2 "dict" = Z Y)(ne:Ψ R d2 "int" = Z Y)(nl:Ψ R d2 "isinstance" = Z Y)(nm:Ψ R d2 "len" = Z Y)(nn:Ψ R d2 "list" = Z Y)(no:Ψ R d2 "max" = Z Y)(np:Ψ R d2 "min" = Z Y)(ns:Ψ R d2 "range" = Z Y)(nw:Ψ R d2 "sorted" = Z Y)(of:Ψ R d2 "sum" = Z Y)(ok:Ψ R d2 "tuple" = Z Y)(ol:Ψ R d2 "zip" = Z Y):
  ∃fd:gR,(∀(h:ao) (u:af),nq h fd ⟨[u],[]⟩ [("_law_script",u)])/\∀VM:aY,R.In VM->VM.Ns d2 aB->hg M.prog y R aB VM ik 9 o fd ["_law_script"] (kj 1<|G.r0 k b VG):=by
 have F:dM aB:=⟨iV a c m0,iV a c na,iV a c nb,iV a c ne,iV a c nl,iV a c nm,iV a c nn,iV a c no,iV a c np,iV a c ns,iV a c nw,iV a c of,iV a c ok,iV a c ol,⟨p,nZ a c lw⟩,⟨q,nZ a c mb⟩⟩;have h_w11:=ga.aU (VQ:=["field"]) a c;have d:=nZ a c ls;rw[<-lv]at d;have t:zl R aB "NoBlocks" g:=⟨nZ a c mo,mp⟩;refine NG r a c ds (λ_ S S S S S S S=>.of_eq rfl) λVM=>?_;let n:eh:=⟨M.prog,y,R,aB,VM⟩
 have on:=N9 (n:=n) (dL.aU a c) F;have v:=Tz (n:=n) (eq.aU a c) F on;have j:=RV (n:=n) (ev.aU a c) F v;have f:=OW (n:=n) (ex.aU a c) F v;have op:=Mv (VJ:=M.prog) (y:=y) (VM:=VM) (fn.aV a c) F f;have o0:=Px (VJ:=M.prog) (y:=y) (VM:=VM) (fr.aV a c) F j;have pc:=QQ (n:=n) (f0.aV a c) F;have i:=Kh (n:=n) (f1.aU a c) F;have pi:=Nr (n:=n) (f2.aU a c) F;have pm:=LH (n:=n) (f4.aV a c) F pi;have l:=QO (n:=n) (f8.aV a c) F;have po:=J_ (VJ:=M.prog) (y:=y) (VM:=VM) h_w11 F i l t;have w:=Li (n:=n) h_w11 F i l;have pp:=O9 (VJ:=M.prog) (y:=y) (VM:=VM) (ge.aU a c) F f op;have pr:=Oi (VJ:=M.prog) (y:=y) (VM:=VM) (gl.aU a c) F f pp pm i;have pt:=Mp (n:=n) (go.aU a c) F;have pu:=KD (n:=n) (gt.sf a c) F de d;have py:=TJ (n:=n) (g1.sf a c) F de d l pc pu;have x:=Od (n:=n) (g2.aV a c) F de d py;have rc:=Nq (n:=n) (g3.aV a c) F de d x pt;have z:=Sk (n:=n) (hd.aU a c) F i;have re:=NV (n:=n) (he.aV a c) F;have rs:=MU (n:=n) (hf.aV a c) F re z;have sc:=Uj (VJ:=M.prog) (y:=y) (VM:=VM) (hm.aV a c) F f j pr o0 w i z rs t po ms;have sn:=Mf (n:=n) (hw.aV a c) F;have sp:=JK (n:=n) (h0.aV a c) F sn;have A:=Ll (n:=n) (ii.aV a c) F;have ss:=Qf (n:=n) (im.aU a c) F A;have B:=O8 (n:=n) (io.aU a c) F;have sw:=Ot (n:=n) (it.aU a c) F B;have sB:=Mz (n:=n) (jp.aU a c) F;have sK:=Qg (n:=n) (kw.aV a c) F sB A;have C:=Q_ (n:=n) (lc.aV a c) F;have m:=To (n:=n) (lf.aV a c) F B C;have D:=PG (n:=n) (li.aV a c) F m;have s0:=Qu (n:=n) (lm.aU a c) F;have s1:=OJ (VJ:=M.prog) (y:=y) (VM:=VM) (VG:=VG) (ln.sf a c) F de d j f sw m D w sc x C s0 rc;exact JY (VG:=VG) (r.aU a c) F de d j f sp ss sK s1 D m
def walk{a l WQ c V5 d m n r t u v x:ae}{p:bF}{B:List aD}{C:(aD->Option af)->aY->Prop}{z:bj->aY->Prop}{s:DefRec}{R:vo->Φ}(D:M.most=Z 63)(E:s.params.defaults=[])(F:∀(y:bj) (e:aY),z y e->(R y.params).In e)(H:∀o,rO (R o)=V)(O:∀(y:bj) (aB:aD->Option af) (A:ae) (e:aY),(R y.params).In e->e.Ns d2 aB->aB s.name=Z (.ref A)->
   ∃fd:gR,(∀(h:ao) (J:af),nq h fd ⟨[J],[]⟩ [("_law_script",J)])/\∀VM:aY,(R y.params).In VM->VM.Ns d2 aB->hg M.prog y (R y.params) aB VM ik 9 A fd ["_law_script"] (kj 1<|G.r0 k b<|oh a l WQ c V5 d m n r t u v x))(I:G.nF (oh a l WQ c V5 d m n r t u v x)):
  PySem.W.WalkO p B C z M.row.toRowW s [] (λN T=>PySem.call N T):=
 L2.Uz (w:=63) (q:=9) (f := "_law_script") (WS:=λ_=>ik) (sp:=λy=>kj 1<|G.r0 k b<|oh a l WQ c V5 d m n r t u v x) D ∅ E ⟨rfl,by decide,by decide,rfl⟩ F O (λy j g V2 L P Q=>MF (H y.params) j g V2 P Q (G.Uq k b I V2 (HC L ∅))) λ_ U U U U i=>i
end K44
namespace PySem.W.Fast
def tw14934199509031909702:=(0)
def tw12929238520524438016:=(0)
def tw17536242141991747809:=(0)
def tw17747129338026996161:=(0)
def tw4372496426460281250:=(0)
def tw11489245274546602882:=(0)
def tw11875669190307703939:=(0)
def tw15041734439733336355:=(0)
def tw5880911274524739939:=(0)
def tw15679123941378041251:=(0)
def tw16663628367174368931:=(0)
def tw2276042422038704995:=(0)
def tw11409830231470759236:=(0)
def tw3720780085012394532:=(0)
def tw15650610433384458820:=(0)
def tw13755922313304640356:=(0)
def tw14959290773642855653:=(0)
def tw11167138750641057253:=(0)
def tw17023823481651443269:=(0)
def tw15151123482791393093:=(0)
def tw3904692343183989701:=(0)
def tw8727434029250336902:=(0)
def tw2398378059957702918:=(0)
def tw18076313440205278790:=(0)
def tw10966405960528274374:=(0)
def tw5147344864756870343:=(0)
def tw15787210190553982279:=(0)
def tw787685342528595463:=(0)
def tw7813216301870243431:=(0)
def tw14487037505606580296:=(0)
def tw8503930944150969608:=(0)
def tw7986318941994200328:=(0)
def tw10273469900526923208:=(0)
def tw17404735718083198440:=(0)
def tw9514126591723345800:=(0)
def tw4910932436604565416:=(0)
def tw10885534590397037480:=(0)
def tw8698313984916641065:=(0)
def tw4558489292378941897:=(0)
def tw15559927465186339369:=(0)
def tw15458815151359881865:=(0)
def tw2993305694818403241:=(0)
def tw13183679353664520618:=(0)
def tw9167500819774021034:=(0)
def tw6822207771338333802:=(0)
def tw9359069871708056298:=(0)
def tw11870593302984073066:=(0)
def tw10251035261887952907:=(0)
def tw15683144277145407531:=(0)
def tw7836586669074429099:=(0)
def tw9154036179402587467:=(0)
def tw16050721250225497899:=(0)
def tw8019514845081943979:=(0)
def tw14630399327792471084:=(0)
def tw4462869995727925772:=(0)
def tw18344622410741182029:=(0)
def tw17135176423719906893:=(0)
def tw5559882009921122125:=(0)
def tw12812489543601105934:=(0)
def tw12719342262685533230:=(0)
def tw4918898591128215822:=(0)
def tw265336838226632014:=(0)
def tw10882583609554560494:=(0)
def tw17243100481790975470:=(0)
def tw9392617350180478191:=(0)
def tw10270439662281329935:=(0)
def tw17407745014224469423:=(0)
def tw1898575400716370479:=(0)
def tw8030648305041576847:=(0)
def tw14818187367741519184:=(0)
def tw11861009662067621105:=(0)
def tw4571498811121682705:=(0)
def tw10745538091418235185:=(0)
def tw13045321384838535761:=(0)
def tw6084483540595310258:=(0)
def tw2553544711287646994:=(0)
def tw12862528748133411602:=(0)
def tw2649945044722833202:=(0)
def tw15061912761722647378:=(0)
def tw11779429402221448627:=(0)
def tw6485597331130933779:=(0)
def tw5888757569846332083:=(0)
def tw640161439412472691:=(0)
def tw10650408822361748403:=(0)
def tw7276560543975239732:=(0)
def tw5807751121119480980:=(0)
def tw16736312713073411508:=(0)
def tw16540669096878833140:=(0)
def tw4809488505874893332:=(0)
def tw18190830085022237204:=(0)
def tw10617524751249949300:=(0)
def tw11877240360905116660:=(0)
def tw17517478430044675253:=(0)
def tw5932437704216184053:=(0)
def tw8819376993487791381:=(0)
def tw10578325844635689269:=(0)
def tw13879788713290264021:=(0)
def tw713499944724286069:=(0)
def tw16649259683757559733:=(0)
def tw13702750657574688854:=(0)
def tw7071331948209659158:=(0)
def tw8718825512674070166:=(0)
def tw5221115555659970615:=(0)
def tw6913699612823962167:=(0)
def tw11789693131876294263:=(0)
def tw10048731329345005335:=(0)
def tw14498153991406144632:=(0)
def tw17063425523134073112:=(0)
def tw14084184088708834584:=(0)
def tw124565733856250392:=(0)
def tw3188965476183708312:=(0)
def tw10953016285223225369:=(0)
def tw16223029698027564281:=(0)
def tw866343570034649433:=(0)
def tw17847261505552642457:=(0)
def tw11215201936605832761:=(0)
def tw14992969353064043257:=(0)
def tw4700217568093889594:=(0)
def tw2403172200604304698:=(0)
def tw3656157049790852506:=(0)
def tw10603189075674061338:=(0)
def tw13264303067492959770:=(0)
def tw3524804386596574874:=(0)
def tw3535111333343840922:=(0)
def tw10781969625101840090:=(0)
def tw4036959697056878330:=(0)
def tw5563067566857084698:=(0)
def tw17438660825719423802:=(0)
def tw8202758751411200890:=(0)
def tw10629834859116730266:=(0)
def tw5995877402409704539:=(0)
def tw2429693887124612283:=(0)
def tw3115291338997114395:=(0)
def tw8815425372412644027:=(0)
def tw4779545008133399708:=(0)
def tw10741141603337659612:=(0)
def tw2055560326803549436:=(0)
def tw4015862439750722844:=(0)
def tw8807265092185027228:=(0)
def tw13625852235963542300:=(0)
def tw9222618036715251837:=(0)
def tw16447218043916911805:=(0)
def tw5330068319441389757:=(0)
def tw10175222513042514365:=(0)
def tw17429788393912650398:=(0)
def tw14737549322471628702:=(0)
def tw716613588851634495:=(0)
def tw10603655939877405151:=(0)
def tw9289443220320506463:=(0)
def tw3613229652443598783:=(0)
def tw4679380255852716991:=(0)
end PySem.W.Fast
end
open PySem PySem.W PyProof.Rows
set_option maxRecDepth 100000 in
set_option maxHeartbeats 0 in
theorem PySem.Challenge.cw_mowfloor_k44_whole_rings_mirrored_holds : PySem.Challenge.rw_mowfloor_k44_whole_rings_mirrored.Holds := by
  w_on; o_law; k_head; (case hw => w_witness2)
  k_fill
  refine' K44.walk (M := PySem.Challenge.rw_mowfloor_k44_whole_rings_mirrored) rfl rfl (fun w h Y => PySem.W.kIn_of Y) ?hK ?F ?KO
  case hK => intro p; rfl
  case F =>
    intro w mg fa h KX G hmg
    apply K44.all_mk KX G hmg
    iterate 37 (apply L2.GK; iterate 4 k_is)
    k_is
    rfl
    (apply L2.FO; k_is; (iterate 4 kernel_rfl); (iterate 4 (apply L2.kpm; k_is)); (iterate 4 (apply L2.krm; k_is)); (iterate 8 (apply L2.kpm; k_is)))
    iterate 3 k_is
    k_exc
    kts_exm
    iterate 14 k_is
  case KO => exact ⟨⟨_, _, _, rfl, rfl, rfl, rfl, rfl, rfl, rfl⟩, ⟨_, _, _, rfl, rfl, rfl, rfl, rfl, rfl, rfl⟩, ⟨_, _, _, rfl, rfl, rfl, rfl, rfl, rfl, rfl⟩, ⟨_, _, _, rfl, rfl, rfl, rfl, rfl, rfl, rfl⟩⟩
