import PyProof.Rows.All
import Wide.All
import OpenK.AllK
import Wide.FinOn
import Lean
import PyProof.EqAt
import PyProof.EqKinds
import PyProof.TupleCall
import PyProof.IsiNone
import PyProof.NeKinds
import PyProof.MaxThree
import PyProof.Rows.SetFrom
import PyProof.WalksMore
import PyProof.CallStr
import KE.KRevIter
import PyProof.NsDelKeeps
import KE.KTryMore
import KE.KIsAll
import PyProof.ExcAttrAll.ValueError
import PySem.Challenge.RW_mowfloor_k35_bars_of_anything
set_option maxHeartbeats 4000000
set_option Elab.async false
set_option compiler.extract_closed false
open List (range range' replicate)
open Array (toList)
noncomputable section
local macro_rules|`(∅)=>`(by decide)
local macro_rules|`(⇑$e)=>`(by simpa using $e)
local macro_rules|`(↥$_)=>`(by simp)
local macro_rules|`(tactic|let $p:term:=$e)=>do
 let q:=p.raw
 let X (s:Lean.Syntax):=s.isOfKind ``Lean.Parser.Term.explicit
 let I (s:String):=Lean.mkIdent (.mkSimple s)
 let l:=(if X q then q[1] else q)[1].getSepArgs
 let n:=l.size
 let j:=if X q then 0 else ((l.findIdx? X).map (·+1)).getD 99
 let mut b:Array Lean.Ident:=#[]
 let mut t:Array (Lean.TSyntax `tactic):=#[]
 let w:=I "ζ"
 let E:=e.raw
 let u:=E.getId
 let c:=j<99&&E.isIdent&&l.any fun s=>s.getId==u||s[1].getId==u
 let h:=I "ξ"
 let u:=u.toString
 let u:=if u.startsWith "ζ" then u else "ζ"
 let d:Lean.Term:=if c then h else e
 let r ←if c then `(tactic|(revert $(⟨e⟩):ident;intro $h:ident)) else `(tactic|skip)
 if j<99&&E.isIdent then t:=t.push (←`(tactic|try clear $(⟨d⟩):ident))
 for i in [0:n] do
  let s:=if i+1==j then l[i]![1] else l[i]!
  let z:=I s!"{u}{i}"
  if s.isIdent&&(j==99||s.getId != `rfl) then b:=b.push ⟨s⟩
  else
   b:=b.push z
   if s.isIdent then t:=t.push (←`(tactic|subst $z))
   else if !s.isOfKind ``Lean.Parser.Term.hole then t:=t.push (←`(tactic|let $(⟨s⟩):term:=$z))
 let A:=b.extract j n
 let B:=b.extract 0 j
 let k:=I s!"xE{j}"
 if j==99 then `(tactic|(obtain ⟨$[$b:ident],*⟩:=$e;$t;*)) else if j==0 then `(tactic|($r;refine $(I s!"xA{n}") ($d :) fun $b* =>?_;$t;*)) else if j+1==n then `(tactic|($r;refine $k ($d :) fun $b* =>?_;$t;*)) else `(tactic|($r;refine $k ($d :) fun $B* $w=>?_;refine $(I s!"xA{n-j}") $w fun $A* =>?_;clear $w;$t;*))
local macro_rules|`(command|def $i:declId $s:optDeclSig:=$v)=>if v.raw.isOfKind ``Lean.Parser.Term.paren then `(command|noncomputable def $i $s:optDeclSig:=$v) else (·.raw.rewriteBottomUp (·.setInfo .none))<$>`(command|theorem $i $(⟨.node .none ``Lean.Parser.Command.declSig #[s.raw[0],s.raw[1][0]]⟩):declSig:=$v)|`(command|def $i:declId $s:optDeclSig $v:matchAlts)=>`(command|noncomputable def $i $s:optDeclSig $v:matchAlts)|`(command|@[simp] def $i:declId $s:optDeclSig:=$v)=>`(command|@[simp] noncomputable def $i $s:optDeclSig:=$v)|`(command|@[simp] def $i:declId $s:optDeclSig $v:matchAlts)=>`(command|@[simp] noncomputable def $i $s:optDeclSig $v:matchAlts)|`(command|abbrev $i:declId $s:optDeclSig:=$v)=>`(command|noncomputable abbrev $i $s:optDeclSig:=$v)
local macro_rules|`(⋯)=>`(by lia)
open PySem renaming wpAny_bind->aD,wpAny_pure->a7,wpAny_holding->fX,wpAny_newObj_type->h9,wpAny_callSpecial?_slot->lU,wpAny_call_entry->i_,wpAny_seqItems->iL,wpAny_mono->gW,wpAny_truthy_bool->kT,wpAny_field->hM,codeAny_builtin->lK,wpAny_typeNameOfWhole_keyiter->sS,plainId_quiet->lb,wpAny_Call_Name_kw->pj,wpAny_setField_rec->o1,wpAny_passesOwn->m1,wpAny_specialOf->pe,wpAny_rule->lM,wpAny_letGo->mx,wpAny_forIn_list->ri,wpAny_dictEntries->tF,wpAny_pyIter_list->tA,wpAny_tryCatch->ra,wpAny_loadPart_at->sb,builtinLookup_eq_fast->vE,wpAny_isInstance->vq,wpAny_attempt->qZ,wpAny_updateSeq_pair->xM,wpAny_execs_nil->uy,call_meets->pE,wpAny_setField->sz,wpAny_standAt->u9,wpAny_onRaise->ts,wpAny_execs_cons->wG,noFill_tuple_add->wA,wpAny_pyNext_list_item->Cp,codeAny_mono->vt,richCompare_meets_room->zw,wpAny_dictEpoch->wq,typeLookup_type->vV,wpAny_updateSeq->yK,wpAny_pyNext_list_end->AD,wpAny_notOrdered_dict->E9,wpAny_isOneOf_keyiter->EW,wpAny_setFlight_noneW->Bq,sizeLine_eq->th,seqIndex_of->sZ,wpAny_of_eq->uU,codeAny_call_builtin->CI,seq_tuple_add->vY,wpAny_newList->xo,wpAny_dictSet_heap->AH,eqIsQuiet_byValue->Fo,wpAny_assign_Name->Cx,concat_meets->xS,wpAny_sequenceKey->AF,seqIndex_neg->yL,slot_list_getitem->zP,list_append->A4,wpAny_pyHash_int->BA,wpAny_pyHash_str->Fb,wpAny_pyIter_zip->FJ,wpAny_ret_mkInt->CP,wpAny_Name->zh,typeIs_str->w7,wpAny_fieldsOf->Ak,isSubtype_stop->DK,wpAny_newTuple->FG,callType_codes->EV,evalPart_none->AX,call_list_seq->Gk,wpAny_handled->Em,intBits_le_64->D6
open Option renaming bind_eq_some_iff->bK,map_eq_some_iff->cC,bind_some->q9,map_some->p8,isSome_map->r4,isSome_iff_exists->Fd,getD_some->ye,getD_none->Ex
open List renaming length_map->bu,getD_eq_getElem?_getD->dg,append_assoc->b6,mem_cons->bL,mem_append_right->c3,mem_singleton->cO,mem_append_left->c5,size_toArray->cJ,append_nil->cp,length_append->dj,perm_append_comm->d3,nodup_append->dn,length_cons->dA,mem_append->dt,pairwise_singleton->fk,mem_map->cV,getElem?_eq_some_iff->fY,getElem?_eq_getElem->fT,length_singleton->fi,map_cons->dK,map_append->fQ,getElem?_map->gJ,lookup_cons->gF,pairwise_cons->hA,mem_filter->gM,getElem?_append_left->ly,drop_eq_getElem_cons->kK,mem_of_getElem?->jS,length_range->iI,mem_range->g6,not_mem_nil->iN,length_pos_iff->j_,nodup_cons->iH,all_eq_true->i8,mem_cons_of_mem->kL,length_nil->ju,map_map->hI,getElem?_set_ne->mL,getElem?_append_right->pJ,nodup_iff_pairwise_ne->n8,find?_cons->jV,length_drop->kf,drop_of_length_le->nP,eq_nil_of_length_eq_zero->qg,nodup_nil->jX,mem_cons_self->lX,forall_mem_cons->nt,pairwise_map->mX,map_congr_left->nG,foldl_cons->lQ,mem_nil_iff->nZ,exists_cons_of_ne_nil->ti,length_filter_le->qD,pairwise_iff_getElem->r8,flatMap_cons->oX,any_cons->mC,filterMap_cons->qG,length_reverse->qW,cons_append->pq,length_take->oO,getElem?_set_self->t2,length_zip->oJ,getLast?_concat->tY,any_eq_true->pX,map_id->nd,take_of_length_le->wB,length_pos_of_mem->zd,all_eq_false->tq,eraseIdxIfInBounds_toArray->AJ,any_toArray->vl,cons_ne_nil->s_,mem_iff_getElem->wx,forIn_cons->sI,lookup_append->vD,perm_ext_iff_of_nodup->Ct,ne_nil_of_mem->vG,getLast?_eq_getElem?->Bh,getElem?_zip_eq_some->DN,ext_getElem?->wZ,reverse_cons->w4,mem_flatMap->yt,all_map->vo,pairwise_lt_range->AN,of_mem_zip->wL,length_set->wm,range_succ->w8,getElem?_eq_none->A_,dropLast_eq_take->Cm,getElem?_toArray->FU,length_dropLast->zJ,drop_zero->vx,dropLast_concat->Fn,foldl_nil->vQ,mem_of_mem_take->Fc,mem_of_mem_drop->Ee,take_succ_cons->Gz,reverse_append->E6,mem_filterMap->CY,set_set->wM,any_map->wg,getElem_inj->CQ,zipIdx_cons->EZ,take_length->GJ,ext_getElem->Gh,getElem_map->GB,filter_cons->zL,countP_cons->z0,flatMap_nil->Cb,zipIdx_nil->zB,nil_append->FY,forIn_nil->BF,take_zero->DH,all_cons->CM,set_comm->Fy,map_take->zE,map_drop->Ew,not_lt->zv
open PySem.Heap renaming get?_push_of_some->cw,get?_push_size->dH,lt_size->b9,get?_update_other->kl,size_push->lO,get?_update_self->rm,get?_none_of_le->w9
open Nat renaming le_refl->bq,lt_of_lt_of_le->eK,ne_of_lt->dJ,le_trans->ee,le_of_ble_eq_true->hN,zero_le->hi,lt_irrefl->jh,lt_or_ge->kn,ne_of_gt->k2,lt_succ_self->oI,lt_trichotomy->q6,le_add_right->rN,add_lt_add_iff_right->yU,add_assoc->rF,le_of_lt->p4,add_comm->sk,lt_of_le_of_lt->zQ,le_succ_of_le->AS,zero_add->wX,min_self->x7,sub_zero->wD,succ_le_succ->Cs,min_eq_right->FZ,le_zero->yI,min_eq_left->Gf,lt_trans->Ag,sub_self->C4,le_succ->DI,not_lt->D4
open Bool renaming and_eq_true->cG,false_ne_true->d7,false_eq_true->k8,not_eq_true'->l7,eq_iff_iff->qi,not_true->ya,eq_false_iff->BV,or_eq_true->D1,and_false->BH,and_true->zV,true_bne->AO,true_and->zC
open List.Perm renaming append_left->fg,append_right->gu,of_eq->AB,map->Aq,eq_of_pairwise->HY
open Array renaming length_toList->gT,getElem?_toList->hr,toArray_toList->v_,getD_eq_getD_getElem?->BJ,perm_iff_toList_perm->C7,getElem?_eq_getElem->EA,getElem_toList->Br,forIn_toList->GH,append_assoc->zy,size_append->Gr
open PySem.PassesOwn renaming never->fM
open PySem.W renaming mg_none_of->hS,kasC_bind->d0,mg_of->gB,kasC_pure->eZ,hideAll_none->oK,hideAll_get->p5,of_hideAll->u6,kasC_range->nF,looks_findIn->xT,callWith_K->yM,kasC_get->nc,kasC_cons->oj,cellsFrom_some->DA,kasC_modify->t4,looks_mroIn->Eg,kat_item->tg,kas_swaps_map->CH,kasC_lift->xb,kat_kind->yC
open PySem.F renaming plainAttrs_list->kh,slot_list_append->o7,type_list_append->pO,slot_dict_keyiterator_next->qN,slot_tuple_iterator_next->va,args_tuple_add_2->vL,slot_list_getattribute->yF,entry_tuple_add->vN,slot_tuple_hash->uv,slot_tuple_add->wi,typeOf_object_class->xn,slot_list_pop->w3,type_list_pop->v5,args_dict_keyiterator_next_1->zt,entry_dict_keyiterator_next->Cd,args_tuple_iterator_next_1->GK,slot_zip_next->ud,entry_tuple_iterator_next->BL,excBase_ValueError->Bp,attr_ValueError->CO,args_list_append_2->BB,called_tuple->yp,entry_list_append->Gb,slot_gs_get->yH,slot_list_append->Eh,args_zip_next_1->z4,plain_list_iadd->Cz,plain_tuple_new->GF,entry_list_pop->Fl,slot_dict_iter->DM,entry_zip_next->zD,slot_list_pop->Dg,slot_dict_len->Gy
open PyProof.Rows renaming slot_tuple_getitem->oD,callWith_type1->ql,subscriptTail_builtinR->Cu,entry_tuple_getitem->EG,args_tuple_getitem->BW,callWith_builtin1->LF,get?_update_seq->CG,entry_list_sort->D2,slicePart_none->Fv,slot_list_sort->ET,args_list_sort->F6,tupleItemsOf_->Bn,listUpdate_at->GL,plain_sorted->F2,entry_sorted->BN,args_sorted1->Ck,lt_int->Of,gt_int->HM
open PySem.Around renaming under_plainId->l3
open Int renaming emod_lt_of_pos->mS,emod_nonneg->kZ,le_refl->jJ,toNat_natCast->qj,add_sub_cancel->uI,eq_ofNat_of_zero_le->v7,mul_le_mul_of_nonneg_right->FN,le_of_lt->uq,sub_add_cancel->F7,ediv_nonneg->Bv,mul_le_mul->zO,mul_one->GI,mul_pos->DY
open Classical renaming byContradiction->rl
open Ne renaming symm->fD
open PySem.W.Looks renaming ld->qf,of_pure->xG,«at»->sE
open PySem.Calls renaming call_function_entry->y5,Name_function_global->DO,callWith_builtin->Er,evalArgs_plain->Fj,spliced_cons->EN,spliced_nil->Dl
open PySem.Heap.SameBut renaming update->vn
open PySem.AutoSeq1 renaming sub_tuple_tuple->yT
open PySem.Obj renaming data_mapFields->uk,isFreed_of_fields->FF,cls_mapFields->Co
open Prod renaming ext_iff->pU,ext->x3
open Prod.mk renaming injEq->xW
open PySem.SeqAt.EqAt renaming int_str->D_,str_int->Cy,none_tuple->Hr,bool_tuple->HI,tuple_none->I1,tuple_bool->Oo,none_bool->HS,bool_none->Kg,bool_bool->N8,int_tuple->Pm,str_tuple->N6,tuple_int->Hw,tuple_str->MN,none_int->HJ,none_str->IF,bool_int->KV,bool_str->LI,int_none->NI,int_bool->Ol,str_none->OJ,str_bool->H9,int_int->H0,str_str->NJ,of_refs->J4
open PySem.SeqAt.RcAt renaming tuples->Bi,lists_lengths->LA,none_tuple->Qb,bool_tuple->Nv,tuple_none->Nw,tuple_bool->L1,none_none->MD,none_bool->NU,bool_none->Rd,bool_bool->Ru,int_tuple->L7,str_tuple->NX,tuple_int->Rp,tuple_str->LR,none_int->O8,none_str->JS,bool_int->HP,bool_str->My,int_none->Nx,int_bool->JT,str_none->Oc,str_bool->Jz,int_int->Nj,int_str->J1,str_int->JX,str_str->NW,lists->L4
open PySem.IsL renaming update->E2
open List.cons renaming injEq->Bz
open PySem.SeqAt.RcNeAt renaming lists_lengths->Px,none_tuple->G8,bool_tuple->HZ,tuple_none->Qc,tuple_bool->Pl,none_none->G_,none_bool->Oe,bool_none->RQ,bool_bool->Pd,int_tuple->Oq,str_tuple->Pn,tuple_int->Iw,tuple_str->NO,none_int->Lk,none_str->JQ,bool_int->Qv,bool_str->MY,int_none->Mj,int_bool->M0,str_none->Ls,str_bool->Oy,int_int->Hh,int_str->I8,str_int->Jf,str_str->Na,tuples->MB,lists->JC
open List.Pairwise renaming filter->Jk,imp₂->Hp,map->NQ
open PySem renaming Scope->gj,Str->aC,Heap->a0,Value->ae,CmpOp->lr,Sem->fx,Addr->af,Stmt->bQ,Expr->a_,Obj->aW,Pos->cn,Shared->av,Around->bp,World->a8,Program->bl,Builtin->bk,cLine->b7,model->aQ,isInstance->wt,Tok->hT,Paired->d9,sysModules->iB,mainGlobals->cT,builtinsNs->tO,bootBuiltins->eB,Env->dU,GenState->nW,Model->ik,eval->b1,isTrue->oE,backTo->e8,starEach->bw,swapsWith->mg,assign->h5,assignInOrder->Al,assignEach->fc,setItem->tu,swapsWithSole->zm,swappedStores->Fm,PassesOwn->rY,pyNext->hP,letOwnedTupleGo->rP,pyIter->tr,rawInt->kk,Data->m8,Walks->nR,foldedSetIterable->mm,Operator->yv,binaryOp->fU,compareOp->d6,behindInMarks->o8,lastMarks->sM,recursionLimit->FW,Result->oH,FuncData->f3,BindsTo->l_,bindArgs->jg,Keyword->rz,NameKind->cY,cellsFrom->wU,richCompare->ny,IsPart->j6,getItem->mU,typeLookup->uj,seqIndex?->vU,sliceBounds->n0,PlainAttrs->r7,typeOf->kY,attributeBase->se,valueAt->nM,atKey->lC,Params->sT,callerA->nq,cellOf->ui,compEnvC->u7,newFunctionEnv->zY,comprehension->yc,newList->p3,newExc->t6,newTuple->wR,firstArgMember->sN,field->mV,seqItems?->qX,ZipApart->tH,IsZip->jb,IsPair->hY,shortFactorBits->tG,getAttr?->uW,getattributeRaised->B1,entryFor->yV,PyData->qc,ItemsOf->qU,checkBuiltinCall->vv
open Bool renaming true->V,false->aq
open Option renaming some->Z,none->Y
open PyProof.Rows renaming IsTup->oi,AllBare->ke,envOfC->ib,subscriptTail->EC,IntsAre->qv,bubble->qT,SortKind->gd,Keyed->il,SortSt->eS,arrOf->kM,pendingOf->mO,failedOf->oB,ltAt'->n2,reverseSlice'->p2,setPending->vT,seqObj->gh,keyKind'->vw,tuples'->qH
open PySem.W renaming WData->qF,WShape->rq,kas_rev->l9,kas_cmp->h2,kas_item->i1,Frag->Φ,nsIn->Ψ,kitOne->Ξ,fnOf->Θ,Looks->Δ,keepIn->Γ,excIn->Ω,hideAll->Φa,codeIn->Φb,exmOne->Φc,methodObj->Φd,findIn->Φe,isClsIn->Φf
open PySem
abbrev aN:=@if_pos
abbrev cN:=@decide_eq_false
abbrev aT:=@if_neg
abbrev cW:=@decide_eq_true
abbrev gg:=@of_decide_eq_true
abbrev j5:=@decide_eq_true_iff
abbrev jO:=@beq_self_eq_true
abbrev oa:=@decide_eq_false_iff_not
abbrev ig:=@if_false
abbrev ic:=@or_false
abbrev qq:=@decide_eq_decide
abbrev je:=@if_true
abbrev xH:=@beq_eq_false_iff_ne
abbrev rf:=@beq_iff_eq
variable{S0:Sort _}{o:Prop}
def xE1{r:S0->Prop}(c:∃d,r d)(q:∀d,r d->o):o:=have ⟨d,a⟩:=c;q d a
variable{TG:Sort _}
def xE2{r:S0->TG->Prop}(c:∃d b,r d b)(q:∀d b,r d b->o):o:=have ⟨d,b,a⟩:=c;q d b a
variable{T6:Sort _}
def xE3{r:S0->TG->T6->Prop}(c:∃d b g,r d b g)(q:∀d b g,r d b g->o):o:=have ⟨d,b,g,a⟩:=c;q d b g a
variable{T7:Sort _}
def xE4{r:S0->TG->T6->T7->Prop}(c:∃d b g p,r d b g p)(q:∀d b g p,r d b g p->o):o:=have ⟨d,b,g,p,a⟩:=c;q d b g p a
variable{T8:Sort _}
def xE5{r:S0->TG->T6->T7->T8->Prop}(c:∃d b g p a,r d b g p a)(q:∀d b g p a,r d b g p a->o):o:=have ⟨d,b,g,p,a,e⟩:=c;q d b g p a e
variable{T9:Sort _}
def xE6{r:S0->TG->T6->T7->T8->T9->Prop}(c:∃d b g p a x,r d b g p a x)(q:∀d b g p a x,r d b g p a x->o):o:=have ⟨d,b,g,p,a,x,e⟩:=c;q d b g p a x e
def xE9{e:Sort _}{SV:Sort _}{f:Sort _}{r:S0->TG->T6->T7->T8->T9->e->SV->f->Prop}(c:∃d b g p a x N j B,r d b g p a x N j B)(q:∀d b g p a x N j B,r d b g p a x N j B->o):o:=have ⟨d,b,g,p,a,x,N,j,B,h⟩:=c;q d b g p a x N j B h
variable{d b:Prop}
def xA2(c:d/\b)(q:d->b->o):o:=q c.1 c.2
variable{g:Prop}
def xA3(c:d/\b/\g)(q:d->b->g->o):o:=q c.1 c.2.1 c.2.2
variable{p:Prop}
def xA4(c:d/\b/\g/\p)(q:d->b->g->p->o):o:=q c.1 c.2.1 c.2.2.1 c.2.2.2
variable{a:Prop}
def xA5(c:d/\b/\g/\p/\a)(q:d->b->g->p->a->o):o:=q c.1 c.2.1 c.2.2.1 c.2.2.2.1 c.2.2.2.2
variable{x:Prop}
def xA6(c:d/\b/\g/\p/\a/\x)(q:d->b->g->p->a->x->o):o:=q c.1 c.2.1 c.2.2.1 c.2.2.2.1 c.2.2.2.2.1 c.2.2.2.2.2
def xA8{N j:Prop}(c:d/\b/\g/\p/\a/\x/\N/\j)(q:d->b->g->p->a->x->N->j->o):o:=q c.1 c.2.1 c.2.2.1 c.2.2.2.1 c.2.2.2.2.1 c.2.2.2.2.2.1 c.2.2.2.2.2.2.1 c.2.2.2.2.2.2.2
set_option linter.all false
set_option maxRecDepth 100000
namespace L2
open Spec PyProof.Rows
variable{SO:gj}{Tu f:aC}{Sz c:a0}{aw:aC->Option ae}{SA SS:List aC}{TZ Tc:lr}{x:ae->ae->fx ae}{bb TH:List af}{TR:List bQ}{N:Int->Int->Int}{SY a g:a_}{s q j S4:Nat}{Sl:List a_}{Q:Φ}{G:List (af×aW)}{SD:cn}{m Ss:av}{E Sn:ae->av->Prop}{O:bp}{l:a8}{S:bl}{J:ae}{b d:af}{SP:List ae}
inductive ab where
 | aV|au (b:Bool)|int (j:Int)|str (f:aC)|tup (C:List ab)|fn (d:af)|aO (C:List ab)|fd (M:List ((Int×Int)×Int))
mutual
def ab.beq:ab->ab->Bool
 |.aV,.aV=>V
 |.au d,.au b=>d==b
 |.int j,.int B=>decide (j=B)
 |.str f,.str A=>decide (f=A)
 |.tup d,.tup b=>ab.kW d b
 |.fn d,.fn b=>decide (d=b)
 |.aO d,.aO b=>ab.kW d b
 |.fd d,.fd b=>decide (d=b)
 |_,_=>aq
def ab.kW:List ab->List ab->Bool
 |[],[]=>V
 |d::u,b::I=>ab.beq d b&&ab.kW u I
 |_,_=>aq
end
mutual
theorem ab.beq_iff:∀d b:ab,ab.beq d b=V↔d=b
 |.aV,b=>by cases b<;>simp[ab.beq]
 |.au d,b=>by cases b<;>simp[ab.beq]
 |.int j,b=>by cases b<;>simp[ab.beq]
 |.str f,b=>by cases b<;>simp[ab.beq]
 |.tup f,b=>by
  cases b with
  |tup A=>rw[ab.beq,ab.x5 f A];simp
  |_=>simp[ab.beq]
 |.fn d,b=>by cases b<;>simp[ab.beq]
 |.aO f,b=>by
  cases b with
  |aO A=>rw[ab.beq,ab.x5 f A];simp
  |_=>simp[ab.beq]
 |.fd d,b=>by cases b<;>simp[ab.beq]
theorem ab.x5:∀d b:List ab,ab.kW d b=V↔d=b
 |[],b=>by cases b<;>simp[ab.kW]
 |f::u,b=>by
  cases b with
  |nil=>simp[ab.kW]
  |cons A I=>rw[ab.kW,cG,ab.beq_iff f A,ab.x5 u I];simp
end
noncomputable instance:DecidableEq ab:=λd b=>decidable_of_iff (ab.beq d b=V) (ab.beq_iff d b)
mutual
def dk(c:a0):ab->ae->Prop
 |.aV,v=>v=.none
 |.au b,v=>v=.bool b
 |.int j,v=>∃I,v=.int j I
 |.str f,v=>∃I,v=.str f I
 |.fn d,v=>v=.ref d
 |.aO _,v=>∃d,v=.ref d
 |.fd _,v=>∃d,v=.ref d
 |.tup C,v=>∃d n SM s,v=.ref d/\c.get? d=Z n/\n.cls=.type "tuple" /\ n.data=.seq SM s/\d2 c C SM.toList
def d2(c:a0):List ab->List ae->Prop
 |[],R=>R=[]
 |p::C,R=>∃v u,R=v::u/\dk c p v/\d2 c C u
end
mutual
def ab.key:Nat->ab->Bool
 |_,.int _=>V
 |_,.str _=>V
 |s+1,.tup C=>ab.keys s C
 |_,_=>aq
def ab.keys:Nat->List ab->Bool
 |_,[]=>V
 |s,p::C=>ab.key s p&&ab.keys s C
end
mutual
def sL(l:a8):ab->Int
 |.int j=>hashInt j
 |.str f=>hashStr l f
 |.tup C=>reduceHash (bk.Tuple.tupleHashOf<|hV l C)
 |_=>0
def hV(l:a8):List ab->List Int
 |[]=>[]
 |p::C=>sL l p::hV l C
end
mutual
def tR:ab->Nat
 |.tup C=>jy C+1
 |_=>1
def jy:List ab->Nat
 |[]=>0
 |p::C=>tR p+jy C
end
theorem xp(l:a8):∀d b:List ab,hV l (d++b)=hV l d++hV l b
 |[],b=>rfl
 |p::d,b=>by rw[pq,hV,hV,xp l d b,pq]
theorem yO:∀d b:List ab,jy (d++b)=jy d+jy b
 |[],b=>by simp[jy]
 |p::d,b=>by rw[pq,jy,jy,yO d b];lia
theorem Bw{s:Nat}:∀{d b:List ab},ab.keys s (d++b)=V->ab.keys s b=V
 |[],b,c=>c
 |p::d,b,c=>by rw[pq,ab.keys,cG]at c;exact Bw c.2
theorem d2.length{c:a0}:∀{C:List ab}{R:List ae},d2 c C R->C.length=R.length
 |[],R,a=>by rw[show R=[] from a];rfl
 |p::C,R,a=>by
  let⟨v,@u,rfl,X,a⟩:=a;rw[dA,dA,d2.length a]
def C0(c T:a0):Prop:=(∀d n SM s,c.get? d=Z n->n.cls=.type "tuple" -> n.data=.seq SM s->T.get? d=Z n)
mutual
theorem dk.keep{c T:a0}(q:C0 c T):∀{p:ab}{v:ae},dk c p v->dk T p v
 |.aV,_,a=>a
 |.au _,_,a=>a
 |.int _,_,a=>a
 |.str _,_,a=>a
 |.fn _,_,a=>a
 |.aO _,_,a=>a
 |.fd _,_,a=>a
 |.tup C,_,a=>by
  let⟨d,n,SM,@s,rfl,t,D,b,e⟩:=a;exact⟨d,n,SM,s,rfl,q d n SM s t D b,D,b,d2.keep q e⟩
theorem d2.keep{c T:a0}(q:C0 c T):∀{C:List ab}{R:List ae},d2 c C R->d2 T C R
 |[],_,a=>a
 |p::C,_,a=>by
  let⟨v,@u,rfl,t,D⟩:=a;exact⟨v,u,rfl,dk.keep q t,d2.keep q D⟩
end
theorem EU{c:a0}:∀(s:Nat) {f A:ab}{v:ae},ab.key s f=V->ab.key s A=V->dk c f v->dk c A v->f=A
 |s,.int j,A,v,_,a6,g,e=>by
  let⟨@I,rfl⟩:=g;cases A with
  |int B=>let⟨@J,a⟩:=e;injection a with a;rw[a]
  |str i=>let⟨@J,a⟩:=e;cases a
  |tup C=>let⟨X,X,X,@X,a,X⟩:=e;cases a
  |_=>cases s<;>cases a6
 |s,.str i,A,v,_,a6,g,e=>by
  let⟨@I,rfl⟩:=g;cases A with
  |int B=>let⟨@J,a⟩:=e;cases a
  |str i=>let⟨@J,a⟩:=e;injection a with a;rw[a]
  |tup C=>let⟨X,X,X,@X,a,X⟩:=e;cases a
  |_=>cases s<;>cases a6
 |s+1,.tup C,A,v,l,a6,g,e=>by
  let⟨d,n,SM,@M,rfl,t,D,m,r⟩:=g;cases A with
  |int B=>let⟨@J,a⟩:=e;cases a
  |str i=>let⟨@J,a⟩:=e;cases a
  |tup Sl=>
   let⟨E,Th,F,@G,a,k,H,h,w⟩:=e;cases a;rw[t]at k;cases k;rw[m]at h;injection h with h _;subst h;have all:∀(C Sl:List ab) (R:List ae),ab.keys s C=V->ab.keys s Sl=V->d2 c C R->d2 c Sl R->C=Sl:=by
    intro C;induction C with
    |nil=>
     intro Sl R X X d b;cases Sl with
     |nil=>rfl
     |cons a Sl=>let⟨X,@X,o,X⟩:=b;rw[show R=[] from d]at o;cases o
    |cons p C x=>
     intro Sl R S1 S6 d b;let⟨v,@u,rfl,y,z⟩:=d;cases Sl with
     |nil=>cases (show v::u=[] from b)
     |cons a Sl=>
      let⟨L,@Tg,o,dE,cE⟩:=b;cases o;rw[ab.keys,cG]at S1 S6;rw[EU s S1.1 S6.1 y dE,x Sl u S1.2 S6.2 z cE]
   rw[all C Sl _ l a6 r w]
  |_=>cases a6
 |_,.aV,_,_,q,_,_,_=>by cases ‹Nat›<;>cases q
 |_,.au _,_,_,q,_,_,_=>by cases ‹Nat›<;>cases q
 |_,.fn _,_,_,q,_,_,_=>by cases ‹Nat›<;>cases q
 |_,.aO _,_,_,q,_,_,_=>by cases ‹Nat›<;>cases q
 |_,.fd _,_,_,q,_,_,_=>by cases ‹Nat›<;>cases q
 |0,.tup _,_,_,q,_,_,_=>by cases q
section
variable{Su:bl}{l:a8}
theorem zS:∀(s:Nat) {O:bp}{Sn:ae->av->Prop}{m:av}{p:ab}{v:ae}{E:Int->av->Prop},ab.key s p=V->O.units+s<b7->dk m.heap p v->E (sL l p) {m with toks:=m.toks+tR p}->
  wpAny (aQ Su l) O (pyHash v) E Sn m
 |s,O,Sn,m,.int j,v,E,_,_,e,c=>by
  let⟨@I,rfl⟩:=e;exact BA c
 |s,O,Sn,m,.str j,v,E,_,_,e,c=>by
  let⟨@I,rfl⟩:=e;exact Fb c
 |s+1,O,Sn,m,.tup C,v,E,q,x,e,c=>by
  let⟨d,n,SM,@M,rfl,o,w,hd,Sq⟩:=e;have g:m.TypeIs (.ref d) "tuple" := ⟨n,o,w⟩;unfold pyHash;first|unfold pyHashByItsType|skip
  first|refine aD (wpAny_cRoomFor_or (.inr ⋯) ?_)|skip
  refine aD (pe g uv.lookup ?_);show wpAny _ _ (if (Z (ae.builtin "tuple.__hash__")==Z ae.none)=V then _ else _) E Sn m;rw[aT (by rw[beq_builtin_none];exact d7)];refine aD (pe g uv.lookup ?_);show wpAny _ _ (callSpecialIfBoundUnlessNone? (.ref d) "__hash__" _ >>= _) E Sn m;refine aD (wpAny_callSpecialIfBoundUnlessNone?_slot g uv<|i_ uv g F.entry_tuple_hash ?_<|F.args_tuple_hash_1 _);show wpAny _ _ (bk.Tuple.tupleItemsOf (.ref d) >>= _) _ _ m;refine aD (wpAny_tupleItemsOf o hd ?_);refine aD ?_;rw[<-GH];refine ri _
   (λcR (b:Array Int) Ss=>∃done left,C=done++left/\d2 m.heap left cR/\b.toList=hV l done/\Ss={m with toks:=m.toks+jy done})
   _ ?_ ?_ _ _ ⟨[],C,rfl,Sq,rfl,rfl⟩
  ·rintro f cR b Ss ⟨done,left,rfl,h,i,rfl⟩;cases left with
   |nil=>cases (show f::cR=[] from h)
   |cons p left=>
    let⟨v,@u,a,t,r⟩:=h;cases a;have S6:=Bw (d:=done) (show ab.keys s (done++p::left)=V from q);rw[ab.keys,cG]at S6;refine aD (zS s S6.1 (by show O.units+1+s<b7;lia) t ?_);first
     | exact a7 ⟨done++[p],left,by simp,r,by simp[i,xp,hV],by simp[yO,jy,rF]⟩
     | exact aD (a7 (a7 ⟨done++[p],left,by simp,r,by simp[i,xp,hV],by simp[yO,jy,rF]⟩))
  ·rintro b Ss ⟨done,left,rfl,h,i,rfl⟩;cases left with
   |cons p left=>let⟨X,@X,a,X⟩:=h;cases a
   |nil=>
   rw[cp]at c;show wpAny _ _ (retInt<|bk.Tuple.tupleHashOf b.toList) _ _ _;rw[i];refine CP ?_;show wpAny _ _ (if (decide (-(2:Int)^63<=bk.Tuple.tupleHashOf (hV l done))&&decide (bk.Tuple.tupleHashOf (hV l done)<2^63))=V then _ else _) E Sn _;rw[sL,tR]at c;unfold reduceHash at c;by_cases k:(decide (-(2:Int)^63<=bk.Tuple.tupleHashOf (hV l done))&&decide (bk.Tuple.tupleHashOf (hV l done)<2^63))=V
   ·rw[aN k];rw[aN k]at c;exact a7 (by simpa [rF] using c)
   ·rw[aT k];rw[aT k]at c;exact aD (lM (a7 (by simpa [rF] using c)))
 |_,_,_,_,.aV,_,_,q,_,_,_=>by cases ‹Nat›<;>cases q
 |_,_,_,_,.au _,_,_,q,_,_,_=>by cases ‹Nat›<;>cases q
 |_,_,_,_,.fn _,_,_,q,_,_,_=>by cases ‹Nat›<;>cases q
 |_,_,_,_,.aO _,_,_,q,_,_,_=>by cases ‹Nat›<;>cases q
 |_,_,_,_,.fd _,_,_,q,_,_,_=>by cases ‹Nat›<;>cases q
 |0,_,_,_,.tup _,_,_,q,_,_,_=>by cases q
mutual
def cq:ab->ab->Bool
 |.aV,.aV=>V
 |.au d,.au b=>d==b
 |.au d,.int B=>(if d then 1 else 0)==B
 |.int j,.au b=>j==(if b then 1 else 0)
 |.int j,.int B=>j==B
 |.str f,.str A=>f==A
 |.tup d,.tup b=>fN d b
 |_,_=>aq
def fN:List ab->List ab->Bool
 |[],[]=>V
 |d::u,b::I=>cq d b&&fN u I
 |_,_=>aq
end
mutual
def ab.bI:Nat->ab->Bool
 |_,.aV=>V
 |_,.au _=>V
 |_,.int _=>V
 |_,.str _=>V
 |s+1,.tup C=>ab.di s C
 |_,_=>aq
def ab.di:Nat->List ab->Bool
 |_,[]=>V
 |s,p::C=>ab.bI s p&&ab.di s C
end
theorem jv{s:Nat}:∀{C:List ab}{B:Nat}{p:ab},ab.di s C=V->C[B]?=Z p->ab.bI s p=V
 |[],B,p,_,c=>by simp at c
 |a::C,0,p,q,c=>by
  rw[ab.di,cG]at q;simp at c;subst c;exact q.1
 |a::C,B+1,p,q,c=>by
  rw[ab.di,cG]at q;exact jv q.2 ⇑c
theorem d2.get{c:a0}:∀{C:List ab}{R:List ae}{B:Nat}{v:ae},d2 c C R->R[B]?=Z v->∃p,C[B]?=Z p/\dk c p v
 |[],R,B,v,d,a=>by rw[show R=[] from d]at a;simp at a
 |p::C,R,0,v,d,a=>by
  let⟨J,@u,rfl,b,e⟩:=d;simp at a;subst a;exact⟨p,rfl,b⟩
 |p::C,R,B+1,v,d,a=>by
  let⟨J,@u,rfl,b,e⟩:=d;let⟨@f,t,D⟩:=d2.get (B:=B) e ⇑a;exact⟨f,by simpa using t,D⟩
theorem zl{c:a0}:∀(s:Nat) {f A:ab}{v:ae},ab.bI s f=V->ab.bI s A=V->dk c f v->dk c A v->cq f A=V
 |s,.aV,A,v,_,a6,h,e=>by
  cases (show v=.none from h);cases A with
  |aV=>rfl
  |au b=>cases e
  |int B=>let⟨@J,a⟩:=e;cases a
  |str i=>let⟨@J,a⟩:=e;cases a
  |tup C=>let⟨X,X,X,@X,a,X⟩:=e;cases a
  |fn d=>cases s<;>cases a6
  |aO d=>cases s<;>cases a6
  |fd=>cases s<;>cases a6
 |s,.au b,A,v,_,a6,h,e=>by
  cases (show v=.bool b from h);cases A with
  |aV=>cases e
  |au g=>cases e;simp[cq]
  |int B=>let⟨@J,a⟩:=e;cases a
  |str i=>let⟨@J,a⟩:=e;cases a
  |tup C=>let⟨X,X,X,@X,a,X⟩:=e;cases a
  |fn d=>cases s<;>cases a6
  |aO d=>cases s<;>cases a6
  |fd=>cases s<;>cases a6
 |s,.int j,A,v,_,a6,h,e=>by
  let⟨@I,rfl⟩:=h;cases A with
  |aV=>cases e
  |au g=>cases e
  |int B=>let⟨@J,a⟩:=e;cases a;simp[cq]
  |str i=>let⟨@J,a⟩:=e;cases a
  |tup C=>let⟨X,X,X,@X,a,X⟩:=e;cases a
  |fn d=>cases s<;>cases a6
  |aO d=>cases s<;>cases a6
  |fd=>cases s<;>cases a6
 |s,.str j,A,v,_,a6,h,e=>by
  let⟨@I,rfl⟩:=h;cases A with
  |aV=>cases e
  |au g=>cases e
  |int B=>let⟨@J,a⟩:=e;cases a
  |str i=>let⟨@J,a⟩:=e;cases a;simp[cq]
  |tup C=>let⟨X,X,X,@X,a,X⟩:=e;cases a
  |fn d=>cases s<;>cases a6
  |aO d=>cases s<;>cases a6
  |fd=>cases s<;>cases a6
 |s+1,.tup C,A,v,m,a6,h,e=>by
  let⟨d,n,SM,@M,rfl,t,D,r,w⟩:=h;cases A with
  |aV=>cases e
  |au g=>cases e
  |int B=>let⟨@J,a⟩:=e;cases a
  |str i=>let⟨@J,a⟩:=e;cases a
  |fn d=>cases a6
  |aO d=>cases a6
  |fd=>cases a6
  |tup Sl=>
   let⟨F,Th,G,@H,a,l,L,k,x⟩:=e;cases a;rw[t]at l;cases l;rw[r]at k;injection k with k _;subst k;have all:∀(C Sl:List ab) (R:List ae),ab.di s C=V->ab.di s Sl=V->d2 c C R->d2 c Sl R->fN C Sl=V:=by
    intro C;induction C with
    |nil=>
     intro Sl R X X d b;cases Sl with
     |nil=>rfl
     |cons a Sl=>let⟨X,@X,o,X⟩:=b;rw[show R=[] from d]at o;cases o
    |cons p C y=>
     intro Sl R S1 S6 d b;let⟨v,@u,rfl,z,E⟩:=d;cases Sl with
     |nil=>cases (show v::u=[] from b)
     |cons a Sl=>
      let⟨N,@Tg,o,dE,cE⟩:=b;cases o;rw[ab.di,cG]at S1 S6;rw[fN,zl s S1.1 S6.1 z dE,y Sl u S1.2 S6.2 E cE];rfl
   rw[cq];exact all C Sl _ m a6 w x
 |s,.fn _,_,_,q,_,_,_=>by cases s<;>cases q
 |s,.aO _,_,_,q,_,_,_=>by cases s<;>cases q
 |s,.fd _,_,_,q,_,_,_=>by cases s<;>cases q
 |0,.tup _,_,_,q,_,_,_=>by cases q
def qn{a:Nat->Bool}:∀{C Sl:List ab},(∀(B:Nat) (f A:ab),C[B]?=Z f->Sl[B]?=Z A->a B=cq f A)->((range<|min C.length Sl.length).all a&&C.length==Sl.length)=fN C Sl:=by
 have SJ:∀(C Sl:List ab) (x:Nat->Bool),(∀(B:Nat) (f A:ab),C[B]?=Z f->Sl[B]?=Z A->x B=cq f A)->((range<|min C.length Sl.length).all x&&C.length==Sl.length)=fN C Sl:=by
  intro C;induction C with
  |nil=>intro Sl x X;cases Sl<;>simp[fN]
  |cons p C e=>
   intro Sl x c;cases Sl with
   |nil=>simp[fN]
   |cons g Sl=>
    have:=e Sl (λB=>x<|B+1) λB f A d b=>c (B+1) f A ⇑d ⇑b;rw[fN,<-this,<-c 0 p g rfl rfl];rw[dA,dA,show min (C.length+1) (Sl.length+1)=min C.length Sl.length+1 by lia,List.range_succ_eq_map,CM,vo,Bool.and_assoc];congr 2;rw[qi];simp
 exact λ{C Sl} c=>SJ C Sl a c
theorem iU{m:av}:∀(s:Nat) {O:bp}{f A:ab}{J v:ae},ab.bI s f=V->ab.bI s A=V->O.units+s+1<b7->dk m.heap f J->dk m.heap A v->SeqAt.EqAt O m J v (cq f A)
 |s,O,.aV,A,J,v,_,a6,l,h,c=>by
  cases (show J=.none from h);cases A with
  |aV=>cases (show v=.none from c);exact SeqAt.EqAt.same _
  |au b=>cases (show v=.bool b from c);exact HS b
  |int B=>let⟨@I,rfl⟩:=c;exact HJ B I
  |str i=>let⟨@I,rfl⟩:=c;exact IF i I
  |tup C=>let⟨d,n,SM,@M,rfl,t,D,k,X⟩:=c;exact Hr ⟨n,t,D,M,k⟩ ⋯
  |fn d=>cases s<;>cases a6
  |aO d=>cases s<;>cases a6
  |fd=>cases s<;>cases a6
 |s,O,.au b,A,J,v,_,a6,l,h,c=>by
  cases (show J=.bool b from h);cases A with
  |aV=>cases (show v=.none from c);exact Kg b
  |au g=>cases (show v=.bool g from c);exact N8 b g
  |int B=>let⟨@I,rfl⟩:=c;exact KV b B I
  |str i=>let⟨@I,rfl⟩:=c;exact LI b i I
  |tup C=>let⟨d,n,SM,@M,rfl,t,D,k,X⟩:=c;exact HI b ⟨n,t,D,M,k⟩ ⋯
  |fn d=>cases s<;>cases a6
  |aO d=>cases s<;>cases a6
  |fd=>cases s<;>cases a6
 |s,O,.int j,A,J,v,_,a6,l,h,c=>by
  let⟨@e,rfl⟩:=h;cases A with
  |aV=>cases (show v=.none from c);exact NI j e
  |au g=>cases (show v=.bool g from c);exact Ol j e g
  |int B=>let⟨@I,rfl⟩:=c;exact H0 j e B I
  |str i=>let⟨@I,rfl⟩:=c;exact D_ j e i I
  |tup C=>let⟨d,n,SM,@M,rfl,t,D,k,X⟩:=c;exact Pm j e ⟨n,t,D,M,k⟩ ⋯
  |fn d=>cases s<;>cases a6
  |aO d=>cases s<;>cases a6
  |fd=>cases s<;>cases a6
 |s,O,.str j,A,J,v,_,a6,l,h,c=>by
  let⟨@e,rfl⟩:=h;cases A with
  |aV=>cases (show v=.none from c);exact OJ j e
  |au g=>cases (show v=.bool g from c);exact H9 j e g
  |int B=>let⟨@I,rfl⟩:=c;exact Cy j e B I
  |str i=>let⟨@I,rfl⟩:=c;exact NJ j e i I
  |tup C=>let⟨d,n,SM,@M,rfl,t,D,k,X⟩:=c;exact N6 j e ⟨n,t,D,M,k⟩ ⋯
  |fn d=>cases s<;>cases a6
  |aO d=>cases s<;>cases a6
  |fd=>cases s<;>cases a6
 |s+1,O,.tup C,A,J,v,r,a6,l,h,c=>by
  have z:=h;let⟨d,n,SM,@M,rfl,t,D,k,u⟩:=h;have Ti:m.heap.IsTuple d SM:=⟨n,t,D,M,k⟩;cases A with
  |aV=>cases (show v=.none from c);exact I1 Ti ⋯
  |au g=>cases (show v=.bool g from c);exact Oo g Ti ⋯
  |int B=>let⟨@I,rfl⟩:=c;exact Hw B I Ti ⋯
  |str i=>let⟨@I,rfl⟩:=c;exact MN i I Ti ⋯
  |fn d=>cases a6
  |aO d=>cases a6
  |fd=>cases a6
  |tup Sl=>
   have E:=c;let⟨b,Th,p,@F,rfl,G,H,L,w⟩:=c;by_cases a:d=b
   ·subst a;rw[zl (s+1) r a6 z E];exact SeqAt.EqAt.same _
   ·have TB:m.heap.IsTuple b p:=⟨Th,G,H,F,L⟩;have bg:=u.length;have bx:=w.length;have N:SM.toList.length=SM.size:=by simp
    have P:p.toList.length=p.size:=by simp
    rw[N]at bg;rw[P]at bx;have o:=J4 (A:=O) a (Bi (e:=λB=>cq (C.getD B .aV)<|Sl.getD B .aV) Ti TB ⋯ λB Q R=>by
     let⟨@Te,x,S⟩:=u.get (B:=B) (v:=SM[B]) (by rw[hr];simp[Q]);let⟨@Tf,y,T⟩:=w.get (B:=B) (v:=p[B]) (by rw[hr];simp[R]);rw[dg,x,dg,y];exact iU s (jv r x) (jv a6 y) (by show O.units+1+s+1<b7;lia) S T)
    rw[<-bg,<-bx,qn (C:=C) (Sl:=Sl) (λB f A d b=>by rw[dg,d,dg,b];rfl)]at o;rw[cq];exact o
 |s,O,.fn _,_,_,_,q,_,_,_,_=>by cases s<;>cases q
 |s,O,.aO _,_,_,_,q,_,_,_,_=>by cases s<;>cases q
 |s,O,.fd _,_,_,_,q,_,_,_,_=>by cases s<;>cases q
 |0,O,.tup _,_,_,_,q,_,_,_,_=>by cases q
mutual
theorem xB:∀{s:Nat}{p:ab},ab.key s p=V->ab.bI s p=V
 |s,.int _,_=>by cases s<;>rfl
 |s,.str _,_=>by cases s<;>rfl
 |s+1,.tup C,c=>by rw[ab.key]at c;rw[ab.bI];exact De c
 |0,.tup _,c=>by cases c
 |s,.aV,c=>by cases s<;>cases c
 |s,.au _,c=>by cases s<;>cases c
 |s,.fn _,c=>by cases s<;>cases c
 |s,.aO _,c=>by cases s<;>cases c
 |s,.fd _,c=>by cases s<;>cases c
theorem De:∀{s:Nat}{C:List ab},ab.keys s C=V->ab.di s C=V
 |s,[],_=>by rw[ab.di]
 |s,p::C,c=>by rw[ab.keys,cG]at c;rw[ab.di,xB c.1,De c.2];rfl
end
mutual
theorem Ez:∀{s:Nat}{f A:ab},ab.key s f=V->ab.key s A=V->cq f A=decide (f=A)
 |s,.int j,A,_,b=>by
  cases A with
  |int B=>rw[cq];by_cases a:j=B<;>simp[a]
  |str d=>simp[cq]
  |tup d=>simp[cq]
  |_=>cases s<;>cases b
 |s,.str j,A,_,b=>by
  cases A with
  |int B=>simp[cq]
  |str d=>rw[cq];by_cases a:j=d<;>simp[a]
  |tup d=>simp[cq]
  |_=>cases s<;>cases b
 |s+1,.tup C,A,e,b=>by
  cases A with
  |int B=>simp[cq]
  |str d=>simp[cq]
  |tup Sl=>
   rw[ab.key]at e b;rw[cq,B5 e b];simp
  |_=>cases b
 |0,.tup _,_,c,_=>by cases c
 |s,.aV,_,c,_=>by cases s<;>cases c
 |s,.au _,_,c,_=>by cases s<;>cases c
 |s,.fn _,_,c,_=>by cases s<;>cases c
 |s,.aO _,_,c,_=>by cases s<;>cases c
 |s,.fd _,_,c,_=>by cases s<;>cases c
theorem B5:∀{s:Nat}{f A:List ab},ab.keys s f=V->ab.keys s A=V->fN f A=decide (f=A)
 |s,[],A,_,_=>by cases A<;>simp[fN]
 |s,p::C,[],_,_=>by simp[fN]
 |s,p::C,a::Sl,b,c=>by
  rw[ab.keys,cG]at b c;rw[fN,Ez b.1 c.1,B5 b.2 c.2];by_cases t:p=a<;>by_cases D:C=Sl<;>simp[t,D]
end
theorem z_:∀(s:Nat) {O:bp}{Sn:ae->av->Prop}{m:av}{p:ab}{v:ae}{E:Bool->av->Prop},ab.key s p=V->dk m.heap p v->E V m->wpAny (aQ Su l) O (eqIsQuiet s v) E Sn m
 |s,O,Sn,m,.int j,v,E,_,b,c=>by
  let⟨@I,rfl⟩:=b;rw[Fo s rfl];exact a7 c
 |s,O,Sn,m,.str j,v,E,_,b,c=>by
  let⟨@I,rfl⟩:=b;rw[Fo s rfl];exact a7 c
 |s+1,O,Sn,m,.tup C,v,E,q,b,c=>by
  let⟨d,n,SM,@M,rfl,g,k,hd,Sq⟩:=b;have h:m.TypeIs (.ref d) "tuple" := ⟨n,g,k⟩;unfold eqIsQuiet;refine aD (pe h F.slot_tuple_eq.lookup ?_);show wpAny _ _ (wt (.ref d) (.type "tuple") >>= _) _ _ m;refine aD (vq h isSubtype_tuple_tuple ?_);simp only[ya,k8,ig];refine aD (iL g hd ?_);refine aD ?_;show wpAny _ _ (forIn SM _ _) _ _ m;rw[<-GH];rw[ab.key]at q;refine ri _ (λcR u Ss=>u.1=Y/\Ss=m/\∃left,ab.keys s left=V/\d2 m.heap left cR) _ ?_ ?_ _ _ ⟨rfl,rfl,C,q,Sq⟩
  ·rintro v cR u Ss ⟨e,rfl,left,f,i⟩;cases left with
   |nil=>cases (show v::cR=[] from i)
   |cons p left=>
    let⟨r,@Tg,a,t,o⟩:=i;cases a;rw[ab.keys,cG]at f;refine aD (z_ s f.1 t ?_);simp only[ya,k8,ig];exact a7 ⟨rfl,rfl,left,f.2,o⟩
  ·rintro⟨w,x⟩ Ss ⟨e,rfl,X⟩;simp only at e;subst e;exact a7 c
 |_,_,_,_,.aV,_,_,q,_,_=>by cases ‹Nat›<;>cases q
 |_,_,_,_,.au _,_,_,q,_,_=>by cases ‹Nat›<;>cases q
 |_,_,_,_,.fn _,_,_,q,_,_=>by cases ‹Nat›<;>cases q
 |_,_,_,_,.aO _,_,_,q,_,_=>by cases ‹Nat›<;>cases q
 |_,_,_,_,.fd _,_,_,q,_,_=>by cases ‹Nat›<;>cases q
 |0,_,_,_,.tup _,_,_,q,_,_=>by cases q
def h6(Su:bl)(l:a8):HeapKind Su l (List ab) where
 is:=λc C d=>ab.keys 7 C=V/\dk c (.tup C) (.ref d)
 hash:=λC=>sL l (.tup C)
 draws:=λC=>tR (.tup C)
 room:=λO=>O.units+10<b7
 inj:=λa e=>by
  have:=EU 8 (f:=.tup _) (A:=.tup _) a.1 e.1 a.2 e.2;injection this
 keeps:=λ{c T q d p n Sl U} f k hd r=>⟨f.1,f.2.keep λb J SM s h u j=>by
  have t:b≠p:=by
   rintro rfl;rw[k]at h;cases h;rw[hd]at j;cases j
  exact (r.2 b t).trans h⟩
 pyHash:=λi g c=>zS 8 (p:=.tup _) g.1 (show _<_ by have:_+10<b7:=i;lia) g.2 c
 eqBool:=λ{O Sn m f A d b E} i a e c=>by
  have o:=iU (m:=m) 8 (O:=O) (f:=.tup f) (A:=.tup A) (xB (s:=8) (p:=.tup f) a.1) (xB (s:=8) (p:=.tup A) e.1) (show _<_ by have:O.units+10<b7:=i;lia) a.2 e.2;rw[Ez (s:=8) (f:=.tup f) (A:=.tup A) a.1 e.1]at o;exact o _ _ Sn E ⇑c
 quiet:=λg c=>z_ 8 (p:=.tup _) g.1 g.2 c
end
abbrev ej:=Sum Int aC
def oo:ej->ae->Bool
 |.inl q,v=>ae.isInt q v
 |.inr f,v=>ae.isStrOf f v
def Lz(l:a8):ej->Int
 |.inl q=>hashInt q
 |.inr f=>hashStr l f
theorem lh:∀{q:ej}{v:ae},oo q v=V->(∃j I,q=Sum.inl j/\v=ae.int j I)\/(∃f I,q=Sum.inr f/\v=ae.str f I)
 |.inl j,v,c=>by
  let⟨@I,a⟩:=ae.isInt_shape (k:=j) (v:=v) c;exact .inl ⟨j,I,rfl,a⟩
 |.inr f,v,c=>by
  let⟨@I,a⟩:=ae.isStrOf_shape (x:=f) (v:=v) c;exact .inr ⟨f,I,rfl,a⟩
def HH(j:Int)(I:hT):oo (.inl j) (.int j I)=V:=by simp[oo,ae.isInt]
def Iu(f:aC)(I:hT):oo (.inr f) (.str f I)=V:=by simp[oo,ae.isStrOf]
def I6(d b:Int):decide ((Sum.inl d:ej)=Sum.inl b)=(d==b):=by
 by_cases a:d=b
 ·subst a;simp
 ·have c:¬ (Sum.inl d:ej)=Sum.inl b:=λo=>a (Sum.inl.inj o);rw[cN c];exact (xH.mpr a).symm
def JH(d b:aC):decide ((Sum.inr d:ej)=Sum.inr b)=decide (d=b):=by
 by_cases a:d=b
 ·subst a;simp
 ·have c:¬ (Sum.inr d:ej)=Sum.inr b:=λo=>a (Sum.inr.inj o);rw[cN c,cN a]
def Nr(d:Int)(b:aC):decide ((Sum.inl d:ej)=Sum.inr b)=aq:=cN (λo=>nomatch o)
def Q3(d:aC)(b:Int):decide ((Sum.inr d:ej)=Sum.inl b)=aq:=cN (λo=>nomatch o)
def mr(Su:bl)(l:a8):PySem.KeyKind Su l ej where
 is:=oo
 hash:=Lz l
 inj:=λv d b i h=>by
  rcases lh i with ⟨j,I,rfl,rfl⟩|⟨f,I,rfl,rfl⟩
  ·rcases lh h with ⟨B,J,rfl,a⟩|⟨A,J,rfl,a⟩
   ·injection a with e _;rw[e]
   ·exact nomatch a
  ·rcases lh h with ⟨B,J,rfl,a⟩|⟨A,J,rfl,a⟩
   ·exact nomatch a
   ·injection a with e _;rw[e]
 byValue:=λq v c=>by
  rcases lh c with ⟨j,I,rfl,rfl⟩|⟨f,I,rfl,rfl⟩<;>rfl
 pyHash:=λg c=>by
  rcases lh g with ⟨j,I,rfl,rfl⟩|⟨f,I,rfl,rfl⟩
  ·exact BA c
  ·exact Fb c
 eqBool:=λk g c=>by
  rcases lh k with ⟨j,I,rfl,rfl⟩|⟨f,I,rfl,rfl⟩
  ·rcases lh g with ⟨B,J,rfl,rfl⟩|⟨A,J,rfl,rfl⟩
   ·rw[I6]at c;exact wpAny_eqBool_int c
   ·rw[Nr]at c;exact D_ j I A J _ _ _ _ c
  ·rcases lh g with ⟨B,J,rfl,rfl⟩|⟨A,J,rfl,rfl⟩
   ·rw[Q3]at c;exact Cy f I B J _ _ _ _ c
   ·rw[JH]at c;exact wpAny_eqBool_str c
 «strs»:=λq f I v c=>by
  rcases lh c with ⟨j,J,rfl,a⟩|⟨A,J,rfl,a⟩
  ·exact nomatch a
  ·injection a with e _;subst e;cases v<;>rfl
def Mp(Su:bl)(l:a8)(j:Int)(I:hT):(mr Su l).is (.inl j) (.int j I)=V:=HH j I
def QZ(Su:bl)(l:a8)(f:aC)(I:hT):(mr Su l).is (.inr f) (.str f I)=V:=Iu f I
inductive aj where
 | aV|au (b:Bool)|int (j:Int)|str (f:aC)|qz (b:Array UInt8)|yB (b:UInt64)|ref (d:af)|ty (s:String)
 deriving DecidableEq
variable{R w:List aj}{A v:aj}
def cb:aj->ae->Prop
 |.aV,J=>J=ae.none
 |.au b,J=>J=ae.bool b
 |.int j,J=>∃I,J=ae.int j I
 |.str f,J=>∃I,J=ae.str f I
 |.qz b,J=>∃I,J=ae.bytes b I
 |.yB b,J=>∃I,J=ae.float b I
 |.ref d,J=>J=ae.ref d
 |.ty s,J=>J=ae.type s
abbrev bR:List aj->List ae->Prop:=d9 cb
def bR.length(u:bR w SP):w.length=SP.length:=d9.length u
theorem bR.get:∀{w:List aj}{SP:List ae}{j:Nat}{f:aj},bR w SP->w[j]?=Z f->∃J,SP[j]?=Z J/\cb f J
 |_,_,_,_,.nil,a=>by simp at a
 |_,_,0,_,.cons u _,a=>by simp at a;subst a;exact⟨_,rfl,u⟩
 |_,_,j+1,f,.cons _ I,a=>by
  let⟨@J,t,D⟩:=bR.get (j:=j) (f:=f) I ⇑a;exact⟨J,by simpa using t,D⟩
theorem bR.set{f:aj}{J:ae}(u:cb f J):∀{w:List aj}{SP:List ae} (j:Nat),bR w SP->bR (w.set j f) (SP.set j J)
 |_,_,_,.nil=>.nil
 |_,_,0,.cons _ I=>.cons u I
 |_,_,j+1,.cons o I=>.cons o (bR.set u j I)
theorem bR.append:∀{w SE:List aj}{SP Ta:List ae},bR w SP->bR SE Ta->bR (w++SE) (SP++Ta)
 |_,_,_,_,.nil,m=>m
 |_,_,_,_,.cons u I,m=>.cons u (bR.append I m)
theorem bR.take:∀{w:List aj}{SP:List ae} (s:Nat),bR w SP->bR (w.take s) (SP.take s)
 |_,_,0,_=>.nil
 |_,_,_+1,.nil=>.nil
 |_,_,s+1,.cons u I=>.cons u (bR.take s I)
theorem bR.drop:∀{w:List aj}{SP:List ae} (s:Nat),bR w SP->bR (w.drop s) (SP.drop s)
 |_,_,0,u=>u
 |_,_,_+1,.nil=>.nil
 |_,_,s+1,.cons _ I=>bR.drop s I
def ks:Option aj->Option ae->Prop
 |some v,Z J=>cb v J
 |none,Y=>True
 |_,_=>False
def fH{SV:Type}:List (SV×aj)->List (SV×ae)->Prop:=(d9 λ(r:SV×aj) (o:SV×ae)=>r.1=o.1/\cb r.2 o.2)
def b3:ej->aj
 |.inl j=>.int j
 |.inr f=>.str f
inductive ff where
 | lst (w:List aj)
 | tup (w:List aj)
 | dC (Sx:List (ej×aj))|aF (Sx:List (List ab×aj))
 | set (SF:Int->Bool) (s:Nat)
 | ins (az k:af) (X:List (aC×aj))
 | own (f:af)
 | tp (X:List (aC×aj))
 | met (x f:af)
 | vb (Sp Sq:Int)
 | dq (n:aW) (J:ff)
 | mT (SA:Array ae)
 | ext (Sf:a0->Prop)
variable{n:ff}
abbrev ax:=af->Option ff
variable{P h:ax}
def upd(h:ax)(d:af)(n:ff):ax:=(λb=>if b=d then Z n else h b)
def eF:upd h d n d=Z n:=by unfold upd;rw[aN rfl]
def cP(c:b≠d):upd h d n b=h b:=by unfold upd;rw[aT c]
def zR{J:ff}(c:h d=Z n)(T:h b=Z J)(p:n≠J):d≠b:=by
 intro a;subst a;rw[c]at T;exact p (Option.some.inj T)
def hg(c:h d=Z n)(T:h b=Y):d≠b:=by
 intro a;subst a;rw[c]at T;cases T
mutual
def cD(h:ax):ab->aj->Prop
 |.aV,v=>v=.aV
 |.au b,v=>v=.au b
 |.int j,v=>v=.int j
 |.str f,v=>v=.str f
 |.fn d,v=>v=.ref d
 |.aO C,v=>∃d w n,v=.ref d/\h d=Z (.dq n<|.lst w)/\bF h C w
 |.fd M,v=>∃d n B,v=.ref d/\h d=Z (.dq n<|.aF B)/\B=M.map λr=>([ab.int r.1.1,ab.int r.1.2],aj.int r.2)
 |.tup C,v=>∃d w,v=.ref d/\h d=Z (.tup w)/\bF h C w
def bF(h:ax):List ab->List aj->Prop
 |[],R=>R=[]
 |p::C,R=>∃v u,R=v::u/\cD h p v/\bF h C u
end
def qs(h P:ax):Prop:=(∀d w,h d=Z (.tup w)->P d=Z (.tup w))
structure oU(h P:ax):Prop where
 t:qs h P
 z:∀d n J,h d=Z (.dq n J)->P d=Z (.dq n J)
noncomputable instance {h P:ax}:CoeFun (oU h P) (λ_=>∀d w,h d=Z (.tup w)->P d=Z (.tup w)):=⟨λI=>I.t⟩
mutual
theorem cD.mono{h P:ax}(q:oU h P):∀{p:ab}{v:aj},cD h p v->cD P p v
 |.aV,_,a=>a
 |.au _,_,a=>a
 |.int _,_,a=>a
 |.str _,_,a=>a
 |.fn _,_,a=>a
 |.tup C,_,a=>by
  let⟨d,@w,rfl,t,D⟩:=a;exact⟨d,w,rfl,q.t d w t,bF.mono q D⟩
 |.aO C,_,a=>by
  let⟨d,w,@n,rfl,t,D⟩:=a;exact⟨d,w,n,rfl,q.z d _ _ t,bF.mono q D⟩
 |.fd M,_,a=>by
  let⟨d,n,@B,rfl,t,D⟩:=a;exact⟨d,n,B,rfl,q.z d _ _ t,D⟩
theorem bF.mono{h P:ax}(q:oU h P):∀{C:List ab}{R:List aj},bF h C R->bF P C R
 |[],_,a=>a
 |p::C,_,a=>by
  let⟨v,@u,rfl,t,D⟩:=a;exact⟨v,u,rfl,cD.mono q t,bF.mono q D⟩
end
def hF(h:ax)(q:List ab)(b:af):Prop:=(ab.keys 7 q=V/\cD h (.tup q) (.ref b))
mutual
theorem cD.rT{h P:ax}(q:qs h P):∀{p:ab}{s:Nat}{v:aj},ab.key s p=V->cD h p v->cD P p v
 |.aV,_,_,_,a=>a
 |.au _,_,_,_,a=>a
 |.int _,_,_,_,a=>a
 |.str _,_,_,_,a=>a
 |.fn _,_,_,_,a=>a
 |.tup C,s+1,_,o,a=>by
  let⟨d,@w,rfl,t,D⟩:=a;exact⟨d,w,rfl,q d w t,bF.rT q o D⟩
 |.tup C,0,_,o,a=>nomatch o
 |.aO C,0,_,o,a=>nomatch o
 |.aO C,s+1,_,o,a=>nomatch o
 |.fd _,0,_,o,a=>nomatch o
 |.fd _,s+1,_,o,a=>nomatch o
theorem bF.rT{h P:ax}(q:qs h P):∀{C:List ab}{s:Nat}{R:List aj},ab.keys s C=V->bF h C R->bF P C R
 |[],_,_,_,a=>a
 |p::C,s,_,o,a=>by
  let⟨v,@u,rfl,t,D⟩:=a;rw[ab.keys,cG]at o;exact⟨v,u,rfl,cD.rT q o.1 t,bF.rT q o.2 D⟩
end
def hF.mono{q:List ab}(c:hF h q b)(I:qs h P):hF P q b:=by
 let@⟨e,⟨d,@w,a,t,D⟩⟩:=c;exact⟨e,d,w,a,I d w t,D.rT I e⟩
def l8(c:a0)(d:af)(SM:Array ae):Prop:=(∃n,c.get? d=Z n/\(n.cls,n.dict)=(.type "tuple",Y)/\∃s,n.data=.seq SM s)
def l8.tup{SM:Array ae}(f:l8 c d SM):oi c d SM:=let ⟨n,a,g,u⟩:=f;⟨n,a,(Prod.mk.inj g).1,u⟩
def l8.new(c:a0)(SM:Array ae):l8 (c.push {cls:=.type "tuple",data:=.seq SM}) c.objs.size SM:=⟨_,dH _ rfl,rfl,_,rfl⟩
section
variable(S:bl)(l:a8)
def eC(h:ax)(c:a0)(d:af):ff->Prop
 |.lst w=>w.length<=sizeLine/\∃(Sw:List ae) (s:Nat),bR w Sw/\c.get? d=Z {cls:=.type "list",data:=.seq Sw.toArray s}
 |.tup w=>w.length<=sizeLine/\∃Sw:List ae,bR w Sw/\l8 c d Sw.toArray
 |.dC Sx=>Sx.length<=sizeLine/\(d==iB)=aq/\∃R,fH Sx R/\c.DictOf (mr S l) d R
 |.aF Sx=>Sx.length<=sizeLine/\(d==iB)=aq/\∃w:List (List ab×af×ae),
   d9 (λ(r:List ab×aj) (o:List ab×af×ae)=>r.1=o.1/\hF h r.1 o.2.1/\cb r.2 o.2.2) Sx w/\
   ∃n Sl U,c.get? d=Z n/\n.ExactDict/\n.data=.dict Sl U/\Sl.toList=w.map (entryOfKey<|h6 S l)/\(w.map (·.1)).Nodup
 |.set SF s=>c.SetOf (intKind S l) d SF s
 |.ins az k X=>h k=Z (.own d)/\X.length<=1000/\k≠d/\c.get? d=Z (PySem.W.instObj az k)/\
   ∃i,c.Ns1 k i/\(∀x,ks (X.lookup x)<|i x)/\PySem.Within i (X.map (·.1))
 |.own _=>∃n,c.get? d=Z n
 |.tp X=>∃i,c.Ns1 d i/\∀x,ks (X.lookup x) (i x)
 |.vb Sp Sq=>∃I J v,c.get? d=Z {cls:=.type "range",data:=.fields #[.int Sp I,.int Sq J,.int 1 v]}
 |.dq n J=>c.get? d=Z n/\eC h c d J
 |.mT SA=>c.get? d=Z {cls:=.none,data:=.fields SA}
 |.met x f=>c.get? d=Z (Φd (.ref x)<|.ref f)
 |.ext a=>a c/\(∃n,c.get? d=Z n)/\∀t D:a0,a t->(∀n,t.get? d=Z n->D.get? d=Z n)->a D
def dw(h:ax)(c:a0):Prop:=(∀d n,h d=Z n->eC S l h c d n)
end
section
variable{S:bl}{l:a8}{h P:ax}{c T:a0}{d:af}{n:ff}
def eC.lt(f:eC S l h c d n):d<c.objs.size:=by
 cases n with
 |lst w=>let@⟨_,⟨_,@_,_,a⟩⟩:=f;exact b9 a
 |tup w=>let@⟨_,⟨@_,_,r⟩⟩:=f;exact r.tup.lt
 |dC Sx=>let@⟨_,_,⟨@_,_,⟨n,_,@_,a,_⟩⟩⟩:=f;exact b9 a
 |aF Sx=>let@⟨_,_,⟨@_,_,⟨n,_,@_,a,_⟩⟩⟩:=f;exact b9 a
 |set SF s=>let⟨n,W,W,@W,a,W⟩:=f;exact b9 a
 |ins az k X=>let@⟨_,_,_,a,_⟩:=f;exact b9 a
 |own A=>let⟨@W,a⟩:=f;exact b9 a
 |tp X=>let⟨@W,⟨W,W,@W,a,W⟩,W⟩:=f;exact b9 a
 |vb Sp Sq=>let⟨W,W,@W,a⟩:=f;exact b9 a
 |dq bN J=>let@⟨a,_⟩:=f;exact b9 a
 |mT SA=>exact b9 (show c.get? d=Z _ from f)
 |met x A=>exact b9 (show c.get? d=Z _ from f)
 |ext b=>let@⟨_,⟨@_,a⟩,_⟩:=f;exact b9 a
theorem d9.sD{S0 TG:Type}{L U:S0->TG->Prop}:∀{a:List S0}{c:List TG},d9 L a c->(∀d b,L d b->U d b)->d9 U a c
 |_,_,.nil,_=>.nil
 |_,_,.cons u I,x=>.cons (x _ _ u) (d9.sD I x)
def eC.f7(f:eC S l h c d n)(q:∀b J,(b=d\/h b=Z (.own d))->c.get? b=Z J->T.get? b=Z J)(j:∀b,h b=Z (.own d)->P b=Z (.own d))(m:∀b w,h b=Z (.tup w)->P b=Z (.tup w)):eC S l P T d n:=by
 induction n with
 |lst w=>let@⟨e,⟨Sw,@s,u,a⟩⟩:=f;exact⟨e,Sw,s,u,q _ _ (.inl rfl) a⟩
 |tup w=>let@⟨e,⟨@Sw,u,⟨@bN,a,g⟩⟩⟩:=f;exact⟨e,Sw,u,bN,q _ _ (.inl rfl) a,g⟩
 |dC Sx=>let@⟨e,A,⟨@R,u,⟨bN,Sl,@U,a,g⟩⟩⟩:=f;exact⟨e,A,R,u,bN,Sl,U,q _ _ (.inl rfl) a,g⟩
 |aF Sx=>
  let@⟨e,A,⟨@w,u,⟨bN,Sl,@U,a,g⟩⟩⟩:=f;exact⟨e,A,w,d9.sD u λr o e=>⟨e.1,e.2.1.mono m,e.2.2⟩,bN,Sl,U,q _ _ (.inl rfl) a,g⟩
 |set SF s=>let⟨bN,Sl,U,@I,a,g⟩:=f;exact⟨bN,Sl,U,I,q _ _ (.inl rfl) a,g⟩
 |ins az k X=>
  let@⟨p,e,ne,a,⟨@i,⟨F,Sl,@U,t,g⟩,u⟩⟩:=f;exact⟨j _ p,e,ne,q _ _ (.inl rfl) a,i,⟨F,Sl,U,q _ _ (.inr p) t,g⟩,u⟩
 |own A=>let⟨@bN,a⟩:=f;exact⟨bN,q _ _ (.inl rfl) a⟩
 |tp X=>let⟨@i,⟨F,Sl,@U,a,g⟩,u⟩:=f;exact⟨i,⟨F,Sl,U,q _ _ (.inl rfl) a,g⟩,u⟩
 |vb Sp Sq=>let⟨I,J,@v,a⟩:=f;exact⟨I,J,v,q _ _ (.inl rfl) a⟩
 |dq bN J y=>let@⟨a,o⟩:=f;exact⟨q _ _ (.inl rfl) a,y o⟩
 |mT SA=>
  have a:c.get? d=Z {cls:=.none,data:=.fields SA}:=f;show T.get? d=Z {cls:=.none,data:=.fields SA};exact q d _ (.inl rfl) a
 |met x A=>
  have a:c.get? d=Z (Φd (.ref x)<|.ref A):=f;show T.get? d=Z (Φd (.ref x)<|.ref A);exact q d _ (.inl rfl) a
 |ext B=>let@⟨r,⟨@n,a⟩,z⟩:=f;exact⟨z _ _ r λn o=>q _ _ (.inl rfl) o,⟨n,q _ _ (.inl rfl) a⟩,z⟩
theorem dw.lt(f:dw S l h c)(a:h d=Z n):d<c.objs.size:=(f d n a).lt
def dw.fresh(f:dw S l h c)(a:c.objs.size<=d):h d=Y:=by
 cases o:h d with
 |none=>rfl
 |some J=>exact absurd (eK (f.lt o) a) (jh _)
def dw.kept(f:dw S l h c)(q:∀b J,c.get? b=Z J->T.get? b=Z J):dw S l h T:=λd n a=>
 (f d n a).f7 (λb J X o=>q b J o) (λ_ o=>o) λ_ X o=>o
def dw.laid(f:dw S l h c)(q:∀b J,c.get? b=Z J->T.get? b=Z J)(j:c.objs.size<=d)(new:eC S l (upd h d n) T d n):dw S l (upd h d n) T:=λb J a=>by
 have e:=f.fresh j;by_cases i:b=d
 ·subst i;rw[eF]at a;cases a;exact new
 ·rw[cP i]at a;exact (f b J a).f7 (λg v X o=>q g v o) (λg o=>by rw[cP (hg o e)];exact o) λg w o=>by rw[cP (hg o e)];exact o
end
def i9(h:ax)(d:af)(J:ff):Prop:=(h d=Z J\/∃n,h d=Z (.dq n J))
def i9.ok{J:ff}(u:i9 h d J)(f:dw S l h c):eC S l h c d J:=by
 rcases u with u|⟨n,u⟩
 ·exact f d J u
 ·let@⟨_,o⟩:=f d _ u;exact o
def q3:Option ff->Prop
 |some (.lst _)=>True
 |some (.dC _)=>True
 |some (.aF _)=>True
 |some (.set _ _)=>True
 |some (.ins _ _ _)=>True
 |some (.ext _)=>True
 |_=>False
section
variable{S:bl}{l:a8}{h:ax}{c T:a0}{f a:af}{Th:ff}
def dw.write(ok:dw S l h c)(d:q3 (h f))(k:a=f\/h a=Z (.own f))(q:∀b J,b≠a->c.get? b=Z J->T.get? b=Z J)(p:∃J,T.get? a=Z J)(new:eC S l (upd h f Th) T f Th):dw S l (upd h f Th) T:=λb J o=>by
 have m:∀g A,h g=Z (.own A)->g≠f:=λg A u z=>by subst z;rw[u]at d;exact d
 have r:∀g w,h g=Z (.tup w)->g≠f:=λg w u z=>by subst z;rw[u]at d;exact d
 by_cases e:b=f
 ·subst e;rw[eF]at o;cases o;exact new
 ·rw[cP e]at o;by_cases i:b=a
  ·have n:h b=Z (.own f):=by
    rcases k with z|z
    ·exact absurd (i.trans z) e
    ·rw[i];exact z
   rw[o]at n;cases n;let⟨@v,s⟩:=p;exact⟨v,by rw[i];exact s⟩
  ·refine (ok b J o).f7 (λg v j u=>q g v ?_ u) (λg u=>by rw[cP (m g b u)];exact u) λg w u=>by rw[cP (r g w u)];exact u
   rcases j with rfl|j
   ·exact i
   ·rintro rfl;rcases k with z|z
    ·exact m g b j z
    ·rw[j]at z;cases z;exact e rfl
end
structure dR(X S_:List af)(h P:ax)(c T:a0):Prop where
 keep:∀b n,c.get? b=Z n->h b=Y->b∉X->b∉S_->T.get? b=Z n
 slot:∀b n,c.get? b=Z n->h b=Y->b∈X->b∉S_->∃aH,T.get? b=Z {n with slots:=aH}
 free:∀b n,c.get? b=Z n->h b=Y->b∉S_->P b=Y
 g9:∀b n w,c.get? b=Z n->h b=Z (.tup w)->b∉S_->T.get? b=Z n
 there:∀b n,c.get? b=Z n->b∉S_->∃Th,T.get? b=Z Th
 gz:∀b w,h b=Z (.tup w)->P b=Z (.tup w)
 g0:∀b n J,h b=Z (.dq n J)->P b=Z (.dq n J)
 ih:∀b SA,h b=Z (.mT SA)->∃more,P b=Z (.mT<|SA++more)
section
variable{X i S_ e:List af}{h Sr SK:ax}{c t D T:a0}{d f a:af}{n:ff}
def dR.any(J:dR X S_ h Sr c t){b:af}{bN:aW}(o:c.get? b=Z bN)(s:h b=Y)(a:b∉S_):∃aH,t.get? b=Z {bN with slots:=aH}:=by
 by_cases d:b∈X
 ·exact J.slot b bN o s d a
 ·exact⟨bN.slots,J.keep b bN o s d a⟩
def dR.kept(q:∀b J,c.get? b=Z J->T.get? b=Z J):dR X S_ h h c T:=
 ⟨λb bN o W W W=>q b bN o,λb bN o W W W=>⟨bN.slots,q b bN o⟩,λ_ W W s W=>s,λb bN W o W W=>q b bN o,λb bN o W=>⟨bN,q b bN o⟩,λ_ W o=>o,λ_ W W o=>o,λ_ SA o=>⟨#[],by rw[o];simp⟩⟩
def dR.refl:dR X S_ h h c c:=dR.kept λ_ W o=>o
theorem dR.laid(q:∀b J,c.get? b=Z J->T.get? b=Z J)(e:c.objs.size<=d)(a:h d=Y):dR X S_ h (upd h d n) c T where
 keep:=λb J o W W W=>q b J o
 slot:=λb J o W W W=>⟨J.slots,q b J o⟩
 free:=λb J o s W=>by rw[cP (dJ<|eK (b9 o) e)];exact s
 g9:=λb J W o W W=>q b J o
 there:=λb J o W=>⟨J,q b J o⟩
 gz:=λb w o=>by rw[cP (hg o a)];exact o
 g0:=λb J w o=>by rw[cP (hg o a)];exact o
 ih:=λb SA o=>⟨#[],by rw[cP (hg o a),o];simp⟩
def dR.write(e:q3 (h f))(i:a=f\/h a=Z (.own f))(q:∀b J,b≠a->c.get? b=Z J->T.get? b=Z J)(m:∃J,T.get? a=Z J):dR X S_ h (upd h f n) c T:=by
 have j:∀b,h b=Y->b≠f:=λb s d=>by subst d;rw[s]at e;exact e
 have k:∀b,h b=Y->b≠a:=λb s d=>by
  subst d;rcases i with u|u
  ·exact j b s u
  ·rw[s]at u;cases u
 have g:∀b J,h b=Z J->¬ q3 (Z J)->b≠f:=λb J o C d=>by subst d;rw[o]at e;exact C e
 refine⟨λb J o s W W=>q b J (k b s) o,λb J o s W W=>⟨J.slots,q b J (k b s) o⟩,λb J o s W=>by rw[cP (j b s)];exact s,λb J w o I W=>q b J (λd=>by
   subst d;rcases i with u|u
   ·exact g b _ I (λd=>d) u
   ·rw[I]at u;cases u) o,λb J o W=>?_,
  λb w o=>by rw[cP (g b _ o λd=>d)];exact o,λb J w o=>by rw[cP (g b _ o λd=>d)];exact o,λb SA o=>⟨#[],by rw[cP (g b _ o λd=>d),o];simp⟩⟩
 by_cases l:b=a
 ·subst l;exact m
 ·exact⟨J,q b J l o⟩
def dR.mono(J:dR X S_ h Sr c t)(g:∀b∈X,b∈i)(f:∀b∈S_,b∈e):dR i e h Sr c t:=
 ⟨λb bN o s j d=>J.keep b bN o s (λa=>j<|g b a) λa=>d<|f b a,λ_ W o s W d=>J.any o s λa=>d<|f _ a,λb bN o s d=>J.free b bN o s λa=>d<|f b a,λb bN w o I d=>J.g9 b bN w o I λa=>d<|f b a,λb bN o d=>J.there b bN o λa=>d<|f b a,J.gz,J.g0,J.ih⟩
end
def td(c:a0)(h:ax):List af:=((range c.objs.size).filter λd=>(h d).isSome)
def By:List ae->Option (List aj)
 |[.int j _,.int B _]=>Z [.int j,.int B]
 |_=>Y
def qP(n:aW):Option (List aj):=(
 match n.cls,n.dict,n.data with
 | .type "tuple",Y,.seq Sw _=>By Sw.toList
 |_,_,_=>Y)
def kc(n:aW):Option ff:=((qP n).map .tup)
def lD(c:a0)(h:ax):a0:=(Φa c (td c h))
def Ll(c:a0)(h:ax):(lD c h).objs.size=c.objs.size:=PySem.W.hideAll_size _ _
def GU{n:aW}(a:c.get? b=Z n)(s:h b=Y):(lD c h).get? b=Z n:=
 p5 _ a λd=>by
  have o:(h b).isSome=V:=(gM.mp d).2;rw[s]at o;simp at o
def vJ{n:aW}(a:(lD c h).get? b=Z n):c.get? b=Z n/\h b=Y:=by
 have d:c.get? b=Z n:=u6 (td c h) a;refine⟨d,?_⟩;cases o:h b with
 |none=>rfl
 |some f=>
  have e:b∈td c h:=gM.mpr ⟨g6.mpr<|b9 d,by simp[o]⟩;have g:(lD c h).get? b=Y:=oK (td c h) e;rw[g]at a;cases a
def MM(N c:a0)(Sv:af):List (af×aW):=((range c.objs.size).filterMap λd=>if d=Sv\/(N.get? d).isSome=V then Y else (c.get? d).map λn=>(d,n))
def cR(N c:a0)(Sv p:af):List (af×aW):=((MM N c Sv).filter λr=>decide (r.1≠p))
structure Mod(Q:Φ)(aw:aC->Option ae)(Sz:a0):Prop where
 oq:Q.In Sz
 glob:Sz.Ns cT aw
 blt:∃DD,Sz.Ns tO DD/\∀f:aC,f ≠ "__name__" -> DD f=eB f
 nolimit:Sz.NoLimit
structure aK where
 prog:bl
 w:a8
 K:Φ
 aw:aC->Option ae
 base:a0
 A:bp
 N:List aC
 eh:av
 mA:ax
 env:dU
 outer:List dU
 stack:List dU
 ex:List af
 fn:aC->Bool
 calm:Bool
 e0:List (af×aW)
 cj:ae->av->Prop
variable{e:aK}
def dN(H:List dU):List af:=(H.filterMap (·.frame))
abbrev aK.X(e:aK):List af:=dN e.outer
def t5(i:gj)(f:aC):Prop:=(i.names.lookup f=Z .local\/i.names.lookup f=Z .cell\/i.names.lookup f=Z .free)
def jP(i:gj)(f:aC):Prop:=(i.names.lookup f=Z .local\/i.names.lookup f=Z .cell)
def NF(Sk:dU)(c:a0)(M:aC->Option ae)(f:aC)(J:ae):Prop:=(
 (Sk.kindOf f=Z .local/\M f=Z J)\/((Sk.kindOf f=Z .cell\/Sk.kindOf f=Z .free)/\∃g,Sk.cells.lookup f=Z g/\c.IsCell g (Z J)))
structure aK.Ok(e:aK):Prop where
 mod:Mod e.K e.aw e.base
 kind:e.env.scope.kind=.function
 glob:e.env.globals=cT
 blt:e.env.builtins=tO
 above:e.eh.heap.objs.size<=e.env.locals
 inj:∀f A g,e.env.cells.lookup f=Z g->e.env.cells.lookup A=Z g->f=A
 has:∀f,(e.env.kindOf f=Z .cell\/e.env.kindOf f=Z .free)->∃g,e.env.cells.lookup f=Z g
 iE:∀f g,e.fn f=V->e.env.cells.lookup f=Z g->e.eh.heap.objs.size<=g
 hd:e.calm=V->e.A.handled=Y
 frames:e.A.frames=Z e.stack
 jQ:e.stack=e.outer\/(e.stack=e.env::e.outer/\e.env.frame=Z e.env.locals)
 lI:∀b∈e.ex,b≠e.env.locals/\∀f g,e.env.cells.lookup f=Z g->g≠b
 bs:∀b n,e.base.get? b=Z n->e.eh.heap.get? b=Z n/\e.mA b=kc n
 hq:e.base.objs.size<=e.eh.heap.objs.size
 iZ:∀b n,e.base.get? b=Z n->b∉e.ex
 ja:∀b∈e.ex,b∉e.X
 fO:e.eh.heap.FunFrames e.base e.outer
 iK:∀b∈e.X,e.mA b=Y
structure aG(e:aK)(G:List (af×aW))(y:List (Option aj))(h:ax)(m:av):Prop where
 ok:e.Ok
 os:m.os=e.eh.os
 bare:ke m.gens
 base:dR e.X e.ex e.mA h e.eh.heap m.heap
 loc:∃M,m.heap.Ns e.env.locals M/\∀(j:Nat) (f:aC) (v:aj),e.N[j]?=Z f->y[j]?=Z (Z v)->t5 e.env.scope f->∃J,cb v J/\NF e.env m.heap M f J
 cell:∀f g,e.env.cells.lookup f=Z g->∃v,m.heap.IsCell g v
 free:h e.env.locals=Y
 fW:∀f g,e.env.cells.lookup f=Z g->h g=Y
 pin:∀r∈e.e0++G,m.heap.get? r.1=Z r.2/\h r.1=Y/\r.1≠e.env.locals/\r.1∉e.X/\∀v,r.2.data≠.cell v
 aR:dw e.prog e.w h m.heap
 len:y.length=e.N.length
section
variable{e:aK}{G:List (af×aW)}{y:List (Option aj)}{h P:ax}{m:av}{T:a0}
def aK.Ok.I5(ok:e.Ok){b:af}{n:aW}(a:e.base.get? b=Z n):b∉e.X:=λc=>by
 have:=(ok.fO.mem c).1;rw[a]at this;cases this
def aG.bs(i:aG e G y h m):∀b n,e.base.get? b=Z n->m.heap.get? b=Z n/\h b=kc n:=λb n a=>by
 let⟨t,D⟩:=i.ok.bs b n a;cases g:qP n with
 |none=>
  have s:e.mA b=Y:=D.trans (by rw[kc,g];rfl);exact⟨i.base.keep b n t s (i.ok.I5 a)<|i.ok.iZ b n a,(i.base.free b n t s<|i.ok.iZ b n a).trans<|s.symm.trans D⟩
 |some w=>
  have I:e.mA b=Z (.tup w):=D.trans (by rw[kc,g];rfl);exact⟨i.base.g9 b n w t I<|i.ok.iZ b n a,(i.base.gz b w I).trans<|I.symm.trans D⟩
def aG.eu(i:aG e G y h m):∀b n,e.base.get? b=Z n->m.heap.get? b=Z n:=λb n a=>(i.bs b n a).1
def aG.mod(i:aG e G y h m):Mod e.K e.aw e.base:=i.ok.mod
def aG.jl(i:aG e G y h m):e.K.In m.heap:=i.ok.mod.oq.keeps i.eu
def aG.lt(i:aG e G y h m):e.env.locals<m.heap.objs.size:=let ⟨_,a,_⟩:=i.loc;a.lt
def aG.ko(i:aG e G y h m):e.eh.heap.objs.size<=m.heap.objs.size:=ee i.ok.above (p4 i.lt)
def aG.Km(i:aG e G y h m){d:af}(c:m.heap.objs.size<=d):d∉e.X:=λa=>by
 let@⟨_,⟨@n,b,_⟩⟩:=i.ok.fO.mem a;exact absurd (eK (b9 b)<|ee i.ko c) (jh _)
def aG.lN(i:aG e G y h m):∀f g,e.env.cells.lookup f=Z g->g≠e.env.locals:=λf g a c=>by
 let⟨v,@n,b,hd⟩:=i.cell f g a;let⟨@M,⟨Th,Sl,@U,d,j,X⟩,X⟩:=i.loc;rw[c,d]at b;cases b;rw[j]at hd;cases hd
def aG.fO(i:aG e G y h m):m.heap.FunFrames e.base e.outer:=by
 have all:∀(H:List dU),(∀b∈dN H,b∈e.X)->e.eh.heap.FunFrames e.base H->m.heap.FunFrames e.base H:=by
  intro H;induction H with
  |nil=>intro W W;trivial
  |cons Sk u j=>
   intro g k;let@⟨l,⟨Sv,@n,c,o,p,hd⟩,q⟩:=k;have d:Sv∈e.X:=g Sv (by unfold dN;rw[qG,c];exact lX);let⟨@aH,a⟩:=i.base.slot Sv n p (i.ok.iK Sv d) d λr=>i.ok.ja Sv r d;exact⟨l,⟨Sv,_,c,o,a,hd⟩,j (λb f=>g b (by unfold dN;rw[qG,c];exact kL _ f)) q⟩
 exact all e.outer (λ_ f=>f) i.ok.fO
def aG.stack(i:aG e G y h m):m.heap.FunFrames e.base e.stack:=by
 rcases i.ok.jQ with a|⟨a,b⟩
 ·rw[a];exact i.fO
 ·rw[a];let⟨@M,c,X⟩:=i.loc;refine .cons (by rw[i.ok.kind];decide) b c ?_ i.fO;exact w9 (ee i.ok.hq i.ok.above)
def aG.vS(i:aG e G y h m):∀b∈dN e.stack,b∈e.env.locals::e.X:=λb c=>by
 rcases i.ok.jQ with a|⟨a,d⟩
 ·rw[a]at c;exact kL _ c
 ·rw[a]at c;unfold dN at c;rw[qG,d]at c;exact c
def aG.qr(i:aG e G y h m):∀b∈dN e.stack,h b=Y:=λb c=>by
 rcases bL.mp (i.vS b c) with a|c
 ·rw[a];exact i.free
 ·let@⟨_,⟨@n,d,_⟩⟩:=i.ok.fO.mem c;exact i.base.free b n d (i.ok.iK b c) λf=>i.ok.ja b f c
def aG.step{D:Array nW}{S4:Nat}{R:Drawn}{TH:List af}(i:aG e G y h m)(x:∀b∈TH,(b∈e.ex\/e.eh.heap.objs.size<=b)/\b≠e.env.locals/\(∀f g,e.env.cells.lookup f=Z g->g≠b)/\∀r∈e.e0++G,r.1≠b)(keep:∀b n,b≠e.env.locals->b∉e.X->b∉TH->m.heap.get? b=Z n->h b=Y->T.get? b=Z n)(E:∀b n,b≠e.env.locals->b∈e.X->b∉TH->m.heap.get? b=Z n->h b=Y->∃aH,T.get? b=Z {n with slots:=aH})(free:∀b n,b∉TH->m.heap.get? b=Z n->h b=Y->P b=Y)(S:∀b n,b∉TH->m.heap.get? b=Z n->∃Th,T.get? b=Z Th)(g9:∀b n w,b∉TH->m.heap.get? b=Z n->h b=Z (.tup w)->T.get? b=Z n)(gz:∀b w,h b=Z (.tup w)->P b=Z (.tup w))(g0:∀b n J,h b=Z (.dq n J)->P b=Z (.dq n J))(ih:∀b SA,h b=Z (.mT SA)->∃U,P b=Z (.mT<|SA++U))(SN:∀M,m.heap.Ns e.env.locals M->T.Ns e.env.locals M)(aR:dw e.prog e.w P T)(al:ke D):
  aG e G y P {m with heap:=T,gens:=D,drawn:=R,toks:=S4}:=by
 have F:∀b n,e.eh.heap.get? b=Z n->b≠e.env.locals:=λb n a=>dJ (eK (b9 a) i.ok.above);have A:∀b n,e.eh.heap.get? b=Z n->b∉e.ex->b∉TH:=λb n a c k=>by
  rcases (x b k).1 with z|z
  ·exact c z
  ·exact absurd (eK (b9 a) z) (jh _)
 have L:∀f g,e.env.cells.lookup f=Z g->∀v,m.heap.IsCell g v->T.IsCell g v:=λf g a v ⟨n,t,hd⟩=>by
  have B:g∉TH:=λz=>(x g z).2.2.1 f g a rfl;by_cases N:g∈e.X
  ·let⟨@aH,o⟩:=E g n (i.lN f g a) N B t (i.fW f g a);exact⟨_,o,hd⟩
  ·exact⟨n,keep g n (i.lN f g a) N B t<|i.fW f g a,hd⟩
 refine⟨i.ok,i.os,al,⟨λb n a s k c=>?_,λb n a s k c=>?_,λb n a s c=>?_,λb n w a I c=>g9 b n w (A b n a c) (i.base.g9 b n w a I c)<|i.base.gz b w I,λb n a c=>?_,λb w a=>gz b w<|i.base.gz b w a,λb n w a=>g0 b n w<|i.base.g0 b n w a,λb SA a=>?_⟩,?_,λf g a=>?_,?_,λf g a=>?_,λr O=>?_,aR,i.len⟩
 ·exact keep b n (F b n a) k (A b n a c) (i.base.keep b n a s k c) (i.base.free b n a s c)
 ·let⟨@aH,d⟩:=i.base.slot b n a s k c;let⟨@am,C⟩:=E b _ (F b n a) k (A b n a c) d (i.base.free b n a s c);exact⟨am,C⟩
 ·let⟨@Th,d⟩:=i.base.there b n a c;exact free b Th (A b n a c) d (i.base.free b n a s c)
 ·let⟨@Th,d⟩:=i.base.there b n a c;exact S b Th (A b n a c) d
 ·let⟨@an,d⟩:=i.base.ih b SA a;let⟨@ap,C⟩:=ih b _ d;exact⟨an++ap,by rw[C,zy]⟩
 ·let⟨@M,as,a1⟩:=i.loc;refine⟨M,SN M as,λj f v d C a2=>?_⟩;let⟨@J,u,H⟩:=a1 j f v d C a2;refine⟨J,u,?_⟩;rcases H with H|⟨q,g,a,z⟩
  ·exact .inl H
  ·exact .inr ⟨q,g,a,L f g a _ z⟩
 ·let⟨@v,z⟩:=i.cell f g a;exact⟨v,L f g a v z⟩
 ·let⟨@M,⟨n,W,@W,t,W⟩,W⟩:=i.loc;exact free _ n (λz=>(x _ z).2.1 rfl) t i.free
 ·let⟨v,@n,t,hd⟩:=i.cell f g a;exact free g n (λz=>(x g z).2.2.1 f g a rfl) t (i.fW f g a)
 ·let@⟨a,s,ne,Q,p⟩:=i.pin r O;have B:r.1∉TH:=λz=>(x r.1 z).2.2.2 r O rfl;exact⟨keep r.1 r.2 ne Q B a s,free r.1 r.2 B a s,ne,Q,p⟩
def aG.un(i:aG e G y h m)(J:dR e.X [] h P m.heap T)(aR:dw e.prog e.w P T):aG e G y P {m with heap:=T,toks:=S4}:=by
 let⟨@M,⟨n,Sl,@U,d,u⟩,W⟩:=id i.loc;let⟨@aH,g⟩:=J.any d i.free ↥0;exact i.step (D:=m.gens) (R:=m.drawn) (TH:=[]) (λ_ j=>nomatch j) (λb n W c W a s=>J.keep b n a s c ↥0) (λb n W c W a s=>J.slot b n a s c ↥0) (λb n W a s=>J.free b n a s ↥0) (λb n W a=>J.there b n a ↥0) (λb n w W a I=>J.g9 b n w a I ↥0) J.gz J.g0 J.ih (λt k=>by
  let⟨Th,o,@p,f,Tg⟩:=k;rw[d]at f;cases f;exact⟨_,o,p,g,Tg⟩) aR i.bare
def aG.call{k:Array nW}{t:Drawn}(i:aG e G y h m)(J:dR (dN e.stack) TH h P m.heap T)(aR:dw e.prog e.w P T)(v:ke k)(o:∀b∈TH,(b∈e.ex\/e.eh.heap.objs.size<=b)/\b≠e.env.locals/\(∀f g,e.env.cells.lookup f=Z g->g≠b)/\∀r∈e.e0++G,r.1≠b):
  aG e G y P {m with heap:=T,gens:=k,drawn:=t,toks:=S4}:=by
 let⟨@M,⟨n,Sl,@U,p,u⟩,X⟩:=id i.loc;let⟨@aH,d⟩:=J.any p i.free λj=>(o _ j).2.1 rfl;exact i.step (TH:=TH) o (λb n d x c a s=>J.keep b n a s (λj=>(bL.mp<|i.vS b j).elim d x) c) (λb n X X c a s=>J.any a s c) (λb n c a s=>J.free b n a s c) (λb n c a=>J.there b n a c) (λb n w c a I=>J.g9 b n w a I c) J.gz J.g0 J.ih (λC z=>by
  let⟨Th,A,@B,q,Tg⟩:=z;rw[p]at q;cases q;exact⟨_,A,B,d,Tg⟩) aR v
def aG.turned{it:af}(i:aG e G y h m)(q:∀b n,b≠it->m.heap.get? b=Z n->T.get? b=Z n)(k:h it=Y)(d:it≠e.env.locals)(t:it∈e.ex\/e.eh.heap.objs.size<=it)(D:∀f g,e.env.cells.lookup f=Z g->g≠it)(l:∀r∈e.e0++G,r.1≠it):aG e G y h {m with heap:=T,toks:=S4}:=by
 have j:∀b J,h b=Z J->b≠it:=λb J a z=>by rw[z,k]at a;cases a
 refine i.step (D:=m.gens) (R:=m.drawn) (TH:=[it]) (λb p=>?_) (λb n X X c a X=>q b n (λz=>c (by simp[z])) a) (λb n X X c a X=>⟨n.slots,q b n (λz=>c (by simp[z])) a⟩) (λ_ X X X s=>s)
  (λb n c a=>⟨n,q b n (λz=>c (by simp[z])) a⟩) (λb n X c a X=>q b n (λz=>c (by simp[z])) a) (λ_ X a=>a) (λ_ X X a=>a) (λb SA a=>⟨#[],by rw[a];simp⟩) (λM w=>?_) (λb J a=>?_) i.bare
 ·have a:b=it:=by simpa using p
  subst a;exact⟨t,d,D,l⟩
 ·let⟨n,Sl,@U,x,u⟩:=w;exact⟨n,Sl,U,q _ n (fD d) x,u⟩
 ·refine (i.aR b J a).f7 (λg v c o=>q g v ?_ o) (λ_ o=>o) λ_ X o=>o;rcases c with z|z
  ·rw[z];exact j b J a
  ·exact j g _ z
def aG.tok(i:aG e G y h m)(I:Nat):aG e G y h {m with toks:=I}:=i.un (T:=m.heap) (S4:=I) dR.refl i.aR
def aG.kept(i:aG e G y h m)(q:∀b J,m.heap.get? b=Z J->T.get? b=Z J):aG e G y h {m with heap:=T,toks:=S4}:=i.un (dR.kept q) (i.aR.kept q)
def aG.laid(i:aG e G y h m)(q:∀b J,m.heap.get? b=Z J->T.get? b=Z J)(a:m.heap.objs.size<=d)(new:eC e.prog e.w (upd h d n) T d n):
  aG e G y (upd h d n) {m with heap:=T,toks:=S4}:=i.un (dR.laid q a<|i.aR.fresh a) (i.aR.laid q a new)
def aG.write{f a:af}(i:aG e G y h m)(c:q3 (h f))(d:a=f\/h a=Z (.own f))(q:∀b J,b≠a->m.heap.get? b=Z J->T.get? b=Z J)(g:∃J,T.get? a=Z J)(new:eC e.prog e.w (upd h f n) T f n):aG e G y (upd h f n) {m with heap:=T,toks:=S4}:=i.un (dR.write c d q g) (i.aR.write c d q g new)
def aG.weak{a:List (Option aj)}(i:aG e G y h m)(b:a.length=y.length)(l:∀(j:Nat) v,a[j]?=Z (Z v)->y[j]?=Z (Z v)):aG e G a h m:=
 ⟨i.ok,i.os,i.bare,i.base,let ⟨M,c,d⟩:=i.loc;⟨M,c,λj f v g k n=>d j f v g (l j v k) n⟩,i.cell,i.free,i.fW,i.pin,i.aR,b.trans i.len⟩
def aG.n_{a:List (af×aW)}(i:aG e G y h m)(c:∀r∈a,m.heap.get? r.1=Z r.2/\h r.1=Y/\r.1≠e.env.locals/\r.1∉e.X/\∀v,r.2.data≠.cell v):aG e a y h m:=
 ⟨i.ok,i.os,i.bare,i.base,i.loc,i.cell,i.free,i.fW,λr b=>(dt.mp b).elim (λd=>i.pin r<|c5 _ d)<|c r,i.aR,i.len⟩
def yQ(a:SS.Nodup){j B:Nat}{f:aC}(d:SS[j]?=Z f)(b:SS[B]?=Z f):j=B:=by
 let⟨@t,c⟩:=fY.mp d;let⟨@D,e⟩:=fY.mp b;exact (CQ a).mp (c.trans e.symm)
variable{E:Unit->av->Prop}
def wJ{aE:ik}(i:aG e G y h m)(a1:e.N.Nodup)(Sq:e.N[j]?=Z f)(t:jP e.env.scope f)(u:cb v J)(c:∀Ss,aG e G (y.set j<|Z v) h Ss->(∃d,a0.SameBut d m.heap Ss.heap/\(d=e.env.locals\/e.env.cells.lookup f=Z d))->E () Ss)(bv:e.fn f=V\/e.env.scope.names.lookup f=Z .local:=by first|exact .inl rfl|exact .inr rfl|assumption):wpAny aE O (storeName e.env f J) E Sn m:=by
 let⟨@M,U,a2⟩:=id i.loc;have ca:(e.env.scope.kind==.class || (e.env.scope.kind==.module&&e.env.locals != e.env.globals))=aq:=by rw[i.ok.kind];rfl
 have bd:j<y.length:=by rw[i.len];exact (fY.mp Sq).1
 have lN:=i.lN;have be:∀{d:af}{T:a0},(∃n,m.heap.get? d=Z n/\h d=Y)->a0.SameBut d m.heap T->dw e.prog e.w h T:=λ{d T} cd k b bN a=>by
  let⟨@X,X,bi⟩:=cd;refine (i.aR b bN a).f7 (λg Q C o=>(k.2 g ?_).trans o) (λ_ o=>o) λ_ X o=>o;rintro rfl;rcases C with rfl|C
  ·rw[bi]at a;cases a
  ·rw[bi]at C;cases C
 rcases t with F|F
 ·refine wpAny_storeName_local F U (λT ce k=>?_) ca;let⟨ch,X,@X,ci,X⟩:=id U;refine c _ ⟨i.ok,i.os,i.bare,⟨λb n a s L t=>?_,λb n a s L t=>?_,i.base.free,λb n w a I t=>(k.2 b<|dJ<|eK (b9 a) i.ok.above).trans<|i.base.g9 b n w a I t,λb n a t=>?_,i.base.gz,i.base.g0,i.base.ih⟩,⟨_,ce,λB A al x D am=>?_⟩,λA g a=>?_,i.free,i.fW,λr an=>?_,be ⟨ch,ci,i.free⟩ k,by simpa using i.len⟩ ⟨_,k,.inl rfl⟩
  ·exact (k.2 b<|dJ<|eK (b9 a) i.ok.above).trans (i.base.keep b n a s L t)
  ·let⟨@aH,x⟩:=i.base.slot b n a s L t;exact⟨aH,(k.2 b<|dJ<|eK (b9 a) i.ok.above).trans x⟩
  ·let⟨@Th,x⟩:=i.base.there b n a t;exact⟨Th,(k.2 b<|dJ<|eK (b9 a) i.ok.above).trans x⟩
  ·by_cases P:B=j
   ·subst P;rw[Sq]at x;cases x;rw[t2 bd]at D;cases D;exact⟨J,u,.inl ⟨F,by simp⟩⟩
   ·rw[mL (fD P)]at D;let⟨@ap,Tg,o⟩:=a2 B A al x D am;refine⟨ap,Tg,?_⟩;rcases o with ⟨q,a⟩|⟨q,g,a,z⟩
    ·refine .inl ⟨q,?_⟩;have:A≠f:=λa=>P (yQ a1 x<|a ▸ Sq);simp[this,a]
    ·exact .inr ⟨q,g,a,z.sameBut k<|lN A g a⟩
  ·let⟨@Q,z⟩:=i.cell A g a;exact⟨Q,z.sameBut k<|lN A g a⟩
  ·let@⟨a,s,ne,as,p⟩:=i.pin r an;exact⟨(k.2 r.1 ne).trans a,s,ne,as,p⟩
 ·have R:e.fn f=V:=by
   rcases bv with z|z
   ·exact z
   ·rw[z]at F;cases F
  let⟨@g,C⟩:=i.ok.has f (.inl F);let⟨@Q,z⟩:=i.cell f g C;refine wpAny_storeName_cell i.ok.kind F C z (λT bm k=>?_);let⟨@TV,bn,cl⟩:=id z;refine c {m with heap:=T} ⟨i.ok,i.os,i.bare,⟨λb n a s L t=>?_,λb n a s L t=>?_,i.base.free,λb n w a I t=>(k.2 b<|dJ<|eK (b9 a)<|i.ok.iE f g R C).trans<|i.base.g9 b n w a I t,λb n a t=>?_,i.base.gz,i.base.g0,i.base.ih⟩,⟨M,U.sameBut k<|fD<|lN f g C,λB A al x D am=>?_⟩,λA S a=>?_,i.free,i.fW,λr an=>?_,be ⟨TV,bn,i.fW f g C⟩ k,by simpa using i.len⟩ ⟨g,k,.inr C⟩
  ·exact (k.2 b<|dJ<|eK (b9 a)<|i.ok.iE f g R C).trans (i.base.keep b n a s L t)
  ·let⟨@aH,x⟩:=i.base.slot b n a s L t;exact⟨aH,(k.2 b<|dJ<|eK (b9 a)<|i.ok.iE f g R C).trans x⟩
  ·let⟨@Th,x⟩:=i.base.there b n a t;exact⟨Th,(k.2 b<|dJ<|eK (b9 a)<|i.ok.iE f g R C).trans x⟩
  ·by_cases P:B=j
   ·subst P;rw[Sq]at x;cases x;rw[t2 bd]at D;cases D;exact⟨J,u,.inr ⟨.inl F,g,C,bm⟩⟩
   ·rw[mL (fD P)]at D;let⟨@ap,Tg,o⟩:=a2 B A al x D am;refine⟨ap,Tg,?_⟩;rcases o with o|⟨q,S,a,co⟩
    ·exact .inl o
    ·refine .inr ⟨q,S,a,co.sameBut k ?_⟩;rintro rfl;exact P (yQ a1 x<|i.ok.inj _ _ _ a C ▸ Sq)
  ·by_cases bs:S=g
   ·subst bs;exact⟨_,bm⟩
   ·let⟨@cr,cs⟩:=i.cell A S a;exact⟨cr,cs.sameBut k bs⟩
  ·let@⟨a,s,ne,as,p⟩:=i.pin r an;refine⟨(k.2 r.1 ?_).trans a,s,ne,as,p⟩;intro o;rw[o,bn]at a;have db:TV=r.2:=Option.some.inj a;exact p Q (by rw[<-db];exact cl)
def Ar{aE:ik}(i:aG e G y h m)(a:e.N.Nodup)(Sq:e.N[j]?=Z f)(b:jP e.env.scope f)(u:cb v J)(c:∀Ss,aG e G (y.set j<|Z v) h Ss->E () Ss)(d:e.fn f=V\/e.env.scope.names.lookup f=Z .local:=by first|exact .inl rfl|exact .inr rfl|assumption):wpAny aE O (storeName e.env f J) E Sn m:=
 wJ i a Sq b u (λSs g X=>c Ss g) d
def aG.DR(i:aG e G y h m)(j:Ss.os=m.os)(J:dR (dN e.stack) TH h P m.heap Ss.heap)(aR:dw e.prog e.w P Ss.heap)(k:ke Ss.gens)(n:∀b∈TH,(b∈e.ex\/e.eh.heap.objs.size<=b)/\b≠e.env.locals/\(∀f g,e.env.cells.lookup f=Z g->g≠b)/\∀r∈e.e0++G,r.1≠b):aG e G y P Ss:=by
 let⟨T,c,d,S4,Th⟩:=Ss;have a:Th=m.os:=j;subst a;exact i.call (k:=c) (S4:=S4) (t:=d) J aR k n
end
abbrev fA:=ae->Option af->ax->Prop
abbrev aS:=List (Option aj)
variable{y:aS}
abbrev cu:=aj->ax->Prop
abbrev b2:=aS->ax->cu->Prop
variable{TF:b2}
abbrev er:=aS->ax->(Bool->ax->Prop)->Prop
variable{U:er}
abbrev e_:=aS->ax->(List aj->ax->Prop)->Prop
structure lS where
 aX:aS->ax->Prop
 dX:cu
 eu:aS->ax->Prop:=λ_ _=>False
 bX:aS->ax->Prop:=λ_ _=>False
abbrev eW:=lS->aS->ax->Prop
variable{TB:eW}
def ew(e:aK)(G:List (af×aW))(y:aS)(E:cu)(J:ae)(Ss:av):Prop:=(∃v P,aG e G y P Ss/\cb v J/\E v P)
def t7(e:aK)(G:List (af×aW))(y:aS)(E:Bool->ax->Prop)(b:Bool)(Ss:av):Prop:=(∃P,aG e G y P Ss/\E b P)
def PY(e:aK)(G:List (af×aW))(y:aS)(E:List aj->ax->Prop)(SP:List ae)(Ss:av):Prop:=(∃R P,aG e G y P Ss/\bR R SP/\E R P)
def k9(e:aK)(G:List (af×aW))(k:lS)(x:Flow)(Ss:av):Prop:=(
 match x with
 |.next=>∃a P,aG e G a P Ss/\k.aX a P
 |.brk=>∃a P,aG e G a P Ss/\k.eu a P
 |.cont=>∃a P,aG e G a P Ss/\k.bX a P
 |.ret J=>∃v a P,aG e G a P Ss/\cb v J/\k.dX v P)
def v8(e:aK)(a:a_)(I:b2)(G:List (af×aW)):Prop:=(
 ∀(m:av) (y:aS) (h:ax) (E:cu),aG e G y h m->I y h E->wpAny (aQ e.prog e.w) e.A (b1 a e.env) (ew e G y E) e.cj m)
def bE(e:aK)(a:a_)(I:b2):Prop:=(∀G,v8 e a I G)
def An(e:aK)(a:a_)(I:er)(G:List (af×aW)):Prop:=(
 ∀(m:av) (y:aS) (h:ax) (E:Bool->ax->Prop),aG e G y h m->I y h E->wpAny (aQ e.prog e.w) e.A (oE a e.env<|b1 a e.env) (t7 e G y E) e.cj m)
def hb(e:aK)(a:a_)(I:er):Prop:=(∀G,An e a I G)
def Bs(e:aK)(a:a_)(I:er)(b:fx ae):Prop:=(
 ∀(G:List (af×aW)) (m:av) (y:aS) (h:ax) (E:Bool->ax->Prop),aG e G y h m->I y h E->wpAny (aQ e.prog e.w) e.A (oE a e.env b) (t7 e G y E) e.cj m)
def jN(e:aK)(a:a_)(I:er):Prop:=(∀b,Bs e a I b)
def jN.pt{e:aK}{a:a_}{I:er}(c:jN e a I):hb e a I:=c _
def AP(e:aK)(Sl:List a_)(I:e_)(SD:cn):Prop:=(
 ∀(G:List (af×aW)) (m:av) (y:aS) (h:ax) (E:List aj->ax->Prop),aG e G y h m->I y h E->wpAny (aQ e.prog e.w) e.A (spliced<|e8 SD<|bw Sl e.env) (PY e G y E) e.cj m)
def g7(e:aK)(Sl:List a_)(I:e_):Prop:=(∀SD,AP e Sl I SD)
def B9(e:aK)(z:bQ)(I:eW)(G:List (af×aW)):Prop:=(
 ∀(m:av) (y:aS) (h:ax) (k:lS),aG e G y h m->I k y h->wpAny (aQ e.prog e.w) e.A (exec z e.env) (k9 e G k) e.cj m)
def hv(e:aK)(z:bQ)(I:eW):Prop:=(∀G,B9 e z I G)
def FA(e:aK)(z:List bQ)(I:eW)(G:List (af×aW)):Prop:=(
 ∀(m:av) (y:aS) (h:ax) (k:lS),aG e G y h m->I k y h->wpAny (aQ e.prog e.w) e.A (execs z e.env) (k9 e G k) e.cj m)
def gD(e:aK)(z:List bQ)(I:eW):Prop:=(∀G,FA e z I G)
def bP{S0:Type}{I:fx S0}{E a:S0->av->Prop}{aE:ik}(c:wpAny aE O I E Sn m)(b:∀d m,E d m->a d m):wpAny aE O I a Sn m:=gW c b λ_ X f=>f
section
variable{e:aK}
def kR(j:Nat):b2:=(λy h E=>∃v,y[j]?=Z (Z v)/\E v h)
def mH(v:aj):b2:=(λ_ h E=>E v h)
def z5(l:e.N[j]?=Z f)(n:t5 e.env.scope f)(hd:(f==("__debug__" : aC))=aq:=by decide)(o:(f==("__classdict__" : aC))=aq:=by decide):bE e (.Name f SD) (kR j):=by
 intro G m y h E i c;let⟨@v,a,c⟩:=c;let⟨@M,p,q⟩:=i.loc;let⟨@J,u,H⟩:=q j f v l a n;have fin:ew e G y E J m:=⟨v,h,i,u,c⟩;rcases H with ⟨b,r⟩|⟨b,g,d,k⟩
 ·exact zh (wpAny_loadName_local i.ok.kind b p r fin) hd
 ·rcases b with b|b
  ·exact zh (wpAny_loadName_cell i.ok.kind b d k fin) hd
  ·exact zh (wpAny_loadName_free i.ok.kind b d k fin o) hd
def Ou{j B SD}:bE e (.Constant (.int j) B SD) (mH<|.int j):=λ_ X X h X i c=>wpAny_Constant_int ⟨.int j,h,i.tok _,⟨_,rfl⟩,c⟩
def Pg{b B SD}:bE e (.Constant (.bool b) B SD) (mH<|.au b):=λ_ X X h X i c=>Constant_bool ⟨.au b,h,i,rfl,c⟩
def Jy{B SD}:bE e (.Constant .none B SD) (mH .aV):=λ_ X X h X i c=>Constant_none ⟨.aV,h,i,rfl,c⟩
def Bg{f B SD}:bE e (.Constant (.str f) B SD) (mH<|.str f):=λ_ X X h X i c=>Calls.Constant_str ⟨.str f,h,i.tok _,⟨_,rfl⟩,c⟩
def dP(e:aK)(f:aC):Prop:=(e.env.kindOf f=Z .globalImplicit)
def si(i:aG e G y h m)(a:dP e f)(b:e.aw f=Z J)(c:E J m)(hd:(f==("__debug__" : aC))=aq:=by decide):wpAny (aQ e.prog e.w) e.A (b1 (.Name f SD) e.env) E Sn m:=
 DO i.ok.kind a (Calls.loadGlobal_global (by rw[i.ok.glob];exact i.mod.glob.keeps i.eu) b c) hd
def m3(i:aG e G y h m)(a:dP e f)(b:e.aw f=Y)(d:eB f=Z J)(c:E J m)(g:f ≠ "__name__" := by decide)(hd:(f==("__debug__" : aC))=aq:=by decide):wpAny (aQ e.prog e.w) e.A (b1 (.Name f SD) e.env) E Sn m:=by
 let⟨@j,t,D⟩:=i.mod.blt;exact DO i.ok.kind a (Calls.loadGlobal_builtin (by rw[i.ok.glob];exact i.mod.glob.keeps i.eu) b (by rw[i.ok.blt];exact t.keeps i.eu) ((D f g).trans d) c) hd
def rC(a:dP e f)(b:e.aw f=Z J)(u:cb v J)(hd:(f==("__debug__" : aC))=aq:=by decide):bE e (.Name f SD) (mH v):=
 λ_ X X h X i c=>si i a b ⟨v,h,i,u,c⟩ hd
def DQ(a:dP e f)(b:e.aw f=Y)(d:eB f=Z J)(u:cb v J)(g:f ≠ "__name__" := by decide)(hd:(f==("__debug__" : aC))=aq:=by decide):bE e (.Name f SD) (mH v):=
 λ_ X X h X i c=>m3 i a b d ⟨v,h,i,u,c⟩ g hd
variable{d b:a_}{Ti TB:b2}{SD:cn}
variable{gL k:er}{cR:List a_}
def Gv(I J:er):er:=(λy h E=>I y h λg Sr=>if g=V then J y Sr E else E aq Sr)
def EI(I J:er):er:=(λy h E=>I y h λg Sr=>if g=V then E V Sr else J y Sr E)
def LO(I:er):er:=(λy h E=>I y h λg Sr=>E (!g) Sr)
def IQ(b:hb e d gL):jN e (.BoolOp .And [d] SD) gL:=by
 intro f G m y h E i c;refine isTrue_and (bP (b G m y h E i c) λg j a=>?_);cases g with
 |true=>exact isTrue_and_nil a
 |false=>exact a
def Lv(b:hb e d gL):jN e (.BoolOp .Or [d] SD) gL:=by
 intro f G m y h E i c;refine isTrue_or (bP (b G m y h E i c) λg j a=>?_);cases g with
 |false=>exact isTrue_or_nil a
 |true=>exact a
def M8(j:hb e d gL)(l:jN e (.BoolOp .And (b::cR) SD) k):jN e (.BoolOp .And (d::b::cR) SD) (Gv gL k):=by
 intro n G m y h E i c;refine isTrue_and (bP (j G m y h _ i c) λg o p=>?_);let⟨@Sr,a,f⟩:=p;cases g with
 |true=>exact l n G o y Sr E a f
 |false=>exact⟨Sr,a,f⟩
def Ji(j:hb e d gL)(l:jN e (.BoolOp .Or (b::cR) SD) k):jN e (.BoolOp .Or (d::b::cR) SD) (EI gL k):=by
 intro n G m y h E i c;refine isTrue_or (bP (j G m y h _ i c) λg o p=>?_);let⟨@Sr,a,f⟩:=p;cases g with
 |true=>exact⟨Sr,a,f⟩
 |false=>exact l n G o y Sr E a f
def PD(a:hb e d gL):hb e (.UnaryOp .Not d SD) (LO gL):=by
 intro G m y h E i c;exact isTrue_not (a G m y h (λg Sr=>E (!g) Sr) i c)
def PS(Ti TB:b2):b2:=(λy h E=>Ti y h λf Sr=>∃g,f=.au g/\if g=V then TB y Sr E else E (.au aq) Sr)
def L6(Ti:b2):b2:=(λy h E=>Ti y h λf Sr=>∃g,f=.au g/\E (.au<|!g) Sr)
def Iz{Tc}{I:b2}(c:bE e d I):bE e (.BoolOp Tc [d] SD) I:=λG m y h E i a=>BoolOp_one (c G m y h E i a)
def Ka(k:bE e d Ti)(l:bE e (.BoolOp .And (b::cR) SD) TB):bE e (.BoolOp .And (d::b::cR) SD) (PS Ti TB):=by
 intro G m y h E i c;refine BoolOp_and (bP (k G m y h _ i c) λv n o=>?_);let⟨f,@Sr,j,p,a⟩:=o;let⟨@g,rfl,a⟩:=a;cases p;refine kT ?_;cases g with
 |true=>exact l G n y Sr E j a
 |false=>exact⟨.au aq,Sr,j,rfl,a⟩
def OS(b:bE e d Ti):bE e (.UnaryOp .Not d SD) (L6 Ti):=by
 intro G m y h E i c;refine UnaryOp_ (bP (b G m y h _ i c) λv n j=>?_);let⟨f,@Sr,k,l,a⟩:=j;let⟨@g,rfl,a⟩:=a;cases l;exact not_of (kT ⟨.au<|!g,Sr,k,rfl,a⟩)
def O0(I:er)(Ti TB:b2):b2:=(λy h E=>I y h λg Sr=>if g=V then Ti y Sr E else TB y Sr E)
def IW(k:hb e g gL)(l:bE e d Ti)(n:bE e b TB):bE e (.IfExp g d b SD) (O0 gL Ti TB):=by
 intro G m y h E i c;refine wpAny_IfExp (bP (k G m y h _ i c) λp a o=>?_);let⟨@Sr,f,j⟩:=o;cases p with
 |true=>exact l G a y Sr E f j
 |false=>exact n G a y Sr E f j
end
def c2(Q:Φ)(h:ax)(d:af)(w:List aj):Prop:=(
 i9 h d (.lst w)\/
  ∃(n:aW) (Sw:Array ae) (s:Nat),Q.lookup d=Z n/\n.cls=.type "list" /\ n.dict=Y/\n.data=.seq Sw s/\Sw.size<=sizeLine/\bR w Sw.toList)
def ck(Q:Φ)(h:ax)(d:af)(w:List aj):Prop:=(
 i9 h d (.tup w)\/
  ∃(n:aW) (Sw:Array ae) (s:Nat),Q.lookup d=Z n/\n.cls=.type "tuple" /\ n.data=.seq Sw s/\Sw.size<=sizeLine/\bR w Sw.toList)
def Jl:ae->Option aj
 |.none=>Z .aV
 |.bool b=>Z (.au b)
 |.int j _=>Z (.int j)
 |.str f _=>Z (.str f)
 |.bytes b _=>Z (.qz b)
 |.float b _=>Z (.yB b)
 |.ref d=>Z (.ref d)
 |.type s=>Z (.ty s)
 |_=>Y
def cb.abs{f:aj}(u:cb f J):Jl J=Z f:=by
 cases f with
 |aV=>cases u;rfl
 |au _=>cases u;rfl
 |int _=>let⟨@I,rfl⟩:=u;rfl
 |str _=>let⟨@I,rfl⟩:=u;rfl
 |qz _=>let⟨@I,rfl⟩:=u;rfl
 |yB _=>let⟨@I,rfl⟩:=u;rfl
 |ref _=>cases u;rfl
 |ty _=>cases u;rfl
def cb.inj{f:aj}(u:cb f J)(o:cb A J):f=A:=Option.some.inj (u.abs.symm.trans o.abs)
theorem bR.inj:∀{w SE:List aj}{SP:List ae},bR w SP->bR SE SP->w=SE
 |_,_,_,.nil,.nil=>rfl
 |_,_,_,.cons u I,.cons Tg S4=>by rw[u.inj Tg,bR.inj I S4]
section
variable{e:aK}{G:List (af×aW)}{y:aS}{h:ax}{m:av}{d:af}{w SE:List aj}
def c2.of(c:h d=Z (.lst w)):c2 Q h d w:=.inl (.inl c)
def ck.of(c:h d=Z (.tup w)):ck Q h d w:=.inl (.inl c)
def aG.list(i:aG e G y h m)(c:c2 e.K h d w):∃Sw:List ae,bR w Sw/\PlainL m.heap d Sw.toArray/\w.length<=sizeLine:=by
 rcases c with c|⟨n,Sw,s,b,f,hd,g,j,u⟩
 ·let@⟨z,⟨Sw,@s,u,a⟩⟩:=c.ok i.aR;exact⟨Sw,u,⟨_,s,a,rfl,rfl,rfl⟩,z⟩
 ·refine⟨Sw.toList,u,⟨n,s,i.jl d n b,f,hd,by simpa using g⟩,?_⟩;have a:=u.length;simp only[gT]at a;lia
def aG.tuple(i:aG e G y h m)(c:ck e.K h d w):∃Sw:List ae,bR w Sw/\oi m.heap d Sw.toArray/\w.length<=sizeLine:=by
 rcases c with c|⟨n,Sw,s,b,f,g,k,u⟩
 ·let@⟨j,⟨@Sw,u,r⟩⟩:=c.ok i.aR;exact⟨Sw,u,r.tup,j⟩
 ·refine⟨Sw.toList,u,⟨n,i.jl d n b,f,s,by simpa using g⟩,?_⟩;have a:=u.length;simp only[gT]at a;lia
def aG.MS(i:aG e G y h m)(c:c2 e.K h d w)(T:c2 e.K h d SE):w=SE:=by
 let⟨@Sw,u,⟨n,@s,a,X,X,p⟩,X⟩:=i.list c;let⟨@TL,Tg,⟨Th,@g,b,X,X,f⟩,X⟩:=i.list T;rw[a]at b;cases b;rw[p]at f;injection f with Te _;have:Sw=TL:=by simpa using congrArg toList Te
 subst this;exact u.inj Tg
def aG.xC(i:aG e G y h m)(c:ck e.K h d w)(T:ck e.K h d SE):w=SE:=by
 let⟨@Sw,u,⟨@n,a,X,⟨@s,p⟩⟩,X⟩:=i.tuple c;let⟨@TL,Tg,⟨@Th,b,X,⟨@g,f⟩⟩,X⟩:=i.tuple T;rw[a]at b;cases b;rw[p]at f;injection f with Te _;have:Sw=TL:=by simpa using congrArg toList Te
 subst this;exact u.inj Tg
end
abbrev aK.ky(e:aK)(Sn:ae->av->Prop):aK:={e with cj:=Sn}
abbrev aK.nJ(e:aK):aK:=e.ky λ_ _=>False
def aK.Ok.ky(ok:e.Ok)(Sn:ae->av->Prop):(e.ky Sn).Ok:=
 ⟨ok.mod,ok.kind,ok.glob,ok.blt,ok.above,ok.inj,ok.has,ok.iE,ok.hd,ok.frames,ok.jQ,ok.lI,ok.bs,ok.hq,ok.iZ,ok.ja,ok.fO,ok.iK⟩
def aK.Ok.mf(ok:(e.ky Sn).Ok):e.Ok:=
 ⟨ok.mod,ok.kind,ok.glob,ok.blt,ok.above,ok.inj,ok.has,ok.iE,ok.hd,ok.frames,ok.jQ,ok.lI,ok.bs,ok.hq,ok.iZ,ok.ja,ok.fO,ok.iK⟩
section
variable{e:aK}{G:List (af×aW)}{y:aS}{h:ax}{m:av}{Sn:ae->av->Prop}
def aG.ky(i:aG e G y h m)(Sn:ae->av->Prop):aG (e.ky Sn) G y h m:=⟨i.ok.ky Sn,i.os,i.bare,i.base,i.loc,i.cell,i.free,i.fW,i.pin,i.aR,i.len⟩
def aG.mf(i:aG (e.ky Sn) G y h m):aG e G y h m:=⟨i.ok.mf,i.os,i.bare,i.base,i.loc,i.cell,i.free,i.fW,i.pin,i.aR,i.len⟩
def k9.mf{k:lS}{x:Flow}(c:k9 (e.ky Sn) G k x Ss):k9 e G k x Ss:=by
 cases x with
 |next=>let⟨a,@P,i,o⟩:=c;exact⟨a,P,i.mf,o⟩
 |brk=>let⟨a,@P,i,o⟩:=c;exact⟨a,P,i.mf,o⟩
 |cont=>let⟨a,@P,i,o⟩:=c;exact⟨a,P,i.mf,o⟩
 |ret J=>let⟨v,a,@P,i,u,o⟩:=c;exact⟨v,a,P,i.mf,u,o⟩
def gD.nJ{z:List bQ}{I:eW}(c:gD e.nJ z I):gD e z I:=λG m y h k i a=>
 gW (c G m y h k (i.ky _) a) (λ_ X o=>o.mf) λ_ X b=>False.elim b
end
section
variable{e:aK}{z:bQ}{cR:List bQ}{I J:eW}{a:a_}{TF:b2}{SD:cn}
def Kk:eW:=(λk y h=>k.aX y h)
def AV(I J:eW):eW:=(λk y h=>I {k with aX:=J k} y h)
def Jj:gD e [] Kk:=λ_ X y h X i c=>uy ⟨y,h,i,c⟩
def uH(t:hv e z I)(D:gD e cR J):gD e (z::cR) (AV I J):=by
 intro G m y h k i c;refine wG (bP (t G m y h {k with aX:=J k} i c) λx a o=>?_);cases x with
 |next=>
  let⟨b,@P,d,o⟩:=o;exact D G a b P k d o
 |ret v=>exact o
 |brk=>exact o
 |cont=>exact o
def KS(t:hv e z I):gD e [z] I:=by
 intro G m y h k i c;refine wG (bP (t G m y h k i c) λx a o=>?_);cases x with
 |next=>exact uy o
 |ret v=>exact o
 |brk=>exact o
 |cont=>exact o
def aG.quiet(i:aG e G y h m):interactive e.env=aq:=by simp[interactive,i.ok.kind]
def MI(TF:b2):eW:=(λk y h=>TF y h λ_ Sr=>k.aX y Sr)
def DF(b:bE e a TF)(d:mg a Y SD.line e.env=pure aq:=by rfl):hv e (.Expr a SD) (MI TF):=by
 intro G m y h k i c;exact wpAny_Expr_any (bP (b G m y h _ i c) λv l ⟨f,Sr,g,n,j⟩=>⟨y,Sr,g,j⟩) i.quiet d
def KP(TF:b2):eW:=(λk y h=>TF y h k.dX)
def IX(b:bE e a TF):hv e (.Return (Z a) SD) (KP TF):=by
 intro G m y h k i c;exact wpAny_Return_some (bP (b G m y h _ i c) λv l ⟨f,Sr,d,g,j⟩=>⟨f,y,Sr,d,g,j⟩)
def L_(g:er)(I J:eW):eW:=(λk y h=>g y h λb Sr=>if b=V then I k y Sr else J k y Sr)
def Am{d b:List bQ}(l:hb e g U)(n:gD e d I)(o:gD e b J):hv e (.If g d b SD) (L_ U I J):=by
 intro G m y h k i c;refine wpAny_If (bP (l G m y h _ i c) λp a q=>?_);let⟨@Sr,f,j⟩:=q;cases p with
 |true=>exact n G a y Sr k f j
 |false=>exact o G a y Sr k f j
def MU:eW:=(λ_ X X=>False)
def Mg:hv e z MU:=λ_ X X X X X c=>c.elim
end
abbrev gn:=aj->aS->ax->(aS->ax->Prop)->Prop
abbrev i4:=List aj->aS->ax->(aS->ax->Prop)->Prop
def Be(e:aK)(b:a_)(I:gn)(G:List (af×aW)):Prop:=(
 ∀(m:av) (y:aS) (h:ax) (v:aj) (J:ae) (E:aS->ax->Prop),aG e G y h m->cb v J->I v y h E->
  wpAny (aQ e.prog e.w) e.A (h5 b e.env J) (λ_ Ss=>∃a P,aG e G a P Ss/\E a P) e.cj m)
def jf(e:aK)(a:a_)(I:gn):Prop:=(∀G,Be e a I G)
def B6(e:aK)(b:List a_)(I:i4)(G:List (af×aW)):Prop:=(
 ∀(m:av) (y:aS) (h:ax) (R:List aj) (SP:List ae) (E:aS->ax->Prop),aG e G y h m->bR R SP->I R y h E->
  wpAny (aQ e.prog e.w) e.A (Al ((fc b e.env).map (·.2)) SP) (λ_ Ss=>∃a P,aG e G a P Ss/\E a P) e.cj m)
def m2(e:aK)(a:List a_)(I:i4):Prop:=(∀G,B6 e a I G)
abbrev x1:=aj->aj->aj->ax->(ax->Prop)->Prop
def yn(e:aK)(I:x1):Prop:=(
 ∀(G:List (af×aW)) (m:av) (y:aS) (h:ax) (n j v:aj) (a b J:ae) (E:ax->Prop),aG e G y h m->cb n a->cb j b->cb v J->I n j v h E->
  wpAny (aQ e.prog e.w) e.A (tu a b J) (λ_ Ss=>∃P,aG e G y P Ss/\E P) e.cj m)
section
variable{e:aK}{SD:cn}
def we(j:Nat):gn:=(λv y h E=>E (y.set j<|Z v) h)
def L3(a:e.N.Nodup)(Sq:e.N[j]?=Z f)(b:jP e.env.scope f)(d:e.fn f=V\/e.env.scope.names.lookup f=Z .local:=by first|exact .inl rfl|exact .inr rfl|assumption):jf e (.Name f SD) (we j):=by
 intro G m y h v J E i u c;exact Cx (Ar i a Sq b u (λSs g=>⟨_,h,g,c⟩) d)
def Lj:i4:=(λR y h E=>R=[]/\E y h)
def Pq(I:gn)(J:i4):i4:=(λR y h E=>∃v u,R=v::u/\I v y h λa P=>J u a P E)
def LQ:m2 e [] Lj:=by
 intro G m y h R SP E i u c;let@⟨a,c⟩:=c;subst a;cases u;exact assignInOrder_nil ⟨y,h,i,c⟩
def JW{I:gn}{J:i4}(t:jf e a I)(D:m2 e Sl J)(b:(fc (a::Sl) e.env).map (·.2)=h5 a e.env::(fc Sl e.env).map (·.2):=by rfl):m2 e (a::Sl) (Pq I J):=by
 intro G m y h R SP E i u c;let⟨v,@n,d,c⟩:=c;subst d;cases u with
 |cons u f=>
  rw[b];refine assignInOrder_cons (bP (t G m y h _ _ _ i u c) λ_ g j=>?_);let⟨TU,@Sr,k,l⟩:=j;exact D G g TU Sr _ _ E k f l
def HL(Q:Φ)(s:Nat)(I:i4):gn:=(λv y h E=>∃d w,v=.ref d/\ck Q h d w/\w.length=s/\I w y h E)
def PL{I:i4}(j:e.calm=V)(c:m2 e Sl I)(k:(fc Sl e.env).length=s:=by rfl)(l:(fc Sl e.env).findIdx? (·.1)=Y:=by rfl):jf e (.Tuple Sl q SD) (HL e.K s I):=by
 intro G m y h v J E i u f;let⟨d,@w,o,p,r,f⟩:=f;subst o;cases u;let⟨@Sw,g,t,A⟩:=i.tuple p;refine assign_Tuple_tuple (i.ok.hd j) t (by simp[k,<-r,g.length]) l λT x=>?_;have z:aG e G y h {m with heap:=T}:=i.kept (S4:=m.toks) λb n a=>x b n (dJ<|b9 a) a;exact c G _ y h w _ E z ⇑g f
def PX(k a:b2)(I:x1):gn:=(λv y h E=>k y h λn Sr=>a y Sr λj SK=>I n j v SK λb=>E y b)
def LJ{n j:a_}{k g:b2}{I:x1}(l:bE e n k)(Sq:bE e j g)(o:yn e I)(p:∀v,h5 (.Subscript n j SD) e.env v=(do
   let a <-holding [v] (b1 n e.env)
   let b <-holding [v,a] (b1 j e.env)
   standAt SD
   holding [v,a,b] (tu a b v)
   release [v,a,b] []):=by intro X;rfl):jf e (.Subscript n j SD) (PX k g I):=by
 intro G m y h v J E i u c;rw[p];refine aD (fX<|bP (l G m y h _ i c) λa q d=>?_);let⟨f,@Sr,r,s,t⟩:=d;refine aD (fX<|bP (Sq G q y Sr _ r t) λb w d=>?_);let⟨A,@SK,x,z,B⟩:=d;refine aD (u9<|aD<|fX<|bP (o G w y SK f A v a b J _ x s z u B) λ_ H d=>?_);let⟨@C,D,F⟩:=d;exact wpAny_release ⟨y,C,D,F⟩
def y1(TF:b2)(N:gn):eW:=(λk y h=>TF y h λf Sr=>N f y Sr k.aX)
def ON{N:gn}(b:bE e a TF)(d:jf e SY N)(g:zm [SY] a SD.line e.env=pure aq:=by rfl)(j:Fm [SY] a e.env=pure Y:=by rfl)(t:(fc [SY] e.env).map (·.2)=[h5 SY e.env]:=by rfl):hv e (.Assign [SY] a SD) (y1 TF N):=by
 intro G m y h k i c;refine wpAny_Assign_stores (bP (b G m y h _ i c) λv l ⟨f,Sr,n,p,q⟩=>?_) g j;rw[t];exact bP (d G l y Sr f v _ n p q) λ_ r o=>o
def NZ{B:cn}(b:e.N.Nodup)(Sq:e.N[j]?=Z f)(d:jP e.env.scope f)(g:bE e a TF)(l:mg a (Z<|.Name f B) SD.line e.env=pure aq:=by rfl)(n:e.fn f=V\/e.env.scope.names.lookup f=Z .local:=by first|exact .inl rfl|exact .inr rfl|assumption):
  hv e (.Assign [.Name f B] a SD) (y1 TF<|we j):=by
 intro G m y h k i c;refine wpAny_Assign_Name (bP (g G m y h _ i c) λv s ⟨A,Sr,o,p,q⟩=>?_) l;exact Ar o b Sq d p (λt r=>⟨_,Sr,r,q⟩) n
def OW(g:er)(TB:eW):eW:=(λk y h=>∃W:Nat->aS->ax->Prop,(∃M,W M y h)/\∀M y h,W M y h->
 g y h λb Sr=>if b=V then ∃SS:aS->ax->Prop,(∀a P,SS a P->∃c,c<M/\W c a P)/\TB {k with aX:=SS,bX:=SS,eu:=k.aX} y Sr else k.aX y Sr)
def Ln(t:rY (aQ e.prog e.w) e.A e.env e.cj)(C:hb e g U)(D:gD e TR TB):hv e (.While g TR [] SD) (OW U TB):=by
 intro G m y h k i c;let⟨@W,⟨@E,F⟩,turn⟩:=c;refine wpAny_While (codeAny_whileLoop (λs Ss=>∃u P,aG e G u P Ss/\W s u P) ?_ E ⟨y,h,i,F⟩);rintro s H ⟨TU,Sr,I,J⟩;refine m1 t (bP (C G H TU Sr _ I<|turn s TU Sr J) λb L M=>?_);let⟨@SK,z,f⟩:=M;cases b with
 |true=>
  let⟨@SS,B,f⟩:=f;rw[aN rfl];refine m1 t (bP (D G L TU SK _ z f) λx N j=>?_);cases x with
  |next=>
   let⟨a,@d,n,o⟩:=j;let⟨@p,q,r⟩:=B a d o;exact⟨p,q,a,d,n,r⟩
  |cont=>
   let⟨a,@d,n,o⟩:=j;let⟨@p,q,r⟩:=B a d o;exact⟨p,q,a,d,n,r⟩
  |brk=>exact j
  |ret v=>exact j
 |false=>
  rw[aT d7];exact uy ⟨TU,SK,z,f⟩
end
structure e5 where
 go:Nat->ax->Prop
 qy:Nat->ax->aj->ax->Prop
 stop:Nat->ax->Prop
def jK(e:aK)(G:List (af×aW))(h:ax)(b:af):Prop:=(
 h b=Y/\b≠e.env.locals/\b∉e.X/\(b∈e.ex\/e.eh.heap.objs.size<=b)/\(∀f g,e.env.cells.lookup f=Z g->g≠b)/\∀r∈e.e0++G,r.1≠b)
def aG.sd(i:aG e G y h m)(c:m.heap.objs.size<=b)(j:P b=Y):jK e G P b:=by
 refine⟨j,k2<|eK i.lt c,i.Km c,.inr<|ee i.ko c,λf g a d=>?_,λr k d=>?_⟩
 ·let⟨@v,o⟩:=i.cell f g a;exact absurd (eK o.lt (by rw[d];exact c)) (jh _)
 ·exact absurd (eK (b9 (i.pin r k).1) (by rw[d];exact c)) (jh _)
structure pW(S:bl)(l:a8)(Q:Φ)(SY:a_)(Tr:e5)(bb:List af)(it:af)(TS:Nat->a0->Prop):Prop where
 mem:it∈bb
 obj:∀j c,TS j c->∀b∈bb,∃n,c.get? b=Z n/\∀v,n.data≠.cell v
 keep:∀j c T,TS j c->(∀b∈bb,∀n,c.get? b=Z n->T.get? b=Z n)->TS j T
 item:∀(e:aK),e.prog=S->e.w=l->e.K=Q->e.calm=V->∀(j:Nat) (G:List (af×aW)) (m:av) (y:aS) (h:ax) (Sn:ae->av->Prop),aG e G y h m->(∀b∈bb,jK e G h b)->TS j m.heap->Tr.go j h->
  wpAny (aQ S l) e.A (hP<|.ref it) (λu s1=>∃J,u=Z J/\
   wpAny (aQ S l) e.A (rP SY (.ref it) J) (λ_ s2=>∃f P,aG e G y P s2/\cb f J/\Tr.qy j h f P/\TS (j+1) s2.heap/\∀b∈bb,P b=Y) Sn s1) Sn m
 done:∀(e:aK),e.prog=S->e.w=l->e.K=Q->e.calm=V->∀(j:Nat) (G:List (af×aW)) (m:av) (y:aS) (h:ax) (Sn:ae->av->Prop),aG e G y h m->(∀b∈bb,jK e G h b)->TS j m.heap->Tr.stop j h->
  wpAny (aQ S l) e.A (hP<|.ref it) (λu s1=>u=Y/\aG e G y h s1) Sn m
 self:∀(O:bp) (j:Nat) (m:av) (E:ae->av->Prop) (Sn:ae->av->Prop),TS j m.heap->E (.ref it) m->wpAny (aQ S l) O (tr<|.ref it) E Sn m
abbrev c6:=aS->ax->(e5->ax->Prop)->Prop
def Ae(e:aK)(G:List (af×aW))(y:aS)(SY:a_)(Sm:e5->ax->Prop)(c:ae)(a:av):Prop:=(
 ∃(it:af) (bb:List af) (TS:Nat->a0->Prop) (Tr:e5) (P:ax),c=.ref it/\aG e G y P a/\pW e.prog e.w e.K SY Tr bb it TS/\TS 0 a.heap/\(∀b∈bb,jK e G P b)/\Sm Tr P)
def Fw(e:aK)(SY TA:a_)(e6:c6)(G:List (af×aW)):Prop:=(
 ∀(m:av) (y:aS) (h:ax) (Sm:e5->ax->Prop),aG e G y h m->e6 y h Sm->
  wpAny (aQ e.prog e.w) e.A (b1 TA e.env) (λv a=>wpAny (aQ e.prog e.w) e.A (tr v) (Ae e G y SY Sm) e.cj a) e.cj m)
def lJ(e:aK)(SY TA:a_)(e6:c6):Prop:=(∀G,Fw e SY TA e6 G)
def vC{aE:ik}{Sn:ae -> av -> Prop}{it:af}{n:aW}{s:String}{R:Array ae}{E:Unit -> av -> Prop}(b:m.heap.get? it=Z n)(d:n.cls=.type s)(hd:n.data=.fields R)(e:["enumerate", "zip", "dict_itemiterator", "dict_reverseitemiterator", "odict_iterator", "itertools.zip_longest", "itertools.pairwise"].contains s=aq)(a:E () m): wpAny aE O (rP SY (.ref it) J) E Sn m:=by
  unfold rP;cases SY <;> first
    | exact a7 a
    | (cases J <;> first
        | exact a7 a
        | (refine aD (wpAny_load b ?_)
           rw [d,hd];show wpAny aE O (if (["enumerate", "zip", "dict_itemiterator", "dict_reverseitemiterator", "odict_iterator", "itertools.zip_longest", "itertools.pairwise"].contains s&&R[0]? == Z (kk _))=V then _ else _) E Sn m;rw [aT (by intro c; rw [e,Bool.false_and]at c; cases c)];exact a7 a))
def rj(Q:Φ)(d:af):e5:=(
 ⟨λj h=>∃w f,c2 Q h d w/\w[j]?=Z f,λj h f P=>P=h/\∀w,c2 Q h d w->w[j]?=Z f,λj h=>∃w,c2 Q h d w/\w.length<=j⟩)
def tD(Q:Φ)(d:af):e5:=(
 ⟨λj h=>∃w f,ck Q h d w/\w[j]?=Z f,λj h f P=>P=h/\∀w,ck Q h d w->w[j]?=Z f,λj h=>∃w,ck Q h d w/\w.length<=j⟩)
def tm(Sp:Int)(s:Nat):e5:=(⟨λj X=>j<s,λj h f P=>P=h/\f=.int (Sp+j),λj X=>s<=j⟩)
theorem IB(d it:af):pW S l Q SY (rj Q d) [it] it (λj c=>c.IsListIter it d j) where
 mem:=by simp
 obj:=λj c z b k=>by
  have a:b=it:=by simpa using k
  subst a;let⟨@n,a,g,p⟩:=z;exact⟨n,a,λv L=>by rw[p]at L;cases L⟩
 keep:=λj c T z q=>z.at λn a=>q it ↥0 n a
 item:=by
  intro e t u x M j G m y h Sn i o z A;subst t u x;let⟨w,@f,s,B⟩:=A;let⟨@Sw,C,r,O⟩:=i.list s;let⟨@J,P,R⟩:=C.get B;let@⟨D,E,U,F,H,I⟩:=o it ↥0;refine Cp z r.isList (x:=J) ⇑P λT N al=>?_;have am:aG e G y h {m with heap:=T}:=i.turned (S4:=m.toks) (λb n k a=>(al.2 b k).trans a) D E F H I;let⟨@n,a,g,p⟩:=id N;exact⟨J,rfl,vC (m:={m with heap:=T}) a g p ∅ ⟨f,h,am,R,⟨rfl,λSE an=>by rw[i.MS an s];exact B⟩,N,λb k=>(o b k).1⟩⟩
 done:=by
  intro e t u x M j G m y h Sn i o z A;subst t u x;let⟨@w,s,B⟩:=A;let⟨@Sw,C,r,O⟩:=i.list s;let@⟨D,E,U,F,H,I⟩:=o it ↥0;have as:=C.length;exact AD (i.ok.hd M) z r.isList (by simp;lia) λT ap=>⟨rfl,i.turned (S4:=m.toks) (λb n k a=>ap b n k a) D E F H I⟩
 self:=λ_ X X X X z c=>wpAny_pyIter_listiter z c
theorem HC(d it:af):pW S l Q SY (tD Q d) [it] it (λj c=>c.IsTupleIter it d j) where
 mem:=by simp
 obj:=λj c z b k=>by
  have a:b=it:=by simpa using k
  subst a;let⟨@n,a,g,p⟩:=z;exact⟨n,a,λv L=>by rw[p]at L;cases L⟩
 keep:=λj c T z q=>z.at λn a=>q it ↥0 n a
 item:=by
  intro e t u x M j G m y h Sn i o z A;subst t u x;let⟨w,@f,s,B⟩:=A;let⟨@Sw,C,r,O⟩:=i.tuple s;let⟨@J,P,R⟩:=C.get B;let@⟨D,E,U,F,H,I⟩:=o it ↥0;refine wpAny_pyNext_tuple_item z (show m.heap.IsTuple d Sw.toArray from r) (x:=J) ⇑P λT N al=>?_;have am:aG e G y h {m with heap:=T}:=i.turned (S4:=m.toks) (λb n k a=>(al.2 b k).trans a) D E F H I;let⟨@n,a,g,p⟩:=id N;exact⟨J,rfl,vC (m:={m with heap:=T}) a g p ∅ ⟨f,h,am,R,⟨rfl,λSE an=>by rw[i.xC an s];exact B⟩,N,λb k=>(o b k).1⟩⟩
 done:=by
  intro e t u x M j G m y h Sn i o z A;subst t u x;let⟨@w,s,B⟩:=A;let⟨@Sw,C,r,O⟩:=i.tuple s;let@⟨D,E,U,F,H,I⟩:=o it ↥0;have as:=C.length;exact wpAny_pyNext_tuple_end (i.ok.hd M) z (show m.heap.IsTuple d Sw.toArray from r) (by simp;lia) λT ap=>⟨rfl,i.turned (S4:=m.toks) (λb n k a=>ap b n k a) D E F H I⟩
 self:=λ_ X X X X z c=>wpAny_pyIter_tupleiter z c
theorem Hv(it:af)(Sp:Int)(s:Nat):pW S l Q SY (tm Sp s) [it] it (λj c=>IsRangeIter c it (Sp+(j:Nat)*1) ((s:Int)-(j:Nat)) 1) where
 mem:=by simp
 obj:=λj c z b d=>by
  have a:b=it:=by simpa using d
  subst a;exact⟨_,z,λv D=>by
   have E:m8.fields _=m8.cell v:=D;cases E⟩
 keep:=λj c T z q=>q it ↥0 _ z
 item:=by
  intro e g k o p j G m y h Sn i f z r;subst g k o;let@⟨t,u,F,x,A,B⟩:=f it ↥0;have W:=nR.range (prog:=e.prog) (w:=e.w) (i.ok.hd p) it Sp 1 s;refine W.item j m _ _ r z λv T bt H C J=>?_;let⟨@I,rfl⟩:=H;have L:aG e G y h {m with heap:=T,toks:=bt}:=i.turned (λb n d a=>J b n ⇑d a) t u x A B;refine⟨_,rfl,vC (m:={m with heap:=T,toks:=bt}) (s := "range_iterator") C rfl rfl ∅ ⟨.int<|Sp+j,h,L,⟨I,?_⟩,⟨rfl,rfl⟩,C,λb d=>(f b d).1⟩⟩;rw[GI]
 done:=by
  intro e g k o p j G m y h Sn i f z r;subst g k o;let@⟨t,u,F,x,A,B⟩:=f it ↥0;exact wpAny_pyNext_range_end (i.ok.hd p) z (by have:s<=j:=r;lia) λT M=>⟨rfl,i.turned (S4:=m.toks) (λb n d a=>M b n d a) t u x A B⟩
 self:=λ_ X X X X z c=>wpAny_pyIter_rangeiter z c
section
variable{e:aK}{SY:a_}
def QT{Sm:e5->ax->Prop}{Sp Sq:Int}{I J v:hT}{bt:Nat}(i:aG e G y h m)(t : -(2^62)<=Sp)(D:Sp<2^62)(d : -(2^62)<=Sq)(f:Sq<2^62)(o:Sm (tm Sp (Sq-Sp).toNat) h):wpAny (aQ e.prog e.w) e.A (tr<|.ref m.heap.objs.size) (Ae e G y SY Sm) Sn {m with heap:=m.heap.push {cls:=.type "range",data:=.fields #[.int Sp I,.int Sq J,.int 1 v]},toks:=bt}:=by
 refine wpAny_pyIter_range (IsRange.new ..) (small_one t D d f) ?_;have c:aG e G y h {m with heap:=m.heap.push {cls:=.type "range",data:=.fields #[.int Sp I,.int Sq J,.int 1 v]},toks:=bt}:=i.kept λb n a=>cw _ a;refine⟨(m.heap.push {cls:=.type "range",data:=.fields #[.int Sp I,.int Sq J,.int 1 v]}).objs.size,[(m.heap.push {cls:=.type "range",data:=.fields #[.int Sp I,.int Sq J,.int 1 v]}).objs.size],_,_,h,rfl,
  c.kept (S4:=bt) λb n a=>cw _ a,Hv _ Sp (Sq-Sp).toNat,?_,λb g=>?_,o⟩
 ·have j:Sp+((0:Nat):Int)*1=Sp:=by simp
  have k:(((Sq-Sp).toNat:Nat):Int)-((0:Nat):Int)=bk.Range.rangeSize Sp Sq 1:=by rw[rangeSize_one];split<;>lia
  show IsRangeIter _ _ (Sp+((0:Nat):Int)*1) ((((Sq-Sp).toNat:Nat):Int)-((0:Nat):Int)) 1;rw[j,k];exact dH _ rfl
 ·have a:b=(m.heap.push {cls:=.type "range",data:=.fields #[.int Sp I,.int Sq J,.int 1 v]}).objs.size:=by simpa using g
  subst a;exact c.sd (bq _) (c.aR.fresh<|bq _)
def Hm(Ti:e_):c6:=(λy h Sm=>Ti y h λR Sr=>∃B:Int,R=[.int B] /\ -(2^62)<=B/\B<2^62/\Sm (tm 0 B.toNat) Sr)
def IK{d:a_}{Ti:e_}{r:cn}(f:dP e "range")(g:e.aw "range" = Y)(j:g7 e [d] Ti)(k:bw [d] e.env=[(aq,b1 d e.env)]:=by rfl):lJ e SY (.Call (.Name "range" r) [d] [] SD) (Hm Ti):=by
 intro G m y h Sm i c;refine Call_ (m3 i f g boot_range<|ql (bP (j SD G m y h _ i c) λSP s ⟨R,Sr,l,n,b⟩=>?_) k rfl);let⟨@B,a,b,p,o⟩:=b;subst a;cases n with
 |cons u q=>
  cases q;let⟨@I,rfl⟩:=u;exact call_range_1 (QT l ⋯ ⋯ b p ⇑o)
def z7(e6:c6)(N:gn)(TB:eW):eW:=(λk y h=>e6 y h λTr Sr=>∃W:Nat->Nat->aS->ax->Prop,(∃M,W 0 M y Sr)/\∀j M y h,W j M y h->
 (Tr.stop j h/\k.aX y h)\/(Tr.go j h/\∃SS:aS->ax->Prop,(∀a P,SS a P->∃b,b<M/\W (j+1) b a P)/\∀f P,Tr.qy j h f P->N f y P λc SK=>TB {k with aX:=SS,bX:=SS,eu:=k.aX} c SK))
def mK(bb:List af)(c:a0):List (af×aW):=(bb.filterMap λb=>(c.get? b).map λn=>(b,n))
def u2{n:aW}(d:b∈bb)(a:c.get? b=Z n):(b,n)∈mK bb c:=CY.mpr ⟨b,d,by rw[a];rfl⟩
def zx{r:af×aW}(d:r∈mK bb c):r.1∈bb/\c.get? r.1=Z r.2:=by
 let⟨@b,e,a⟩:=CY.mp d;cases o:c.get? b with
 |none=>rw[o]at a;cases a
 |some n=>
  rw[o]at a;have f:(b,n)=r:=Option.some.inj a;subst f;exact⟨e,o⟩
def aG.pinned(i:aG e G y h m)(g:∀b∈bb,jK e G h b)(j:∀b∈bb,∃n,m.heap.get? b=Z n/\∀v,n.data≠.cell v):aG e (G++mK bb m.heap) y h m:=
 i.n_ λr k=>(dt.mp k).elim (λc=>i.pin r<|c3 _ c) λc=>by
  let@⟨d,a⟩:=zx c;let@⟨l,o,q,_⟩:=g r.1 d;let⟨@n,f,p⟩:=j r.1 d;rw[a]at f;cases f;exact⟨a,l,o,q,p⟩
def aG.wK{bI:List (af×aW)}(i:aG e (G++bI) y h m):aG e G y h m:=i.n_ λr a=>i.pin r (c3 _<|c5 _ a)
def LB{TA:a_}{e6:c6}{N:gn}(B:rY (aQ e.prog e.w) e.A e.env e.cj)(T:e.calm=V)(Sq:lJ e SY TA e6)(a2:jf e SY N)(d:gD e TR TB)(bd:∀f,mm TA e.env f=pure f:=by intro X;rfl):hv e (.For SY TA TR [] SD) (z7 e6 N TB):=by
 intro G m y h k i c;refine wpAny_For (bP (Sq G m y h _ i c) λv f2 t=>bP t λf4 f8 D=>?_) bd;let⟨it,bb,TS,Tr,@SK,a,be,F,bi,U,⟨@W,⟨@bm,bn⟩,turn⟩⟩:=D;subst a;have L:∀{P:ax},(∀b∈bb,P b=Y)->∀b∈bb,jK e G P b:=λbs b d=>⟨bs b d,(U b d).2⟩;refine codeAny_forLoop_any (λs Ss=>∃j C P,aG e G C P Ss/\TS j Ss.heap/\(∀b∈bb,P b=Y)/\W j s C P) ?_ bm ⟨0,y,SK,be,bi,λb d=>(U b d).1,bn⟩;rintro s al ⟨j,E,I,am,an,ap,bv⟩;rcases turn j s E I bv with ⟨stop,ca⟩|⟨go,SS,cd,step⟩
 ·refine m1 B (bP (F.done e rfl rfl rfl T j G al E I e.cj am (L ap) an stop) λu ce z=>?_);let@⟨Q,ch⟩:=z;subst Q;exact uy ⟨E,I,ch,ca⟩
 ·refine m1 B (bP (F.item e rfl rfl rfl T j G al E I e.cj am (L ap) an go) λu ce z=>?_);let⟨@J,Q,ci⟩:=z;subst Q;refine m1 B (bP ci λ_ as z=>?_);let⟨f,@a1,cl,co,cr,R,cs⟩:=z;have db:=cl.pinned (L cs) (F.obj _ _ R);refine m1 B (bP (a2 _ as E a1 f J _ db co<|step f a1 cr) λ_ ds z=>?_);let⟨dL,@eq,ev,ex⟩:=z;refine m1 B (bP (d _ ds dL eq _ ev ex) λx S r=>?_);have again:∀{g:aS}{o:ax},aG e (G++mK bb as.heap) g o S->SS g o->∃M,M<s/\∃j C P,aG e G C P S/\TS j S.heap/\(∀b∈bb,P b=Y)/\W j M C P:=λ{g o} q H=>by
   let⟨@fd,fn,fr⟩:=cd g o H;refine⟨fd,fn,j+1,g,o,q.wK,F.keep _ _ _ R λb d n a=>(q.pin (b,n)<|c3 _<|c3 _<|u2 d a).1,λb d=>?_,fr⟩;let⟨@n,a,p⟩:=F.obj _ _ R b d;exact (q.pin (b,n)<|c3 _<|c3 _<|u2 d a).2.1
  cases x with
  |next=>let⟨g,@o,q,H⟩:=r;exact again q H
  |cont=>let⟨g,@o,q,H⟩:=r;exact again q H
  |brk=>let⟨g,@o,q,r⟩:=r;exact⟨g,o,q.wK,r⟩
  |ret v=>let⟨f0,g,@o,q,f1,r⟩:=r;exact⟨f0,g,o,q.wK,f1,r⟩
end
abbrev b0:=aj->aj->ax->cu->Prop
variable{Tg u:b0}
def dZ(e:aK)(x:ae->ae->fx ae)(u:b0):Prop:=(
 ∀(G:List (af×aW)) (m:av) (y:aS) (h:ax) (f A:aj) (v J:ae) (E:cu),aG e G y h m->cb f v->cb A J->u f A h E->
  wpAny (aQ e.prog e.w) e.A (x v J) (ew e G y E) e.cj m)
def xw(e:aK)(x:ae->fx ae)(u:aj->ax->cu->Prop):Prop:=(
 ∀(G:List (af×aW)) (m:av) (y:aS) (h:ax) (f:aj) (v:ae) (E:cu),aG e G y h m->cb f v->u f h E->
  wpAny (aQ e.prog e.w) e.A (x v) (ew e G y E) e.cj m)
def ey(e:aK)(x:ae)(u:List aj->ax->cu->Prop):Prop:=(
 ∀(G:List (af×aW)) (m:av) (y:aS) (h:ax) (w:List aj) (SP:List ae) (E:cu),aG e G y h m->bR w SP->u w h E->
  wpAny (aQ e.prog e.w) e.A (call x SP) (ew e G y E) e.cj m)
def OI(e:aK)(u:aj->ax->(Bool->ax->Prop)->Prop):Prop:=(
 ∀(G:List (af×aW)) (m:av) (y:aS) (h:ax) (f:aj) (v:ae) (E:Bool->ax->Prop),aG e G y h m->cb f v->u f h E->
  wpAny (aQ e.prog e.w) e.A (truthy v) (t7 e G y E) e.cj m)
def vi(u:b0)(Ti TB:b2):b2:=(λy h E=>Ti y h λf Sr=>TB y Sr λA SK=>u f A SK E)
def J3(u:aj->ax->cu->Prop)(Ti:b2):b2:=(λy h E=>Ti y h λf Sr=>u f Sr E)
def o5(az:Int->Int->Prop)(N:Int->Int->aj):b0:=(λf A h E=>∃j B,f=.int j/\A=.int B/\az j B/\E (N j B) h)
def mG(N:Int->Int->aj):b0:=(λf A h E=>∃j B,f=.int j/\A=.int B/\E (N j B) h)
def F9(N:Int->aj):aj->ax->cu->Prop:=(λf h E=>∃j,f=.int j/\E (N j) h)
section
variable{e:aK}{d b g:a_}{Ti TB U:b2}{SD:cn}
def yS(j:bE e d Ti)(k:bE e b TB){G:List (af×aW)}{m:av}{y:aS}{h:ax}{Sm:aj->aj->ax->Prop}(i:aG e G y h m)(c:Ti y h λf Sr=>TB y Sr λA SK=>Sm f A SK){E:ae->av->Prop}{x:ae->ae->fx ae}(n:∀v J a f A SK,aG e G y SK a->cb f v->cb A J->Sm f A SK->wpAny (aQ e.prog e.w) e.A (x v J) E e.cj a):
  wpAny (aQ e.prog e.w) e.A (b1 d e.env) (λv o=>wpAny (aQ e.prog e.w) e.A (b1 b e.env) (λJ p=>wpAny (aQ e.prog e.w) e.A (x v J) E e.cj p) e.cj o) e.cj m:=by
 refine bP (j G m y h _ i c) λv q g=>?_;let⟨f,@Sr,r,s,t⟩:=g;refine bP (k G q y Sr _ r t) λJ a g=>?_;let⟨A,@SK,u,z,B⟩:=g;exact n v J a f A SK u s z B
def Q5{Tc:yv}(a:dZ e (fU Tc) u)(g:bE e d Ti)(j:bE e b TB):bE e (.BinOp d Tc b SD) (vi u Ti TB):=by
 intro G m y h E i c;exact wpAny_BinOp (yS g j i c λv J k f A SK l n p o=>a G k y SK f A v J E l n p o)
def OP{Tc:UnaryOp}{u:aj->ax->cu->Prop}(a:xw e (unaryOp Tc) u)(b:bE e d Ti):bE e (.UnaryOp Tc d SD) (J3 u Ti):=by
 intro G m y h E i c;exact UnaryOp_ (bP (b G m y h _ i c) λv g ⟨f,Sr,j,k,l⟩=>a G g y Sr f v E j k l)
def tb{az:Int->Int->Prop}(a:∀(j B:Int) (I J:hT) (m:av) (E:ae->av->Prop) (Sn:ae->av->Prop),az j B->E (.int (N j B) m.toks) {m with toks:=m.toks+1}->wpAny (aQ e.prog e.w) e.A (x (.int j I)<|.int B J) E Sn m):
  dZ e x (o5 az λj B=>.int<|N j B):=by
 intro G m y h f A v J E i b d c;let⟨j,@B,rfl,rfl,g,o⟩:=c;let⟨@I,rfl⟩:=b;let⟨@S4,rfl⟩:=d;exact a j B I S4 m _ _ g ⟨.int<|N j B,h,i.tok _,⟨_,rfl⟩,o⟩
def Au(a:∀(j B:Int) (I J:hT) (m:av) (E:ae->av->Prop) (Sn:ae->av->Prop),E (.int (N j B) m.toks) {m with toks:=m.toks+1}->wpAny (aQ e.prog e.w) e.A (x (.int j I)<|.int B J) E Sn m):
  dZ e x (mG λj B=>.int<|N j B):=by
 intro G m y h f A v J E i b d c;let⟨j,@B,rfl,rfl,o⟩:=c;let⟨@I,rfl⟩:=b;let⟨@S4,rfl⟩:=d;exact a j B I S4 m _ _ ⟨.int<|N j B,h,i.tok _,⟨_,rfl⟩,o⟩
def wH{N:Int->Int->Bool}(a:∀(j B:Int) (I J:hT) (m:av) (E:ae->av->Prop) (Sn:ae->av->Prop),E (.bool<|N j B) m->wpAny (aQ e.prog e.w) e.A (x (.int j I)<|.int B J) E Sn m):
  dZ e x (mG λj B=>.au<|N j B):=by
 intro G m y h f A v J E i b d c;let⟨j,@B,rfl,rfl,o⟩:=c;let⟨@I,rfl⟩:=b;let⟨@S4,rfl⟩:=d;exact a j B I S4 m _ _ ⟨.au<|N j B,h,i,rfl,o⟩
def IG(j B:Int):Prop:=(0<B/\B<1073741824)
def Mk(j B:Int):Prop:=(0<=B/\B<=1000000/\j.natAbs<2^64)
def P_:dZ e (fU .Add) (mG λj B=>.int<|j+B):=Au λ_ X X X X X X o=>add_int o
def Qm:dZ e (fU .Sub) (mG λj B=>.int<|j-B):=Au λ_ X X X X X X o=>sub_int o
def Mc:dZ e (fU .FloorDiv) (o5 IG λj B=>.int<|j/B):=tb λj B X X X X X a o=>by
 have t:(0:Int)<B:=a.1;have D:B<1073741824:=a.2;exact floordiv_int ⋯ (by rw[Int.fdiv_eq_ediv_of_nonneg j ⋯];exact o) (.inl (PyProof.noPylong_small ⋯))
def Nt:dZ e (fU .Mod) (o5 (λ_ B=>0<B) λj B=>.int<|j%B):=tb λj B X X X X X a o=>by
 have t:(0:Int)<B:=a;exact mod_int' ⋯ (by rw[Int.fmod_eq_emod_of_nonneg j ⋯];exact o)
def IA:dZ e (fU .Pow) (o5 Mk λj B=>.int<|j^B.toNat):=tb λ_ X X X X X X a o=>pow_int_small a.1 a.2.1 a.2.2 o
def GS{x:ae->fx ae}{N:Int->Int}(a:∀(j:Int) (I:hT) (m:av) (E:ae->av->Prop) (Sn:ae->av->Prop),E (.int (N j) m.toks) {m with toks:=m.toks+1}->wpAny (aQ e.prog e.w) e.A (x<|.int j I) E Sn m):
  xw e x (F9 λj=>.int<|N j):=by
 intro G m y h f v E i b c;let⟨@j,rfl,o⟩:=c;let⟨@I,rfl⟩:=b;exact a j I m _ _ ⟨.int<|N j,h,i.tok _,⟨_,rfl⟩,o⟩
def K_:xw e (unaryOp .USub) (F9 λj=>.int<|-j):=GS λ_ X X X X o=>neg_int o
def Rx{E:cu}{q b:Bool}(i:aG e G y h m)(o:E (.au q) h)(a:q=b):ew e G y E (.bool b) m:=by
 subst a;exact⟨.au q,h,i,rfl,o⟩
def OM:dZ e (d6 .LtE) (mG λj B=>.au<|decide (j<=B)):=wH λ_ X X X X X X o=>le_int o
def N0:dZ e (d6 .Gt) (mG λj B=>.au<|decide (B<j)):=wH λ_ X X X X X X o=>gt_int o
def KG:dZ e (d6 .GtE) (mG λj B=>.au<|decide (B<=j)):=wH λ_ X X X X X X o=>ge_int o
def Jh:dZ e (d6 .IsNot) (λf A h E=>A=.aV/\E (.au<|!decide (f=.aV)) h):=by
 intro G m y h f A v J E i a b c;let@⟨rfl,o⟩:=c;cases b;refine isnot_none_gen (Rx i o ?_);cases f<;>first
  | (cases a;rfl)
  | (let⟨@I,rfl⟩:=a;rfl)
def dZ.or(c:dZ e x u)(T:dZ e x Tg):dZ e x (λf A h E=>u f A h E\/Tg f A h E):=by
 intro G m y h f A v J E i a b o;rcases o with o|o
 ·exact c G m y h f A v J E i a b o
 ·exact T G m y h f A v J E i a b o
def dS(b:a_){Tc:lr}(c:Tc≠.In:=by decide)(D:Tc≠.NotIn:=by decide):o8 Tc b=aq:=by
 have a:(Tc==lr.In)=aq:=by cases Tc<;>first|rfl|exact absurd rfl c
 have d:(Tc==lr.NotIn)=aq:=by cases Tc<;>first|rfl|exact absurd rfl D
 cases b<;>simp[o8,a,d]
def J6(a:dZ e (d6 Tc) u)(g:bE e d Ti)(j:bE e b TB)(k:o8 Tc b=aq):bE e (.Compare d [Tc] [b] SD) (vi u Ti TB):=by
 intro G m y h E i c;exact wpAny_Compare1 (yS g j i c λv J l f A SK n p q o=>a G l y SK f A v J E n p q o) k
def Fq(I:b2):er:=(λy h E=>I y h λf P=>∃q,f=.au q/\E q P)
def P5(j:dZ e (d6 Tc) u)(k:bE e d Ti)(l:bE e b TB)(n:o8 Tc b=aq):hb e (.Compare d [Tc] [b] SD) (Fq<|vi u Ti TB):=by
 intro G m y h E i c;refine wpAny_isTrue_Compare1 (bP (k G m y h _ i c) λv o ⟨f,Sr,p,r,s⟩=>bP (l G o y Sr _ p s) λJ t ⟨A,SK,w,x,z⟩=>
  bP (j G t y SK f A v J _ w r x z) λg H ⟨I,B,C,D,q,a,F⟩=>?_) n;subst a;cases D;exact kT ⟨B,C,F⟩
def yP(u Tg:b0)(Ti TB U:b2):b2:=(λy h E=>Ti y h λf Sr=>TB y Sr λA SK=>u f A SK λb a=>∃q,b=.au q/\
 (if q=V then U y a λc d=>Tg A c d E else E (.au aq) a))
def Nb(o:dZ e (d6 Tc) u)(r:dZ e (d6 TZ) Tg)(s:bE e d Ti)(t:bE e b TB)(w:bE e g U)(x:sM [Tc,TZ] [b,g]=aq:=by with_unfolding_all rfl):bE e (.Compare d [Tc,TZ] [b,g] SD) (yP u Tg Ti TB U):=by
 intro G m y h E i c;refine Compare_chain (bP (s G m y h _ i c) λv z ⟨f,Sr,B,C,D⟩=>chain_link (bP (t G z y Sr _ B D) λJ F ⟨A,SK,H,j,I⟩=>
  bP (o G F y SK f A v J _ H C j I) λp L ⟨al,k,l,M,q,a,n⟩=>?_)) x;subst a;cases M;refine kT ?_;cases q with
 |false=>exact ite_ff ⟨.au aq,k,l,rfl,n⟩
 |true=>exact ite_tt (chain_last<|bP (w G L y k _ l n) λN O ⟨P,Q,R,S,T⟩=>r G O y Q A P J N E R j S T)
def OH(o:dZ e (d6 Tc) u)(r:dZ e (d6 TZ) Tg)(s:bE e d Ti)(t:bE e b TB)(w:bE e g U)(x:sM [Tc,TZ] [b,g]=aq:=by with_unfolding_all rfl):hb e (.Compare d [Tc,TZ] [b,g] SD) (Fq<|yP u Tg Ti TB U):=by
 intro G m y h E i c;refine isTrue_chain (bP (s G m y h _ i c) λv z ⟨f,Sr,B,C,D⟩=>test_link (bP (t G z y Sr _ B D) λJ F ⟨A,SK,H,j,I⟩=>
  bP (o G F y SK f A v J _ H C j I) λp L ⟨be,k,l,M,q,a,n⟩=>?_)) x;subst a;cases M;refine kT ?_;cases q with
 |false=>
  let⟨@bi,N,O⟩:=n;cases N;exact ite_ff ⟨k,l,O⟩
 |true=>
  refine ite_tt (test_last<|bP (w G L y k _ l n) λP Q ⟨R,S,T,al,am⟩=>bP (r G Q y S A R J P _ T j al am) λbm bn an=>?_);let⟨bs,@ap,as,a1,⟨@S6,a2,bd⟩⟩:=an;subst a2;cases a1;exact kT ⟨ap,as,bd⟩
def xq(Q:Φ)(f:aj)(h:ax)(q:Bool):Prop:=(
 match f with
 |.aV=>q=aq
 |.au b=>q=b
 |.int j=>q=(j != 0)
 |.str A=>A.length<=sizeLine/\q=((A.length:Int) != 0)
 |.qz A=>A.size<=sizeLine/\q=((A.size:Int) != 0)
 |.ref r=>(∃w,c2 Q h r w/\q=!w.isEmpty)\/(∃w,ck Q h r w/\q=!w.isEmpty)\/∃Sx,h r=Z (.dC Sx)/\q=!Sx.isEmpty
 |_=>False)
def KO{SV:Type}{Sx:List (SV×aj)}{R:List (SV×ae)}(u:fH Sx R):(!R.isEmpty)=!Sx.isEmpty:=by
 cases u<;>rfl
def F8{Sw:List ae}(u:bR w Sw):(!Sw.toArray.isEmpty)=!w.isEmpty:=by
 cases u<;>simp
def nx:(sizeLine:Nat)<2^63:=by rw[th];decide
def H4:OI e (λf h E=>∃q,xq e.K f h q/\E q h):=by
 intro G m y h f v E i g c;let⟨@q,a,o⟩:=c;have x:=nx;have z:sizeLine=16777216:=th;cases f with
 |aV=>
  cases g;have d:q=aq:=a;subst d;exact truthy_none ⟨h,i,o⟩
 |au b=>
  cases g;have d:q=b:=a;subst d;exact kT ⟨h,i,o⟩
 |int j=>
  let⟨@I,rfl⟩:=g;have d:q=(j != 0):=a;subst d;exact PySem.P.truthy_int ⟨h,i,o⟩
 |str A=>
  let⟨@I,rfl⟩:=g;obtain⟨s,d⟩:A.length<=sizeLine/\q=((A.length:Int) != 0):=a;subst d;exact PySem.P.truthy_str ⋯ ⟨h,i.tok _,o⟩
 |qz A=>
  let⟨@I,rfl⟩:=g;obtain⟨s,d⟩:A.size<=sizeLine/\q=((A.size:Int) != 0):=a;subst d;exact PySem.W.truthy_bytes ⋯ ⟨h,i.tok _,o⟩
 |ref r=>
  cases g;have d:(∃w,c2 e.K h r w/\q=!w.isEmpty)\/(∃w,ck e.K h r w/\q=!w.isEmpty)\/∃Sx,h r=Z (.dC Sx)/\q=!Sx.isEmpty:=a;rcases d with ⟨w,k,d⟩|⟨w,k,d⟩|⟨Sx,k,d⟩
  ·subst d;let⟨@Sw,u,bI,n⟩:=i.list k;have p:=u.length;exact wpAny_truthy_list bI.isList (by simp only[cJ];lia) ⟨h,i.tok _,by rw[F8 u];exact o⟩
  ·subst d;let⟨@Sw,u,bI,n⟩:=i.tuple k;have p:=u.length;exact truthy_tuple bI (by simp only[cJ];lia) ⟨h,i.tok _,by rw[F8 u];exact o⟩
  ·subst d;obtain⟨n,t,R,u,M⟩:Sx.length<=sizeLine/\(r==iB)=aq/\∃R,fH Sx R/\m.heap.DictOf (mr e.prog e.w) r R:=i.aR r _ k;have p:Sx.length=R.length:=d9.length u;exact wpAny_truthy_dict t M ⋯ ⟨h,i.tok _,by rw[KO u];exact o⟩
 |_=>exact (show False from a).elim
def Qy(b:bE e d Ti)(g:∀a,oE d e.env a=(do let v <-a;standAt d.pos;holding [v] (truthy v))):
  hb e d (λy h E=>Ti y h λf P=>∃q,xq e.K f P q/\E q P):=by
 intro G m y h E i c;exact isTrue_plain (bP (b G m y h _ i c) λv j ⟨f,Sr,k,l,n⟩=>H4 G j y Sr f v E k l n) (g _)
def LK:dZ e (fU .Add) (λf A h E=>∃j B,f=.str j/\A=.str B/\j.length+B.length<=sizeLine/\E (.str<|j++B) h):=by
 intro G m y h f A v J E i a b c;let⟨j,@B,rfl,rfl,d,o⟩:=c;let⟨@I,rfl⟩:=a;let⟨@S4,rfl⟩:=b;exact add_str (λS4 bt=>⟨.str<|j++B,h,i.tok _,⟨_,rfl⟩,o⟩) d
def iv{f:aj}(u:bR [f] SP):∃J,SP=[J]/\cb f J:=by
 cases u with
 |cons a b=>cases b;exact⟨_,rfl,a⟩
def ps{f:aj}(u:bR [f,A] SP):∃J a,SP=[J,a]/\cb f J/\cb A a:=by
 cases u with
 |cons b c=>
  cases c with
  |cons d e=>cases e;exact⟨_,_,rfl,b,d⟩
def K8(b:e.calm=V):ey e (.builtin "max") (λw h E=>∃j B,w=[.int j,.int B]/\E (.int<|if B>j then B else j) h):=by
 intro G m y h w SP E i u c;let⟨j,@B,rfl,o⟩:=c;let⟨J,@d,rfl,⟨@I,rfl⟩,⟨@S4,rfl⟩⟩:=ps u;refine max_two_ints (i.ok.hd b) λT bt q=>⟨_,h,i.kept q,?_,o⟩;by_cases a:B>j
 ·rw[aN a,aN a];exact⟨_,rfl⟩
 ·rw[aT a,aT a];exact⟨_,rfl⟩
def Ml(b:e.calm=V):ey e (.builtin "min") (λw h E=>∃j B,w=[.int j,.int B]/\E (.int<|if B<j then B else j) h):=by
 intro G m y h w SP E i u c;let⟨j,@B,rfl,o⟩:=c;let⟨J,@d,rfl,⟨@I,rfl⟩,⟨@S4,rfl⟩⟩:=ps u;refine min_two_ints (i.ok.hd b) λT bt q=>⟨_,h,i.kept q,?_,o⟩;by_cases a:B<j
 ·rw[aN a,aN a];exact⟨_,rfl⟩
 ·rw[aT a,aT a];exact⟨_,rfl⟩
def O2:ey e (.type "int") (λw h E=>(∃j,w=[.int j]/\E (.int j) h)\/∃q,w=[.au q]/\E (.int<|if q then 1 else 0) h):=by
 intro G m y h w SP E i u c;rcases c with ⟨j,rfl,o⟩|⟨q,rfl,o⟩
 ·let⟨@J,rfl,⟨@I,rfl⟩⟩:=iv u;exact call_int_int ⟨.int j,h,i,⟨_,rfl⟩,o⟩
 ·let⟨@J,rfl,a⟩:=iv u;cases a;exact call_int_bool ⟨.int<|if q then 1 else 0,h,i.tok _,⟨_,rfl⟩,o⟩
end
def ks.some_of{n:Option ae}(u:ks (Z v) n):∃J,n=Z J/\cb v J:=by
 cases n with
 |none=>exact (show False from u).elim
 |some J=>exact⟨J,rfl,u⟩
structure d_(q:Nat)(O:bp):Prop where
 hd:O.handled=Y
 vM:O.depth+3*q+5<FW
 un:O.units+16*q+200<b7
 mE:O.guards=Z []
def d_.mono{B:Nat}(u:d_ q O)(c:B<=q):d_ B O:=⟨u.hd,by have:=u.vM;lia,by have:=u.un;lia,u.mE⟩
def d_.deeper(u:d_ (q+1) O)(Sk:dU):d_ q (O.deeper Sk):=
 ⟨u.hd,by have:=u.vM;show O.depth+1+3*q+5<_;lia,by have:=u.un;show O.units+3+16*q+200<_;lia,u.mE⟩
def d_.depth(u:d_ q O):O.depth<FW:=by have:=u.vM;lia
def J_:e_:=(λ_ h E=>E [] h)
def RB(Ti:b2)(eM:e_):e_:=(λy h E=>Ti y h λf Sr=>eM y Sr λw SK=>E (f::w) SK)
section
variable{e:aK}{a:a_}{Sl:List a_}{TF:b2}{I:e_}{SD:cn}
def qa:g7 e [] J_:=λ_ X X X h E i c=>Dl ⟨[],h,i,.nil,c⟩
def l1(d:bE e a TF)(g:g7 e Sl I)(j:bw (a::Sl) e.env=(aq,b1 a e.env)::bw Sl e.env:=by rfl):g7 e (a::Sl) (RB TF I):=by
 intro SD G m y h E i c;rw[j];show wpAny _ _ (spliced ((aq,b1 a e.env)::e8 SD (bw Sl e.env))) _ _ m;refine EN (bP (d G m y h _ i c) λJ k b=>?_);let⟨f,@Sr,l,n,o⟩:=b;refine bP (g SD G k y Sr _ l o) λSP s b=>?_;let⟨w,@SK,p,q,r⟩:=b;exact⟨f::w,SK,p,.cons n q,r⟩
def Qs(I:e_):b2:=(λy h E=>I y h λw Sr=>w.length<=sizeLine/\∀r,Sr r=Y->E (.ref r) (upd Sr r<|.tup w))
def Qo(I:e_):b2:=(λy h E=>I y h λw Sr=>w.length<=sizeLine/\∀r,Sr r=Y->E (.ref r) (upd Sr r<|.lst w))
def O9{j}(c:g7 e Sl I):bE e (.Tuple Sl j SD) (Qs I):=by
 intro G m y h E i k;refine wpAny_Tuple_spliced (bP (c SD G m y h _ i k) λSP d ⟨w,Sr,f,u,g,o⟩=>⟨by rw[<-u.length];exact g,?_⟩);have l:Sr d.heap.objs.size=Y:=f.aR.fresh (bq _);refine⟨.ref d.heap.objs.size,upd Sr d.heap.objs.size<|.tup w,f.laid (S4:=d.toks) (λb J a=>cw _ a) (bq _) ?_,rfl,o _ l⟩;exact⟨g,SP,u,⟨_,dH _ rfl,rfl,_,rfl⟩⟩
def IH(c:g7 e Sl I):bE e (.List Sl SD) (Qo I):=by
 intro G m y h E i j;refine wpAny_List_spliced (bP (c SD G m y h _ i j) λSP d ⟨w,Sr,f,u,g,o⟩=>⟨by rw[<-u.length];exact g,?_⟩);have k:Sr d.heap.objs.size=Y:=f.aR.fresh (bq _);refine⟨.ref d.heap.objs.size,upd Sr d.heap.objs.size<|.lst w,f.laid (S4:=d.toks) (λb J a=>cw _ a) (bq _) ?_,rfl,o _ k⟩;exact⟨g,SP,0,u,dH _ rfl⟩
end
abbrev cF:=List aj->ax->cu->fA->Prop
abbrev jn:=List dU->ax->av->fA->ae->av->Prop
variable{TK:jn}
structure sO(S:bl)(l:a8)(Q:Φ)(aw:aC->Option ae)(Sz:a0)(O:bp)(S2:List dU)(m:av)(h:ax):Prop where
 frames:O.frames=Z S2
 mod:Mod Q aw Sz
 bs:∀b n,Sz.get? b=Z n->m.heap.get? b=Z n/\h b=kc n
 hq:Sz.objs.size<=m.heap.objs.size
 fO:m.heap.FunFrames Sz S2
 iK:∀b∈dN S2,h b=Y
 aR:dw S l h m.heap
 bare:ke m.gens
def yl(S2:List dU)(S:bl)(l:a8)(h:ax)(m:av)(E:cu)(J:ae)(Ss:av):Prop:=(
 ∃v P,Ss.os=m.os/\ke Ss.gens/\dR (dN S2) [] h P m.heap Ss.heap/\dw S l P Ss.heap/\cb v J/\E v P)
def Mf(TK:jn)(S2:List dU)(S:bl)(l:a8)(h:ax)(m:av)(E:cu)(Sn:fA)(u:oH)(Ss:av):Prop:=(
 match u with
 |.ok (.ret J)=>yl S2 S l h m E J Ss
 |.ok _=>False
 |.error a=>TK S2 h m Sn a Ss)
structure gG(S:bl)(l:a8)(Q:Φ)(aw:aC->Option ae)(Sz:a0)(TK:jn)(q:Nat)(x:af)(fd:f3)(SA:List aC)(TC:cF):Prop where
 len:∀R h E Sn,TC R h E Sn->R.length=SA.length
 run:∀(O:bp) (S2:List dU) (m:av) (h:ax) (args:Args) (SP:List ae) (R:List aj) (E:cu) (Sn:fA),d_ q O->sO S l Q aw Sz O S2 m h->l_ m fd args (SA.zip SP)->bR R SP->TC R h E Sn->
  codeAny (aQ S l) O (.call (.ref x) args) (Mf TK S2 S l h m E Sn) m
section
variable{e:aK}{G:List (af×aW)}{y:aS}{h:ax}{m Ss:av}
def aG.Gw(i:aG e G y h m):sO e.prog e.w e.K e.aw e.base e.A e.stack m h:=
 ⟨i.ok.frames,i.ok.mod,i.bs,ee i.ok.hq i.ko,i.stack,i.qr,i.aR,i.bare⟩
def aG.after{E:cu}(i:aG e G y h m)(c:yl e.stack e.prog e.w h m E J Ss):ew e G y E J Ss:=by
 let⟨v,@P,Sy,a,un,aR,u,o⟩:=c;let⟨d,N,p,I,f⟩:=Ss;obtain rfl:f=m.os:=Sy;exact⟨v,P,i.call (T:=d) (k:=N) (t:=p) (S4:=I) (TH:=[]) un aR a (λb g=>absurd g ↥0),u,o⟩
end
def yg(TC:cF)(k:List aj)(Sn:fA)(I:e_):b2:=(λy h E=>I y h λR Sr=>TC (R++k) Sr E Sn)
def gQ(Q:Φ)(fd:f3)(SA:List aC)(C:List ae):Prop:=(
 ∀(m:av) (SP:List ae),Q.In m.heap->(SP++C).length=SA.length->l_ m fd ⟨SP,[]⟩ (SA.zip<|SP++C))
def gQ.all{fd:f3}(c:∀SP:List ae,SP.length=SA.length->jg fd ⟨SP,[]⟩=pure (SA.zip SP)):gQ Q fd SA []:=λm SP X a=>by
 rw[cp]at a ⊢;exact .of_eq (c SP a)
def uX(TK:jn)(e:aK)(Sn:fA):Prop:=(∀(G:List (af×aW)) (y:aS) (h:ax) (m:av) (a:ae) (Ss:av),aG e G y h m->TK e.stack h m Sn a Ss->e.cj a Ss)
section
variable{e:aK}{TK:jn}{q:Nat}{x az:af}{fd:f3}{SA:List aC}{TC:cF}{k:List aj}{C:List ae}{Sn:fA}{f M:aC}{r SD H:cn}{a n:a_}{Sl:List a_}{Ti:b2}{I:e_}
def Eb{E:cu}(L:gG e.prog e.w e.K e.aw e.base TK q x fd SA TC)(f:d_ q e.A)(g:gQ e.K fd SA C)(hd:bR k C)(j:uX TK e Sn)(i:aG e G y h m)(u:bR R SP)(c:TC (R++k) h E Sn):wpAny (aQ e.prog e.w) e.A (call (.ref x) SP) (ew e G y E) e.cj m:=by
 have d:bR (R++k) (SP++C):=u.append hd;have n:(SP++C).length=SA.length:=by rw[<-d.length];exact L.len _ _ _ _ c
 refine wpAny_call (vt (L.run e.A e.stack m h ⟨SP,[]⟩ (SP++C) (R++k) E Sn f i.Gw (g m SP i.jl n) d c) λu Ss b=>?_);cases u with
 |error a=>exact j G y h m a Ss i b
 |ok aO=>
  cases aO with
  |ret J=>exact i.after b
  |next=>exact False.elim b
  |brk=>exact False.elim b
  |cont=>exact False.elim b
def Iv(L:gG e.prog e.w e.K e.aw e.base TK q x fd SA TC)(d:d_ q e.A)(g:dP e f)(j:e.aw f=Z (.ref x))(n:Γ e.K (.ref x)=V)(p:gQ e.K fd SA C)(hd:bR k C)(s:uX TK e Sn)(t:g7 e (a::Sl) I)(v:(f==("__debug__" : aC))=aq:=by decide)(z:bw (a::Sl) e.env=(aq,b1 a e.env)::bw Sl e.env:=by rfl)(B:(e8 SD<|bw Sl e.env).any (·.1)=aq:=by rfl):
  bE e (.Call (.Name f r) (a::Sl) [] SD) (yg TC k Sn I):=by
 intro G m y h E i c;refine pj (si i g j ?_ v);refine yM (h₀:=e.base) i.ok.mod.oq n (bP (t SD G m y h _ i c) λSP F ⟨R,Sr,b,u,o⟩=>⟨b.jl,?_⟩) z B;exact Eb L d p hd s b u o
end
structure kj(SS S:List aC)(i:gj):Prop where
 kind:i.kind=.function
 co:i.isCoroutine=aq
 gen:i.isGenerator=aq
 ao:SS.Nodup
 pre:SS.take S.length=S
 par:∀f∈S,i.names.lookup f=Z .local\/i.names.lookup f=Z .cell
 NL:∀A∈i.names,A.2≠.free
theorem zu{a:aC->Option cY}{f:aC}:∀{binds:List (aC×ae)}{M:aC->Option ae},(∀v,(f,v)∉binds)->bindL a binds M f=M f
 |[],_,_=>rfl
 | (s,v)::u,M,c=>by
  unfold bindL;rw[zu λl b=>c l<|kL _ b];split
  ·have:f≠s:=by rintro rfl;exact c v lX
   simp[this]
  ·rfl
theorem DC{a:aC->Option cY}{f:aC}:∀{binds:List (aC×ae)}{M:aC->Option ae},(∀v,(f,v)∉binds)->bindC a binds M f=M f
 |[],_,_=>rfl
 | (s,v)::u,M,c=>by
  unfold bindC;rw[DC λl b=>c l<|kL _ b];split
  ·rfl
  ·have:f≠s:=by rintro rfl;exact c v lX
   simp[this]
theorem BQ{a:aC->Option cY}{f:aC}{v:ae}:∀{S:List aC}{R:List ae}{j:Nat}{M:aC->Option ae},S.Nodup->S[j]?=Z f->R[j]?=Z v->a f=Z .local->
  bindL a (S.zip R) M f=Z v
 |[],_,_,_,_,c,_,_=>by simp at c
 |_::_,[],_,_,_,_,c,_=>by simp at c
 |r::S,l::R,0,M,ao,t,D,b=>by
  simp at t D;subst t;subst D;show bindL a ((r,l)::S.zip R) M r=_;unfold bindL;rw[zu λv d=>(iH.mp ao).1 (wL d).1,aN b];simp
 |r::S,l::R,j+1,M,ao,t,D,b=>by
  show bindL a ((r,l)::S.zip R) M f=_;unfold bindL;exact BQ (j:=j) (iH.mp ao).2 ⇑t ⇑D b
theorem CT{a:aC->Option cY}{f:aC}{v:ae}:∀{S:List aC}{R:List ae}{j:Nat}{M:aC->Option ae},S.Nodup->S[j]?=Z f->R[j]?=Z v->a f≠Z .local->
  bindC a (S.zip R) M f=Z v
 |[],_,_,_,_,c,_,_=>by simp at c
 |_::_,[],_,_,_,_,c,_=>by simp at c
 |r::S,l::R,0,M,ao,t,D,b=>by
  simp at t D;subst t;subst D;show bindC a ((r,l)::S.zip R) M r=_;unfold bindC;rw[DC λv d=>(iH.mp ao).1 (wL d).1,aT b];simp
 |r::S,l::R,j+1,M,ao,t,D,b=>by
  show bindC a ((r,l)::S.zip R) M f=_;unfold bindC;exact CT (j:=j) (iH.mp ao).2 ⇑t ⇑D b
def start(SS:List aC)(R:List aj):aS:=(R.map Z++replicate (SS.length-R.length) Y)
def h7(TK:jn)(S:bl)(l:a8)(Q:Φ)(aw:aC->Option ae)(Sz:a0)(SS:List aC)(Tu:aC)(SO:gj)(x:af)(TO:ae)(O:bp)(S2:List dU)(m:av)(h:ax)(Sn:fA):aK where
 prog:=S
 w:=l
 K:=Q
 aw:=aw
 base:=Sz
 A:=O.deeper (ib Tu SO m.heap.objs.size x TO)
 N:=SS
 eh:=m
 mA:=h
 env:=ib Tu SO m.heap.objs.size x TO
 outer:=S2
 stack:=ib Tu SO m.heap.objs.size x TO::S2
 ex:=[]
 calm:=V
 fn:=λ_=>V
 e0:=[]
 cj:=λa Ss=>wpAny (aQ S l) (O.deeper<|ib Tu SO m.heap.objs.size x TO) (leaving (ib Tu SO m.heap.objs.size x TO) a) (λ_ b=>TK S2 h m Sn a b) (λc b=>TK S2 h m Sn c b) Ss
def AA{i:gj}(c:i.names.lookup f=Z .cell):∃g,(wU s i.names []).lookup f=Z g:=by
 have o:=DA i.names s [] (.inl c);exact Fd.mp o
def Pt{x:af}{TO:ae}{S2:List dU}{w:av}{Sn:fA}(SF:kj SS SA SO)(hd:O.handled=Y)(e:sO S l Q aw Sz O S2 m h)(F:R.length=SA.length)(u:bR R SP)(f:InCallC m m.heap.objs.size (bindL (ib Tu SO m.heap.objs.size x TO).kindOf (SA.zip SP) λ_=>Y) (wU (m.heap.objs.size+1) SO.names []) (bindC (ib Tu SO m.heap.objs.size x TO).kindOf (SA.zip SP) λ_=>Y) w):
  aG (h7 TK S l Q aw Sz SS Tu SO x TO O S2 m h Sn) [] (start SS R) h w:=by
 have G:SA.length<=SS.length:=by have:=congrArg List.length SF.pre;rw[oO]at this;lia
 let⟨t,@bt,rfl,y⟩:=f.done;have p:∀b:af,b∉(h7 TK S l Q aw Sz SS Tu SO x TO O S2 m h Sn).ex:=λb k=>absurd (show b∈([]:List af) from k) ↥0;refine⟨⟨e.mod,SF.kind,rfl,rfl,bq _,λA k g t D=>?_,λA i=>?_,λA g X c=>?_,λ_=>hd,bp.frames_deeper e.frames,.inr ⟨rfl,rfl⟩,λb k=>absurd k<|p b,e.bs,e.hq,λb X X=>p b,λb k=>absurd k<|p b,e.fO,e.iK⟩,
  rfl,e.bare,dR.kept y,⟨_,f.toInCall.ns,λj A v t D I=>?_⟩,λA g c=>⟨_,f.cell A g c⟩,e.aR.fresh<|bq _,λA g c=>?_,λr n=>absurd (show r∈([]:List (af×aW)) from n) ↥0,e.aR.kept y,?_⟩
 ·exact name_of_addr f.apart (PySem.mem_of_lookup t) (PySem.mem_of_lookup D)
 ·have i:SO.names.lookup A=Z .cell\/SO.names.lookup A=Z .free:=i;rcases i with i|i
  ·exact AA i
  ·exact absurd rfl (SF.NL _<|PySem.mem_of_lookup i)
 ·exact p4 (f.above A g<|PySem.mem_of_lookup c)
 ·have Sq:j<R.length:=by
   unfold start at D;by_cases Sq:j<R.length
   ·exact Sq
   ·rw[pJ ⇑Sq]at D;rw[List.getElem?_replicate]at D;split at D<;>cases D
  have C:R[j]?=Z v:=by
   unfold start at D;rw[ly ⇑Sq,gJ]at D;cases a:R[j]? with
   |none=>rw[a]at D;cases D
   |some d=>rw[a]at D;cases D;rfl
  let⟨@J,z,E⟩:=u.get C;have n:SA[j]?=Z A:=by
   rw[<-SF.pre,List.getElem?_take_of_lt ⋯];exact t
  have B:SA.Nodup:=by rw[<-SF.pre];exact SF.ao.sublist (List.take_sublist _ _)
  refine⟨J,E,?_⟩;rcases SF.par A (jS n) with q|q
  ·exact .inl ⟨q,BQ B n z q⟩
  ·let⟨@g,a⟩:=AA (s:=m.heap.objs.size+1) q;refine .inr ⟨.inl q,g,a,?_⟩;have o:=f.cell A g a;rw[CT B n z (by show SO.names.lookup A≠_;rw[q];decide)]at o;exact o
 ·exact e.aR.fresh (p4<|f.above A g<|PySem.mem_of_lookup c)
 ·unfold start;show _=SS.length;rw[dj,bu,List.length_replicate];lia
def BY{x:af}{name:aC}{p:Arguments}{r b3 k Tb S7 bX TV:ae}{B F:Option af}{TY:Array (Option ae)}{TC:cF}(lk:Q.lookup x=Z ⟨TV,F,.func<|Θ name Tu p TR SO r b3 k Tb B S7 bX,TY⟩)(z:Φb Q S7 Tu=V)(SF:kj SS SA SO)(len:∀R h E Sn,TC R h E Sn->R.length=SA.length)(C:∀(O:bp) (S2:List dU) (m:av) (h:ax) (R:List aj) (E:cu) (Sn:fA),d_ q (O.deeper<|ib Tu SO m.heap.objs.size x S7)->TC R h E Sn->
   ∃I,gD (h7 TK S l Q aw Sz SS Tu SO x S7 O S2 m h Sn) TR I/\I {aX:=λ_ P=>E .aV P,dX:=E} (start SS R) h):
  gG S l Q aw Sz TK (q+1) x (Θ name Tu p TR SO r b3 k Tb B S7 bX) SA TC:=by
 refine⟨len,λO S2 m h args SP R E Sn g d D u t=>?_⟩;have G:=len _ _ _ _ t;have w:Q.In m.heap:=d.mod.oq.keeps λb n a=>(d.bs b n a).1;have L:m.heap.NoLimit:=d.mod.nolimit.keeps λb n a=>(d.bs b n a).1;have M:∀A∈SA.zip SP,SO.names.lookup A.1=Z .local\/(SO.names.lookup A.1=Z .cell/\((wU (m.heap.objs.size+1) SO.names []).lookup A.1).isSome=V):=λ⟨s,v⟩ N=>by
  rcases SF.par s (wL N).1 with o|o
  ·exact .inl o
  ·exact .inr ⟨o,DA _ _ _<|.inl o⟩
 refine codeAny_call_function g.depth (w _ _ lk) rfl SF.co SF.gen rfl (PySem.W.codeRec_of w z) (D _ _ _ _ ?_);refine wpAny_newFunctionEnv_cells SF.kind M λSk T y f=>?_;subst T;refine⟨L.keeps f.toInCall.keep,codeAny_func ?_⟩;let⟨@I,U,al⟩:=C O S2 m h R E Sn (g.deeper _) t;have i:aG (h7 TK S l Q aw Sz SS Tu SO x S7 O S2 m h Sn) [] (start SS R) h y:=Pt SF g.hd d G u f;refine gW (U [] y (start SS R) h _ i al) (λaO Ss c=>?_) λa Ss c=>c;have fin:∀{e:aS}{P:ax}{v:aj}{J:ae},aG (h7 TK S l Q aw Sz SS Tu SO x S7 O S2 m h Sn) [] e P Ss->cb v J->E v P->yl S2 S l h m E J Ss:=
  λ{e P v J} Tr j o=>⟨v,P,Tr.os,Tr.bare,Tr.base,Tr.aR,j,o⟩;cases aO with
 |ret J=>
  let⟨v,e,@P,Tr,j,o⟩:=c;exact fin Tr j o
 |next=>
  let⟨e,@P,Tr,o⟩:=c;exact fin (v:=aj.aV) (J:=ae.none) Tr rfl o
 |brk=>
  let⟨X,@X,X,o⟩:=c;exact False.elim o
 |cont=>
  let⟨X,@X,X,o⟩:=c;exact False.elim o
section
variable{e:aK}{f:aC}{r SD:cn}{a:a_}{Sl:List a_}{I:e_}{id F:String}{u:List aj->ax->cu->Prop}
def En(u:List aj->ax->cu->Prop)(I:e_):b2:=(λy h E=>I y h λR Sr=>u R Sr E)
def sF(b:ey e (.builtin id) u)(d:dP e f)(g:e.aw f=Y)(j:eB f=Z (.builtin id))(k:g7 e (a::Sl) I)(l:f ≠ "__name__" := by decide)(n:(f==("__debug__" : aC))=aq:=by decide)(o:bw (a::Sl) e.env=(aq,b1 a e.env)::bw Sl e.env:=by rfl)(p:(e8 SD<|bw Sl e.env).any (·.1)=aq:=by rfl):bE e (.Call (.Name f r) (a::Sl) [] SD) (En u I):=by
 intro G m y h E i c;refine pj (m3 i d g j ?_ l n);exact LF (bP (k SD G m y h _ i c) λSP q ⟨R,Sr,s,t,v⟩=>b G q y Sr R SP E s t v) o p
def Pr(b:ey e (.type F) u)(d:dP e f)(g:e.aw f=Y)(j:eB f=Z (.type F))(k:g7 e (a::Sl) I)(l:f ≠ "__name__" := by decide)(n:(f==("__debug__" : aC))=aq:=by decide)(o:bw (a::Sl) e.env=(aq,b1 a e.env)::bw Sl e.env:=by rfl)(p:(e8 SD<|bw Sl e.env).any (·.1)=aq:=by rfl):bE e (.Call (.Name f r) (a::Sl) [] SD) (En u I):=by
 intro G m y h E i c;refine pj (m3 i d g j ?_ l n);exact ql (bP (k SD G m y h _ i c) λSP q ⟨R,Sr,s,t,v⟩=>b G q y Sr R SP E s t v) o p
end
end L2
namespace cI
open PyProof.Rows
variable{Sq Sp:Option Int}{k bY:ae}{aH I:af}{E:ae->av->Prop}
theorem KH(O:bp)(m:av)(d:Int)(I:hT)(g:Int)(J:hT)(Su:bl)(l:a8)(Sn:ae->av->Prop)(E:ae->av->Prop)(c:E (.bool<|decide (d<g)) m):
  wpAny (aQ Su l) O (ny .Lt (.int d I)<|.int g J) E Sn m:=
 (Of c:wpAny (aQ Su l) O (d6 .Lt (.int d I)<|.int g J) E Sn m)
section
open PySem.SeqAt
open PySem.AutoSeq1 (wpAny_loadPart')
open PySem.MeetsSeq PySem.MeetsSeq2 PySem.MeetsSeq3
end
section
variable{Su:bl}{l:a8}{O:bp}{Sn:ae->av->Prop}{m:av}
def OD{b:af}{R Ta:List ae}(p:oi m.heap I R.toArray)(q:oi m.heap b Ta.toArray)(f:R≠[])(t:Ta=[]->E (.ref I) m)(D:Ta≠[]->E (.ref m.heap.objs.size) {m with heap:=m.heap.push {cls:=.type "tuple",data:=.seq (R++Ta).toArray} })(r:R.length+Ta.length<=sizeLine):wpAny (aQ Su l) O (fU .Add (.ref I)<|.ref b) E Sn m:=by
 let⟨@⟨cls,g,data,aH⟩,c,h,⟨@s,hd⟩⟩:=id p;let⟨@⟨u,i,data2,j⟩,d,k,⟨@n,o⟩⟩:=id q;simp only at h hd k o;subst h hd k o;have a:R.toArray++Ta.toArray=(R++Ta).toArray:=by simp
 by_cases e:Ta=[]
 ·exact xS ⟨_,c,rfl⟩ ⟨_,d,rfl⟩ wA vY wi vN (vL _ _)
   (tuple_addW1 I b R.toArray Ta.toArray s n g i aH j ⇑f (by simp[e])) ⟨c,d,t e⟩
 ·refine xS ⟨_,c,rfl⟩ ⟨_,d,rfl⟩ wA vY wi vN (vL _ _)
   (tuple_addW2 I b R.toArray Ta.toArray s n g i aH j ⇑f ⇑e (by rw[cJ,cJ];exact r)) ⟨c,d,?_⟩;rw[a];exact D e
def b_(s p:Nat):Option Int->Nat
 |none=>p
 |some v=>if v<0 then (v+(s:Int)).toNat else min v.toNat s
def FI(s p:Nat):b_ s p Y=p:=rfl
def Ac(s p q:Nat):b_ s p (Z (q:Int))=min q s:=by
 show (if (q:Int)<0 then ((q:Int)+(s:Int)).toNat else min (q:Int).toNat s)=min q s;rw[aT ⋯,qj]
def Qe(s p:Nat)(hd:p<=s)(n:Option Int):b_ s p n<=s:=by
 cases n with
 |none=>exact hd
 |some v=>
  show (if v<0 then (v+(s:Int)).toNat else min v.toNat s)<=s;by_cases a:v<0
  ·rw[aN a];lia
  ·rw[aT a];exact Nat.min_le_right _ _
def CV(v:Int)(s p:Nat):(if v<0 then max (v+(s:Int)) 0 else min v (s:Int))=((b_ s p (Z v):Nat):Int):=by
 show (if v<0 then max (v+(s:Int)) 0 else min v (s:Int))=(((if v<0 then (v+(s:Int)).toNat else min v.toNat s):Nat):Int);by_cases a:v<0
 ·simp only[aN a];lia
 ·simp only[aT a];lia
def HW(Sp Sq:Option Int)(s:Nat):bk.Slice.sliceAdjust Sp Sq 1 (s:Int)=(((b_ s 0 Sp:Nat):Int),((b_ s s Sq:Nat):Int)):=by
 have t:¬ ((1:Int)<0):=⋯
 unfold bk.Slice.sliceAdjust;simp only[t,ig];refine x3 ?_ ?_
 ·cases Sp with
  |none=>rfl
  |some v=>exact CV v s 0
 ·cases Sq with
  |none=>rfl
  |some v=>exact CV v s s
def QA(j B:Nat):bk.Slice.slicePlaces (j:Int) (B:Int) 1=B-j:=by
 unfold bk.Slice.slicePlaces;have t:(1:Int)>0:=⋯
 simp only[t,je,Int.ediv_one];split<;>lia
def Dt{v:ae}{n:Option Int}{E:Option Int->av->Prop}(r:j6 v n)(c:E n m):wpAny (aQ Su l) O (bk.Slice.slicePartIndex v) E Sn m:=by
 cases r with
 |none=>exact Fv c
 |int j I=>exact slicePart_int c
def Dq{s:Nat}{E:Int×Int×Nat->av->Prop}(d:m.heap.IsSliceOf aH bY k .none)(bI:j6 bY Sp)(e:j6 k Sq)(c:E (((b_ s 0 Sp:Nat):Int),1,b_ s s Sq-b_ s 0 Sp) m):wpAny (aQ Su l) O (bk.Slice.sliceApplied (.ref aH)<|pure (s:Int)) E Sn m:=by
 let⟨@Sy,a,g,b⟩:=id d;unfold bk.Slice.sliceApplied bk.Slice.sliceFields;refine aD (aD<|hM a b (x:=bY) rfl<|aD<|hM a b (x:=k) rfl<|aD<|hM a b (x:=.none) rfl<|a7 ?_);refine aD (Fv ?_);show wpAny _ _ (if ((1:Int)==0)=V then _ else _) _ _ m;rw[aT ∅];refine aD (Dt bI<|aD<|Dt e<|aD<|a7 ?_);show wpAny _ _ (match bk.Slice.sliceAdjust Sp Sq 1 (s:Int) with|(Sp,Sq)=>pure (Sp,(1:Int),bk.Slice.slicePlaces Sp Sq 1)) _ _ m;rw[HW Sp Sq s];show wpAny _ _ (pure (((b_ s 0 Sp:Nat):Int),(1:Int),bk.Slice.slicePlaces ((b_ s 0 Sp:Nat):Int) ((b_ s s Sq:Nat):Int) 1)) _ _ m;rw[QA];exact a7 c
def NK(w:Array ae)(j q:Nat):((range q).filterMap λ(M:Nat)=>w[((j:Int)+(M:Int)*1).toNat]?).toArray=((w.toList.drop j).take q).toArray:=by
 have a:(λ(M:Nat)=>w[((j:Int)+(M:Int)*1).toNat]?)=λM=>w[j+M]?:=by
  funext M;have:((j:Int)+(M:Int)*1).toNat=j+M:=⋯
  rw[this]
 rw[a];have:=pick_run w j q;rw[List.filterMap_map]at this;have b:((λf=>w[f]?) ∘ λf=>j+f)=λM=>w[j+M]?:=rfl;rw[b]at this;rw[this]
def ME{SM:Array ae}(a:oi m.heap I SM)(d:m.heap.IsSliceOf aH bY k .none)(bI:j6 bY Sp)(e:j6 k Sq)(f:¬ (b_ SM.size 0 Sp=0/\b_ SM.size SM.size Sq=SM.size))(c:E (.ref m.heap.objs.size) {m with heap:=m.heap.push {cls:=.type "tuple",data:=.seq ((SM.toList.drop<|b_ SM.size 0 Sp).take<|b_ SM.size SM.size Sq-b_ SM.size 0 Sp).toArray} })(n:SM.size<=sizeLine):wpAny (aQ Su l) O (mU (.ref I)<|.ref aH) E Sn m:=by
 have b:sizeOk (.seq ((SM.toList.drop<|b_ SM.size 0 Sp).take<|b_ SM.size SM.size Sq-b_ SM.size 0 Sp).toArray):=by
  show ((SM.toList.drop<|b_ SM.size 0 Sp).take<|b_ SM.size SM.size Sq-b_ SM.size 0 Sp).toArray.size<=sizeLine;rw[cJ,oO,kf,gT];lia
 have p:b_ SM.size SM.size Sq<=SM.size:=Qe _ _ (bq _) Sq;let⟨@Sy,g,h,q⟩:=id d;have i:m.TypeIs (.ref aH) "slice" := ⟨Sy,g,h⟩;unfold mU;try with_reducible refine fX ?_
 first|refine aD (a7 ?_)|skip
 refine aD (AF a.typeIs ∅ ?_);refine aD (lU (name:=aC.ofString "__getitem__") a.typeIs oD
  (i_ oD a.typeIs EG ?_<|BW _ _));show wpAny _ _ (bk.Tuple.tupleItemsOf (.ref I) >>= _) _ _ m;refine aD (Bn a ?_);refine aD (wpAny_typeOf i ?_);rw[aN ∅];refine aD (Dq d bI e ?_);have j:¬ ((((b_ SM.size 0 Sp:Nat):Int)==0&&(1:Int)==1&&(b_ SM.size SM.size Sq-b_ SM.size 0 Sp)==SM.size)=V):=by
  intro o;rw[cG,cG]at o;have r:((b_ SM.size 0 Sp:Nat):Int)=0:=eq_of_beq o.1.1;have s:b_ SM.size SM.size Sq-b_ SM.size 0 Sp=SM.size:=eq_of_beq o.2;exact f ⟨⋯,⋯⟩
 show wpAny _ _ (if (((b_ SM.size 0 Sp:Nat):Int)==0&&(1:Int)==1&&(b_ SM.size SM.size Sq-b_ SM.size 0 Sp)==SM.size)=V then _ else _) _ _ m;rw[aT j,NK];first
  | exact aD (m:=bk.Tuple.tupleExact _) (h9 (a7 ⟨_,rfl,a7 c⟩) b)
  | exact aD (m:=bk.Tuple.tupleExact _) (h9 (aD<|a7<|a7 ⟨_,rfl,a7 c⟩) b)
  | exact aD (aD (m:=bk.Tuple.tupleExact _)<|h9 (a7<|a7 ⟨_,rfl,a7 c⟩) b)
  | exact aD (aD (m:=bk.Tuple.tupleExact _)<|h9 (a7 ⟨_,rfl,a7 c⟩) b)
end
end cI
namespace L2
open Spec PyProof.Rows
variable{T:a0}{E:ae->av->Prop}{P h:ax}{Sx:List (List ab×aj)}{l:a8}{S:bl}{n:Option aj}{S4 s:Nat}{TL Sw SP:List ae}{r:af}{m:av}{y:aS}{G:List (af×aW)}{u:b0}{S0:Type}{j:Int}{w:List (List ab×af×ae)}
abbrev cQ:=aS->ax->(Option Int->ax->Prop)->Prop
def As(e:aK)(a:Option a_)(I:cQ)(G:List (af×aW)):Prop:=(
 ∀(m:av) (y:aS) (h:ax) (E:Option Int->ax->Prop),aG e G y h m->I y h E->
  wpAny (aQ e.prog e.w) e.A (evalPart a e.env) (λJ Ss=>∃n P,aG e G y P Ss/\j6 J n/\E n P) e.cj m)
def oc(e:aK)(a:Option a_)(I:cQ):Prop:=(∀G,As e a I G)
def Rg:cQ:=(λ_ h E=>E Y h)
def JD(I:b2):cQ:=(λy h E=>I y h λf Sr=>∃j,f=.int j/\E (Z j) Sr)
section
variable{e:aK}{a:a_}{TF:b2}{Sp Sq:Option a_}{t q:cQ}{SD Tz:cn}
def NM:oc e Y Rg:=by
 intro G m y h E i c;rw[AX];exact a7 ⟨Y,h,i,.none,c⟩
def Mm(c:bE e a TF):oc e (Z a) (JD TF):=by
 intro G m y h E i b;rw[evalPart_some];refine bP (c G m y h _ i b) λJ n d=>?_;let⟨f,@Sr,g,k,l⟩:=d;let⟨@j,rfl,o⟩:=l;let⟨@I,rfl⟩:=k;exact⟨Z j,Sr,g,.int j I,o⟩
def qJ(e:aK)(u:aj->Option Int->Option Int->ax->cu->Prop):Prop:=(
 ∀(G:List (af×aW)) (m:av) (y:aS) (h:ax) (f:aj) (v bY k:ae) (Sp Sq:Option Int) (aH:af) (E:cu),aG e G y h m->cb f v->m.heap.IsSliceOf aH bY k .none->j6 bY Sp->j6 k Sq->u f Sp Sq h E->
  ∃F id,uj (.type F) "__getitem__" = pure (Z<|.builtin id)/\m.TypeIs v F/\wpAny (aQ e.prog e.w) e.A (mU v<|.ref aH) (ew e G y E) e.cj m)
def Q9(u:aj->Option Int->Option Int->ax->cu->Prop)(TF:b2)(t q:cQ):b2:=(λy h E=>TF y h λf Sr=>t y Sr λH SK=>q y SK λJ a=>u f H J a E)
def RK{u:aj->Option Int->Option Int->ax->cu->Prop}(n:qJ e u)(p:bE e a TF)(r:oc e Sp t)(s:oc e Sq q):bE e (.Subscript a (.Slice Sp Sq Y Tz) SD) (Q9 u TF t q):=by
 intro G m y h E i c;refine Subscript_ (bP (p G m y h _ i c) λv x g=>?_);let⟨f,@Sr,z,B,C⟩:=g;refine wpAny_Slice (bP (r G x y Sr _ z C) λbY D ⟨H,SK,I,bI,L⟩=>bP (s G D y SK _ I L) λk d g=>?_);let⟨J,@j,M,N,P⟩:=g;rw[AX];refine a7 ?_;have Q:aG e G y j {d with heap:=d.heap.push {cls:=.type "slice",data:=.fields #[bY,k,.none]} }:=M.kept (S4:=d.toks) λb bN o=>cw _ o;let⟨F,@id,R,S,T⟩:=n G {d with heap:=d.heap.push {cls:=.type "slice",data:=.fields #[bY,k,.none]} } y j f v bY k H J d.heap.objs.size E Q B (a0.IsSliceOf.new ..) bI N P;show wpAny (aQ e.prog e.w) e.A (EC a (.Slice Sp Sq Y Tz) v<|.ref d.heap.objs.size) (ew e G y E) e.cj {d with heap:=d.heap.push {cls:=.type "slice",data:=.fields #[bY,k,.none]} };exact tail_any (ops:=[.ref d.heap.objs.size,v]) S R T (by with_unfolding_all rfl)
def mj(w:List aj)(Sp Sq:Option Int):List aj:=((w.drop<|cI.b_ w.length 0 Sp).take (cI.b_ w.length w.length Sq-cI.b_ w.length 0 Sp))
def CL(w:List aj)(Sp Sq:Option Int):(mj w Sp Sq).length<=w.length:=by
 unfold mj;rw[oO,kf];lia
def RF(Q:Φ):aj->Option Int->Option Int->ax->cu->Prop:=(λf Sp Sq h E=>∃d w,f=.ref d/\ck Q h d w/\
 ¬ (cI.b_ w.length 0 Sp=0/\cI.b_ w.length w.length Sq=w.length)/\∀r,h r=Y->E (.ref r) (upd h r<|.tup<|mj w Sp Sq))
def Hx:qJ e (RF e.K):=by
 intro G m y h f v bY k Sp Sq aH E i l p bI q c;let⟨d,@w,rfl,r,s,o⟩:=c;cases l;let⟨@Sw,u,g,j⟩:=i.tuple r;have a:Sw.toArray.size=w.length:=by rw[cJ];exact u.length.symm
 refine⟨"tuple",_,oD.lookup,g.typeIs,?_⟩;refine cI.ME g p bI q (by rw[a];exact s) ?_ (by rw[a];exact j);rw[a];refine⟨.ref m.heap.objs.size,_,i.laid (S4:=m.toks) (n:=.tup (mj w Sp Sq)) (λb bN o=>cw _ o) (bq _) ?_,rfl,o _<|i.aR.fresh<|bq _⟩;exact⟨ee (CL w Sp Sq) j,_,(u.drop<|cI.b_ w.length 0 Sp).take<|cI.b_ w.length w.length Sq-cI.b_ w.length 0 Sp,l8.new _ _⟩
def OK(Q:Φ):b0:=(λf A h E=>∃d b w SE,f=.ref d/\A=.ref b/\ck Q h d w/\ck Q h b SE/\w≠[]/\w.length+SE.length<=sizeLine/\
 (SE=[]->E (.ref d) h)/\(SE≠[]->∀r,h r=Y->E (.ref r) (upd h r<|.tup<|w++SE)))
def bR.uc{w:List aj}(u:bR w SP):SP=[]↔w=[]:=by
 cases u with
 |nil=>simp
 |cons _ _=>simp
def Ih:dZ e (fU .Add) (OK e.K):=by
 intro G m y h f A v J E i p q c;let⟨d,b,w,@SE,rfl,rfl,r,s,t,k,u,x⟩:=c;cases p;cases q;let⟨@Sw,j,z,X⟩:=i.tuple r;let⟨@B,g,Tz,X⟩:=i.tuple s;refine cI.OD z Tz (λa=>t<|j.uc.mp a) (λa=>⟨.ref d,h,i,rfl,u<|g.uc.mp a⟩) (λa=>?_) (by rw[<-j.length,<-g.length];exact k);refine⟨.ref m.heap.objs.size,_,i.laid (S4:=m.toks) (n:=.tup (w++SE)) (λb bN o=>cw _ o) (bq _) ?_,rfl,x (λl=>a<|g.uc.mpr l) _<|i.aR.fresh<|bq _⟩;exact⟨by rw[dj];exact k,_,j.append g,l8.new _ _⟩
end
def jG(s:Nat)(j:Int):Option Nat:=(if 0<=j then (if j<s then Z j.toNat else Y) else if -(s:Int)<=j then Z (j+s).toNat else Y)
def dx{S0:Type}(w:List S0)(j:Int):Option S0:=((jG w.length j).bind λB=>w[B]?)
def zX{B:Nat}(c:jG s j=Z B):vU j s=Z B/\B<s /\ -(s:Int)<=j/\j<s:=by
 unfold jG at c;by_cases b:0<=j
 ·rw[aN b]at c;by_cases t:j<s
  ·rw[aN t]at c;have a:j.toNat=B:=Option.some.inj c;exact⟨by rw[sZ b t,a],⋯,⋯,t⟩
  ·rw[aT t]at c;cases c
 ·rw[aT b]at c;by_cases t : -(s:Int)<=j
  ·rw[aN t]at c;have a:(j+s).toNat=B:=Option.some.inj c;exact⟨by rw[yL ⋯ t,a],⋯,t,⋯⟩
  ·rw[aT t]at c;cases c
def AK{w:List S0}{v:S0}(c:dx w j=Z v):∃B,vU j w.length=Z B/\w[B]?=Z v/\B<w.length /\ -(w.length:Int)<=j/\j<w.length:=by
 unfold dx at c;cases a:jG w.length j with
 |none=>rw[a]at c;cases c
 |some B=>
  rw[a]at c;let@⟨t,D,b,d⟩:=zX a;exact⟨B,t,c,D,b,d⟩
def u3(b:a_):Prop:=(∀n j,subscripted b aq n j=operate [n,j] (mU n j))
def iF(e:aK)(u:b0):Prop:=(
 ∀(F a:a_) (G:List (af×aW)) (m:av) (y:aS) (h:ax) (f A:aj) (v J:ae) (E:cu),aG e G y h m->cb f v->cb A J->u f A h E->
  subscripted a aq v J=operate [v,J] (mU v J)->wpAny (aQ e.prog e.w) e.A (EC F a v J) (ew e G y E) e.cj m)
def xO(e:aK)(id:String)(u:aj->List aj->ax->cu->Prop):Prop:=(
 ∀(G:List (af×aW)) (m:av) (y:aS) (h:ax) (f:aj) (w:List aj) (v:ae) (SP:List ae) (E:cu),aG e G y h m->cb f v->bR w SP->u f w h E->
  wpAny (aQ e.prog e.w) e.A (call (.builtin id) (v::SP)) (ew e G y E) e.cj m)
section
variable{e:aK}{d b:a_}{Ti TB:b2}{SD:cn}
def iF.or{Tg:b0}(c:iF e u)(T:iF e Tg):iF e (λf A h E=>u f A h E\/Tg f A h E):=by
 intro F a G m y h f A v J E i b d o g;rcases o with o|o
 ·exact c F a G m y h f A v J E i b d o g
 ·exact T F a G m y h f A v J E i b d o g
def MV(a:iF e u)(g:bE e d Ti)(j:bE e b TB)(k:u3 b):bE e (.Subscript d b SD) (vi u Ti TB):=by
 intro G m y h E i c;exact Subscript_ (yS g j i c λv J l f A SK n p q o=>a d b G l y SK f A v J E n p q o<|k _ _)
def NC(Q:Φ):b0:=(λf A h E=>∃r w j v,f=.ref r/\A=.int j/\c2 Q h r w/\dx w j=Z v/\E v h)
def Js(Q:Φ):b0:=(λf A h E=>∃r w j v,f=.ref r/\A=.int j/\ck Q h r w/\dx w j=Z v/\E v h)
def P1:iF e (NC e.K):=by
 intro F L G m y h f A v J E i k n c b;let⟨r,w,j,@p,rfl,rfl,q,s,o⟩:=c;cases k;let⟨@I,rfl⟩:=n;let⟨@Sw,u,bI,M⟩:=i.list q;let⟨@B,t,D,N,x,z⟩:=AK s;let⟨@l,d,C⟩:=u.get D;have H:=u.length;have O:=nx;have fin:ew e G y E l m:=⟨p,h,i,C,o⟩;by_cases g:0<=j
 ·have a:j.toNat=B:=by
   rw[sZ g z]at t;exact Option.some.inj t
  exact item_listR bI.isList g ⋯ (by rw[a];simpa using d) fin b
 ·have a:(j+(Sw.toArray.size:Int)).toNat=B:=by
   rw[yL ⋯ x]at t;rw[cJ,<-H];exact Option.some.inj t
  exact Cu (x:=l) bI.isList.typeIs zP.lookup
   (wpAny_getItem_list_neg (Q:=λu Ss=>u=l/\ew e G y E u Ss) bI.isList ⋯ (by rw[cJ]<;>lia) ⋯ (by rw[a];simpa using d) ⟨rfl,fin⟩) b
def MP:iF e (Js e.K):=by
 intro F x G m y h f A v J E i a b c d;let⟨r,w,j,@g,rfl,rfl,k,n,o⟩:=c;cases a;let⟨@I,rfl⟩:=b;let⟨@Sw,u,bI,z⟩:=i.tuple k;let⟨@B,t,D,C,H,L⟩:=AK n;let⟨@l,p,q⟩:=u.get D;have s:=u.length;have M:=nx;have fin:ew e G y E l m:=⟨g,h,i,q,o⟩;exact Cu (x:=l) bI.typeIs slot_tuple_getitem.lookup
  (getItem_tuple (j:=B) (Q:=λu Ss=>u=l/\ew e G y E u Ss) bI ⋯ ⋯ (by rw[cJ,<-s];exact t) ⇑p ⟨rfl,fin⟩) d
def Kw(Sw:List ae)(s B:Nat)(J:ae):aW.mapSeq (·.setIfInBounds B J) {cls:=.type "list",data:=.seq Sw.toArray s}={cls:=.type "list",data:=.seq (Sw.set B J).toArray s}:=by
 simp[aW.mapSeq]
variable{w:List aj}
def aG.lst(i:aG e G y h m)(c:h r=Z (.lst w)):
  ∃(Sw:List ae) (s:Nat),bR w Sw/\m.heap.get? r=Z {cls:=.type "list",data:=.seq Sw.toArray s}/\w.length<=sizeLine:=by
 let@⟨b,⟨Sw,@s,u,a⟩⟩:=i.aR r _ c;exact⟨Sw,s,u,a,b⟩
def aG.Pj{SE:List aj}{d:Nat}{x:aW->aW}(i:aG e G y h m)(c:h r=Z (.lst w))(j:m.heap.get? r=Z {cls:=.type "list",data:=.seq Sw.toArray s})(g:x {cls:=.type "list",data:=.seq Sw.toArray s}={cls:=.type "list",data:=.seq TL.toArray d})(u:bR SE TL)(k:SE.length<=sizeLine)(I:Nat):
  aG e G y (upd h r<|.lst SE) {m with heap:=m.heap.update r x,toks:=I}:=by
 have a:(m.heap.update r x).get? r=Z {cls:=.type "list",data:=.seq TL.toArray d}:=by
  rw[rm x j (by rw[g]<;>rfl),g]
 refine i.write (f:=r) (a:=r) (by rw[c];trivial) (.inl rfl) (λb J l o=>(kl _ _<|fD l).trans o) ⟨_,a⟩ ?_;exact⟨k,TL,d,u,a⟩
def Ry:aj->aj->aj->ax->(ax->Prop)->Prop:=(λn j v h E=>∃r w q B,n=.ref r/\j=.int q/\h r=Z (.lst w)/\jG w.length q=Z B/\E (upd h r<|.lst<|w.set B v))
def Ku:yn e Ry:=by
 intro G m y h n j v H L J E i x z A c;let⟨r,w,q,@B,rfl,rfl,f,C,o⟩:=c;cases x;let⟨@I,rfl⟩:=z;let⟨Sw,@s,u,a,F⟩:=i.lst f;let@⟨t,D,g,k⟩:=zX C;have b:=u.length;have M:=nx;have l:aG e G y (upd h r<|.lst<|w.set B v) {m with heap:=m.heap.update r (aW.mapSeq (·.setIfInBounds B J))}:=
  i.Pj f a (Kw Sw s B J) (u.set A B) (by rw[wm];exact F) m.toks;by_cases p:0<=q
 ·have d:q.toNat=B:=by
   rw[sZ p k]at t;exact Option.some.inj t
  exact PySem.W.ki_setAt a p ⋯ (by rw[cJ,<-b];exact k) (by rw[d];exact⟨_,l,o⟩)
 ·have d:(q+(Sw.toArray.size:Int)).toNat=B:=by
   rw[yL ⋯ g]at t;rw[cJ,<-b];exact Option.some.inj t
  exact PySem.W.ki_setBack a ⋯ (by rw[cJ,<-b];exact g) ⋯ (by rw[d];exact⟨_,l,o⟩)
def OA(Sp Sq:Option Int)(s:Nat):(n0 Sp Sq Y s).1=((cI.b_ s 0 Sp:Nat):Int)/\(n0 Sp Sq Y s).2.1=((cI.b_ s s Sq:Nat):Int)/\(n0 Sp Sq Y s).2.2=1:=by
 refine⟨?_,?_,rfl⟩
 ·cases Sp with
  |none=>simp[n0,cI.b_]
  |some j=>
   simp only[n0,cI.b_,Ex,show (1:Int)>0 by decide,je];by_cases c:j<0
   ·simp only[c,je]<;>lia
   ·simp only[c,ig]<;>lia
 ·cases Sq with
  |none=>simp[n0,cI.b_]
  |some j=>
   simp only[n0,cI.b_,Ex,show (1:Int)>0 by decide,je];by_cases c:j<0
   ·simp only[c,je]<;>lia
   ·simp only[c,ig]<;>lia
def Qu(Sw:List ae)(Sp Sq:Option Int):slicePick Sw.toArray Sp Sq Y=((Sw.drop<|cI.b_ Sw.length 0 Sp).take<|cI.b_ Sw.length Sw.length Sq-cI.b_ Sw.length 0 Sp).toArray:=by
 let@⟨t,D,a⟩:=OA Sp Sq Sw.toArray.size;unfold slicePick;rw[t,D,a];simp only[sliceRange_one,pick_run,cJ]<;>rfl
def OR(Q:Φ):aj->Option Int->Option Int->ax->cu->Prop:=(λf Sp Sq h E=>∃d w,f=.ref d/\c2 Q h d w/\∀r,h r=Y->E (.ref r) (upd h r<|.lst<|mj w Sp Sq))
def C2:qJ e (OR e.K):=by
 intro G m y h f v bY k Sp Sq aH E i g j bI l c;let⟨d,@w,rfl,p,o⟩:=c;cases g;let⟨@Sw,u,a,q⟩:=i.list p;have r:=u.length;refine⟨"list",_,zP.lookup,a.isList.typeIs,?_⟩;refine wpAny_getItem_list_slice a.isList j bI l .none ↥0 ?_ (by rw[cJ]<;>lia);rw[Qu,<-r];refine⟨.ref m.heap.objs.size,_,i.laid (S4:=m.toks) (n:=.lst (mj w Sp Sq)) (λb bN o=>cw _ o) (bq _) ?_,rfl,o _<|i.aR.fresh<|bq _⟩;exact⟨ee (CL w Sp Sq) q,_,0,(u.drop<|cI.b_ w.length 0 Sp).take<|cI.b_ w.length w.length Sq-cI.b_ w.length 0 Sp,dH _ rfl⟩
def L9:ey e (.builtin "len") (λw h E=>∃r SE,w=[.ref r]/\(c2 e.K h r SE\/ck e.K h r SE)/\E (.int SE.length) h):=by
 intro G m y h w SP E i u c;let⟨r,@SE,rfl,a,o⟩:=c;let⟨@J,rfl,d⟩:=iv u;cases d;have g:=nx;rcases a with a|a
 ·let⟨@Sw,Tg,bI,f⟩:=i.list a;have b:=Tg.length;exact Calls.call_len_list bI.isList (by simp only[cJ]<;>lia) ⟨.int SE.length,h,i.tok _,⟨m.toks+1,by rw[cJ,b]⟩,o⟩
 ·let⟨@Sw,Tg,bI,f⟩:=i.tuple a;have b:=Tg.length;exact len_tuple bI (by simp only[cJ]<;>lia) ⟨.int SE.length,h,i.tok _,⟨m.toks+1,by rw[cJ,b]⟩,o⟩
def Oi:ey e (.builtin "len") (λw h E=>∃a,w=[.str a]/\a.length<=sizeLine/\E (.int a.length) h):=by
 intro G m y h w SP E i u c;let⟨@a,rfl,b,o⟩:=c;let⟨@J,rfl,⟨@I,rfl⟩⟩:=iv u;have d:=nx;exact len_str ⋯ ⟨.int a.length,h,i.tok _,⟨_,rfl⟩,o⟩
def ey.or{x:ae}{u Tg:List aj->ax->cu->Prop}(c:ey e x u)(T:ey e x Tg):ey e x (λw h E=>u w h E\/Tg w h E):=by
 intro G m y h w SP E i rs o;rcases o with o|o
 ·exact c G m y h w SP E i rs o
 ·exact T G m y h w SP E i rs o
def QJ:ey e (.type "list") (λw h E=>∃r SE,w=[.ref r]/\(c2 e.K h r SE\/ck e.K h r SE)/\∀H,h H=Y->E (.ref H) (upd h H<|.lst SE)):=by
 intro G m y h w SP E i u c;let⟨r,@SE,rfl,f,o⟩:=c;let⟨@J,rfl,p⟩:=iv u;cases p;have fin:∀(Sw:List ae),bR SE Sw->SE.length<=sizeLine->∀(T:a0) (d:Nat),(∀b Th,m.heap.get? b=Z Th->T.get? b=Z Th)->
   T.get? m.heap.objs.size=Z {cls:=.type "list",dict:=Y,data:=.seq Sw.toArray d,slots:=#[]}->ew e G y E (.ref m.heap.objs.size) {m with heap:=T}:=λSw Tg g T d dz a=>
  ⟨.ref m.heap.objs.size,_,i.laid (S4:=m.toks) dz (bq _)<|show eC e.prog e.w _ T _ (.lst SE) from ⟨g,Sw,d,Tg,a⟩,rfl,o _<|i.aR.fresh<|bq _⟩;rcases f with f|f
 ·let⟨@Sw,Tg,bI,g⟩:=i.list f;have q:=Tg.length;let⟨@n,j,k,⟨@s,hd⟩⟩:=bI.isList;exact Gk r (.inl rfl) j k hd (λT d dz a=>fin Sw Tg g T d dz a) (by simp only[cJ]<;>lia)
 ·let⟨@Sw,Tg,bI,g⟩:=i.tuple f;have q:=Tg.length;let⟨@n,j,k,⟨@s,hd⟩⟩:=bI;exact Gk r (.inr rfl) j k hd (λT d dz a=>fin Sw Tg g T d dz a) (by simp only[cJ]<;>lia)
def ND:ey e (.type "tuple") (λw h E=>∃r SE,w=[.ref r]/\((c2 e.K h r SE/\∀H,h H=Y->E (.ref H) (upd h H<|.tup SE))\/(ck e.K h r SE/\E (.ref r) h))):=by
 intro G m y h w SP E i u c;let⟨r,@SE,rfl,c⟩:=c;let⟨@J,rfl,j⟩:=iv u;cases j;rcases c with ⟨d,o⟩|⟨d,o⟩
 ·let⟨@Sw,Tg,bI,f⟩:=i.list d;have p:=Tg.length;refine call_tuple_list bI.isList (λT dz=>?_) (by simp only[cJ]<;>lia);have g:aG e G y h {m with heap:=T}:=i.kept (S4:=m.toks) dz;have k:aG e G y (upd h T.objs.size<|.tup SE) {m with heap:=T.push {cls:=.type "tuple",data:=.seq Sw.toArray} }:=
   g.laid (S4:=m.toks) (λb n a=>cw _ a) (bq _) (show eC e.prog e.w _ _ _ (.tup SE) from ⟨f,Sw,Tg,l8.new _ _⟩);exact⟨.ref T.objs.size,_,k,rfl,o _<|g.aR.fresh<|bq _⟩
 ·let⟨@Sw,Tg,bI,f⟩:=i.tuple d;exact call_tuple_same bI ⟨.ref r,h,i,rfl,o⟩
def mz(Q:Φ)(F:String)(f:aj)(h:ax):Prop:=(match f with
 |.str _=>F = "str"
 |.int _=>F = "int"
 |.ref r=>(F = "list" /\ ∃w,c2 Q h r w)\/(F = "tuple" /\ ∃n,Q.lookup r=Z n/\n.cls=.type "tuple" /\ n.dict=Y)\/
   (F = "dict" /\ ((∃Sx,h r=Z (.dC Sx))\/∃Sx,h r=Z (.aF Sx)))\/(F = "set" /\ ∃SF s,h r=Z (.set SF s))
 |_=>False)
def Eo{F:String}{f:aj}{v:ae}(i:aG e G y h m)(u:cb f v)(ty:mz e.K F f h):
  m.TypeIs v F/\∀d,v=.ref d->∃bN,m.heap.get? d=Z bN/\bN.dict=Y:=by
 cases f with
 |str c=>
  let⟨@I,rfl⟩:=u;cases (show F = "str" from ty);exact⟨w7 m c I,λ_ a=>nomatch a⟩
 |int j=>
  let⟨@I,rfl⟩:=u;cases (show F = "int" from ty);exact⟨typeIs_int m j I,λ_ a=>nomatch a⟩
 |ref r=>
  cases u;rcases ty with ⟨rfl,w,l⟩|⟨rfl,n,b,o,hd⟩|⟨rfl,b⟩|⟨rfl,SF,s,b⟩
  ·let⟨@Sw,X,bI,X⟩:=i.list l;refine⟨bI.isList.typeIs,λd a=>?_⟩;cases a;let⟨n,@s,a,g,hd,X⟩:=bI;exact⟨n,a,hd⟩
  ·refine⟨⟨n,i.jl r n b,o⟩,λd a=>?_⟩;cases a;exact⟨n,i.jl _ n b,hd⟩
  ·have c:∃n,m.heap.get? r=Z n/\n.ExactDict:=by
    rcases b with ⟨Sx,b⟩|⟨Sx,b⟩
    ·let@⟨_,_,⟨@_,_,⟨n,_,@_,a,S_,_⟩⟩⟩:=i.aR r _ b;exact⟨n,a,S_⟩
    ·let@⟨_,_,⟨@_,_,⟨n,_,@_,a,S_,_⟩⟩⟩:=i.aR r _ b;exact⟨n,a,S_⟩
   let⟨@n,a,S_⟩:=c;refine⟨⟨n,a,S_.1⟩,λd k=>?_⟩;cases k;exact⟨n,a,S_.2.1⟩
  ·let⟨n,X,X,@X,a,S_,X⟩:=i.aR r _ b;refine⟨⟨n,a,S_.1⟩,λd k=>?_⟩;cases k;exact⟨n,a,S_.2.1⟩
 |_=>exact False.elim ty
def Qj(Q:Φ)(F:String)(u:aj->List aj->ax->cu->Prop)(k:b2):b2:=(λy h E=>k y h λf Sr=>mz Q F f Sr/\u f [] Sr E)
def Ri(Q:Φ)(F:String)(u:aj->List aj->ax->cu->Prop)(k:b2)(I:e_):b2:=(λy h E=>k y h λf Sr=>mz Q F f Sr/\I y Sr λw SK=>u f w SK E)
variable{n a:a_}{Sl:List a_}{k:b2}{I:e_}{name:aC}{H TM:cn}{F id:String}{u:aj->List aj->ax->cu->Prop}
def Lr(iJ:r7 F)(d:Slot F name id)(g:kY (.builtin id)=pure (.type "method_descriptor"))(j:xO e id u)(l:bE e n k)(o:se n name e.env (b1 n e.env)=b1 n e.env:=by rfl)(p:(H.endLine==TM.line)=V:=by rfl):bE e (.Call (.Attribute n name H) [] [] TM) (Qj e.K F u k):=by
 intro G m y h E i c;refine wpAny_Call_method0_late o p (bP (l G m y h _ i c) λv q r=>?_);let⟨f,@Sr,a,b,ty,s⟩:=r;let@⟨t,D⟩:=Eo a b ty;exact⟨F,id,iJ,d,g,t,D,Er rfl<|PySem.evalArgs_none<|j G q y Sr f [] v [] E a b .nil s⟩
def J9(iJ:r7 F)(l:Slot F name id)(o:kY (.builtin id)=pure (.type "method_descriptor"))(p:xO e id u)(q:bE e n k)(r:g7 e (a::Sl) I)(s:se n name e.env (b1 n e.env)=b1 n e.env:=by rfl)(w:((e8 TM<|bw (a::Sl) e.env).all (λf=>!f.1)&&(backToKw TM<|keywordEach [] e.env).all (λf=>f.1.isSome)
   && decide ((a::Sl).length+([]:List rz).length+(if ([]:List rz).isEmpty then 0 else 1)<30))=V:=by rfl)(x:(H.endLine==TM.line)=V:=by rfl)(z:bw (a::Sl) e.env=(aq,b1 a e.env)::bw Sl e.env:=by rfl)(A:(e8 TM<|bw Sl e.env).any (·.1)=aq:=by rfl):
  bE e (.Call (.Attribute n name H) (a::Sl) [] TM) (Ri e.K F u k I):=by
 intro G m y h E i c;refine wpAny_Call_method_late s w x rfl (bP (q G m y h _ i c) λv B b=>?_);let⟨f,@Sr,d,g,ty,C⟩:=b;let@⟨t,D⟩:=Eo d g ty;refine⟨F,id,iJ,l,o,t,D,?_⟩;have j:=r TM G B y Sr _ d C;rw[z]at j ⊢;refine Er (by show (aq || (e8 TM<|bw Sl e.env).any (·.1))=aq;rw[A]<;>rfl) (Fj ?_);refine bP j λSP J b=>?_;let⟨R,@SK,L,M,N⟩:=b;exact p G J y SK f R v SP E L g M N
end
def yR(e:aK)(id:String)(u:aj->List aj->ax->cu->Prop):Prop:=(
 ∀(G:List (af×aW)) (m:av) (y:aS) (h:ax) (f:aj) (w:List aj) (v:ae) (SP:List ae) (E:cu),aG e G y h m->cb f v->bR w SP->u f w h E->
  wpAny (aQ e.prog e.w) e.A (call (.builtin id) (v::SP)) (ew e G y E) e.cj m)
theorem bR.one:∀{f:aj}{SP:List ae},bR [f] SP->∃J,SP=[J]/\cb f J
 |_,_,.cons u .nil=>⟨_,rfl,u⟩
theorem bR.zero:∀{SP:List ae},bR [] SP->SP=[]
 |_,.nil=>rfl
def bR.dropLast{w:List aj}(c:bR w SP):bR w.dropLast SP.dropLast:=by
 induction c with
 |nil=>exact .nil
 |cons u I a=>
  cases I with
  |nil=>exact .nil
  |cons o S4=>exact .cons u a
theorem bR.eraseIdx:∀{w:List aj}{SP:List ae} (j:Nat),bR w SP->bR (w.eraseIdx j) (SP.eraseIdx j)
 |_,_,_,.nil=>.nil
 |_,_,0,.cons _ I=>I
 |_,_,j+1,.cons u I=>.cons u (bR.eraseIdx j I)
def HG(H:List S0):H.eraseIdx (H.length-1)=H.dropLast:=by
 induction H with
 |nil=>rfl
 |cons d u c=>
  cases u with
  |nil=>rfl
  |cons b u=>
   have a:(d::b::u).length-1=((b::u).length-1)+1:=by
    have t:(d::b::u).length=u.length+2:=rfl;have D:(b::u).length=u.length+1:=rfl;lia
   rw[a,List.eraseIdx_cons_succ,c];all_goals rfl
theorem E1{S0:Type}:∀(H:List S0) (j:Nat),(H.eraseIdx j).length<=H.length
 |[],_=>bq _
 |_::_,0=>DI _
 |_::u,j+1=>Cs (E1 u j)
section
variable{e:aK}{G:List (af×aW)}{y:aS}{h:ax}{m:av}{H b:af}{w SE TP:List aj}
def aG.s9{x:Array ae->Array ae}(i:aG e G y h m)(b:h H=Z (.lst w))(a:m.heap.get? H=Z {cls:=.type "list",data:=.seq Sw.toArray s})(c:x Sw.toArray=TL.toArray)(d:bR SE TL)(g:SE.length<=sizeLine):
  aG e G y (upd h H<|.lst SE) {m with heap:=m.heap.update H (aW.mapSeq x),toks:=S4}:=by
 have o:=E2 a x;rw[c]at o;refine i.write (f:=H) (a:=H) (by rw[b];exact trivial) (.inl rfl) (λl J j k=>(kl m.heap (aW.mapSeq x)<|fD j).trans k) ⟨_,o⟩ ?_;exact⟨g,TL,_,d,o⟩
def aG.Jq(i:aG e G y h m)(a:bR SE Sw)(b:SE.length<=sizeLine):
  aG e G y (upd h m.heap.objs.size<|.lst SE) {m with heap:=m.heap.push {cls:=.type "list",data:=.seq Sw.toArray},toks:=S4}:=
 i.laid (λ_ X o=>cw _ o) (bq _) ⟨b,Sw,0,a,dH _ rfl⟩
def aG.fresh(i:aG e G y h m):h m.heap.objs.size=Y:=i.aR.fresh (bq _)
def aG.hp(i:aG e G y h m)(b:h H=Z (.lst w)):w.length<=sizeLine/\∃(Sw:List ae) (s:Nat),bR w Sw/\w.length=Sw.length/\m.heap.get? H=Z {cls:=.type "list",data:=.seq Sw.toArray s}:=by
 let@⟨c,⟨Sw,@s,u,a⟩⟩:=i.aR H _ b;exact⟨c,Sw,s,u,u.length,a⟩
def L0(c:s<=sizeLine):bk.List.listTooLong s=aq:=by
 unfold bk.List.listTooLong;exact cN ⋯
end
section
variable{e:aK}
def Jm:aj->List aj->ax->cu->Prop:=(λf R h E=>∃H w A,f=.ref H/\R=[A]/\h H=Z (.lst w)/\w.length<sizeLine/\E .aV (upd h H<|.lst<|w++[A]))
def HA:yR e "list.append" Jm:=by
 intro G m y h f R v SP E i d g c;let⟨H,w,@A,rfl,rfl,b,k,o⟩:=c;cases d;let⟨@J,rfl,j⟩:=g.one;let@⟨z,⟨Sw,@s,u,l,a⟩⟩:=i.hp b;refine pE Eh ⟨_,a,rfl⟩ Gb (BB _ _) (A4 H Sw.toArray s J (by rw[cJ];lia)) ⟨a,?_⟩;refine⟨.aV,_,i.s9 (TL:=Sw++[J]) b a ↥0 (u.append<|.cons j .nil) ?_,rfl,o⟩;rw[dj,fi];lia
def Hg:aj->List aj->ax->cu->Prop:=(λf R h E=>∃H w A,f=.ref H/\R=[]/\h H=Z (.lst w)/\w[w.length-1]?=Z A/\E A (upd h H<|.lst w.dropLast))
def Hk:yR e "list.pop" Hg:=by
 intro G m y h f R v SP E i d g c;let⟨H,w,@A,rfl,rfl,b,j,o⟩:=c;cases d;have k:=g.zero;subst k;let@⟨z,⟨Sw,@s,u,l,a⟩⟩:=i.hp b;let⟨@J,n,p⟩:=u.get j;have q:Sw.toArray[Sw.toArray.size-1]?=Z J:=by
  show Sw.toArray[Sw.length-1]?=Z J;rw[<-hr,<-l];exact n
 refine pE Dg ⟨_,a,rfl⟩ Fl (F.args_list_pop_1 _) (MeetsSeq.list_pop_last H Sw.toArray s J q (by rw[cJ];lia)) ⟨a,?_⟩;refine⟨A,_,i.s9 (TL:=Sw.dropLast) b a ?_ u.dropLast ?_,p,o⟩
 ·show Sw.toArray.eraseIdxIfInBounds (Sw.toArray.size-1)=Sw.dropLast.toArray;rw[cJ,AJ,HG]
 ·rw[zJ];lia
def LU:aj->List aj->ax->cu->Prop:=(λf R h E=>∃H w j q A,f=.ref H/\R=[.int j]/\h H=Z (.lst w) /\ -(2^63)<=j/\j<2^63/\vU j w.length=Z q/\w[q]?=Z A/\E A (upd h H<|.lst<|w.eraseIdx q))
def GX:yR e "list.pop" LU:=by
 intro G m y h f R v SP E i d g c;let⟨H,w,j,q,@A,rfl,rfl,b,t,D,k,n,o⟩:=c;cases d;let⟨@J,rfl,p⟩:=g.one;let⟨@I,rfl⟩:=p;let@⟨z,⟨Sw,@s,u,r,a⟩⟩:=i.hp b;let⟨@l,x,B⟩:=u.get n;refine pE Dg ⟨_,a,rfl⟩ Fl (F.args_list_pop_2 _ _)
  (MeetsSeq.list_pop_at H Sw.toArray s j I q l (fitsIndex_both t D) (by rw[cJ,<-r];exact k) (by rw[<-hr];exact x) (by rw[cJ];lia)) ⟨a,?_⟩;refine⟨A,_,i.s9 (TL:=Sw.eraseIdx q) b a ?_ (u.eraseIdx q) ?_,B,o⟩
 ·show Sw.toArray.eraseIdxIfInBounds q=(Sw.eraseIdx q).toArray;rw[AJ]
 ·have:=E1 w q;lia
def H_:b0:=(λf A h E=>∃H b w TP,f=.ref H/\A=.ref b/\h H=Z (.lst w)/\h b=Z (.lst TP)/\w.length+TP.length<=sizeLine/\∀r,h r=Y->E (.ref r) (upd h r<|.lst<|w++TP))
def PH:dZ e (fU .Add) H_:=by
 intro G m y h f A v J E i g j c;let⟨H,b,w,@TP,rfl,rfl,k,l,r,o⟩:=c;cases g;cases j;let@⟨z,⟨Sw,@s,u,t,a⟩⟩:=i.hp k;let@⟨x,⟨d,@B,n,C,p⟩⟩:=i.hp l;refine PySem.P.add_list a p ?_ (by rw[cJ,cJ];lia);have q:Sw.toArray++d.toArray=(Sw++d).toArray:=by simp
 rw[q];exact⟨.ref _,_,i.Jq (S4:=m.toks) (u.append n) (by rw[dj];lia),rfl,o _ i.fresh⟩
end
section
variable{SV:Type}[DecidableEq SV]
def hR(Sx:List (SV×aj))(q:SV):Option aj:=((Sx.find? λa=>decide (a.1=q)).map (·.2))
def hj(Sx:List (SV×aj))(q:SV)(v:aj):List (SV×aj):=(
 if (Sx.any λa=>decide (a.1=q))=V then Sx.map (λa=>if a.1=q then (a.1,v) else a) else Sx++[(q,v)])
def sU{r:SV×aj}{u:List (SV×aj)}{q:SV}(a:r.1=q):hR (r::u) q=Z r.2:=by simp[hR,jV,a]
def uS{r:SV×aj}{u:List (SV×aj)}{q:SV}(a:¬ r.1=q):hR (r::u) q=hR u q:=by simp[hR,jV,a]
theorem CK(q:SV):∀Sx:List (SV×aj),(Sx.any λb=>decide (b.1=q))=(hR Sx q).isSome
 |[]=>rfl
 |r::u=>by
  rw[mC];by_cases a:r.1=q
  ·simp only[sU a,cW a,Bool.true_or,Option.isSome_some]
  ·rw[uS a,cN a,Bool.false_or];exact CK q u
def Ci(Sx:List (SV×aj))(q:SV)(v:aj):(hj Sx q v).length<=Sx.length+1:=by
 unfold hj;split
 ·rw[bu];lia
 ·rw[dj,dA,ju];lia
def ks.rI{J:Option ae}(u:ks n J):n.isSome=J.isSome:=by
 cases n with
 |none=>cases J with
  |none=>rfl
  |some _=>exact (show False from u).elim
 |some _=>cases J with
  |none=>exact (show False from u).elim
  |some _=>rfl
def fH.val{Sx:List (SV×aj)}{R:List (SV×ae)}(u:fH Sx R)(q:SV):ks (hR Sx q) (nM R q):=by
 unfold fH at u;induction u with
 |nil=>exact True.intro
 |@cons r o SA d c I f=>
  let@⟨t,D⟩:=c;by_cases a:r.1=q
  ·have e:o.1=q:=t.symm.trans a;have b:nM (o::d) q=Z o.2:=by simp[nM,jV,e]
   rw[sU a,b];exact D
  ·have e:¬ o.1=q:=λg=>a (t.trans g);have b:nM (o::d) q=nM d q:=by simp[nM,jV,e]
   rw[uS a,b];exact f
def fH.any{Sx:List (SV×aj)}{R:List (SV×ae)}(u:fH Sx R)(q:SV):(Sx.any λa=>decide (a.1=q))=R.any λa=>decide (a.1=q):=by
 unfold fH at u;induction u with
 |nil=>rfl
 |cons c I b=>rw[mC,mC,b,c.1]
def fH.yA{Sx:List (SV×aj)}{R:List (SV×ae)}(u:fH Sx R)(q:SV){A:aj}{J:ae}(d:cb A J):
  fH (Sx.map λb=>if b.1=q then (b.1,A) else b) (R.map λb=>if b.1=q then (b.1,J) else b):=by
 unfold fH at u ⊢;induction u with
 |nil=>exact .nil
 |@cons r o SA g c I e=>
  rw[dK,dK];refine .cons ?_ e;let@⟨t,D⟩:=c;by_cases a:r.1=q
  ·rw[aN a,aN<|t.symm.trans a];exact⟨t,d⟩
  ·rw[aT a,aT<|λf=>a<|t.trans f];exact⟨t,D⟩
def fH.put{Sx:List (SV×aj)}{R:List (SV×ae)}(u:fH Sx R)(q:SV){A:aj}{J:ae}(b:cb A J):fH (hj Sx q A) (stored R q J):=by
 unfold hj stored;rw[u.any q];by_cases a:(R.any λc=>decide (c.1=q))=V
 ·rw[aN a,aN a];exact u.yA q b
 ·rw[aT a,aT a];exact d9.snoc u ⟨rfl,b⟩
def fH.length{Sx:List (SV×aj)}{R:List (SV×ae)}(u:fH Sx R):Sx.length=R.length:=d9.length u
end
def sv{q:ej}{J:ae}(u:cb (b3 q) J):(mr S l).is q J=V:=by
 cases q with
 |inl j=>let⟨@I,a⟩:=(show ∃I,J=ae.int j I from u);subst a;exact Mp S l j I
 |inr f=>let⟨@I,a⟩:=(show ∃I,J=ae.str f I from u);subst a;exact QZ S l f I
abbrev fP(h:ax):List (List ab×aj)->List (List ab×af×ae)->Prop:=d9 λr o=>r.1=o.1/\hF h r.1 o.2.1/\cb r.2 o.2.2
def fP.val(u:fP h Sx w)(q:List ab):ks (hR Sx q) ((lC w q).map (·.2)):=by
 induction u with
 |nil=>exact True.intro
 |@cons r o SA d c I f=>
  let@⟨t,_,D⟩:=c;by_cases a:r.1=q
  ·have e:o.1=q:=t.symm.trans a;have b:lC (o::d) q=Z o.2:=by simp[lC,jV,e]
   rw[sU a,b];exact D
  ·have e:¬ o.1=q:=λg=>a (t.trans g);have b:lC (o::d) q=lC d q:=by simp[lC,jV,e]
   rw[uS a,b];exact f
def fP.yA(u:fP h Sx w)(q:List ab){A:aj}{J:ae}(d:cb A J):
  fP h (Sx.map λb=>if b.1=q then (b.1,A) else b) (w.map<|putAt q J):=by
 induction u with
 |nil=>exact .nil
 |@cons r o SA i c I e=>
  rw[dK,dK];refine .cons ?_ e;let@⟨t,D,f⟩:=c;unfold putAt;by_cases a:r.1=q
  ·rw[aN a,aN<|t.symm.trans a];exact⟨t,D,d⟩
  ·rw[aT a,aT<|λg=>a<|t.trans g];exact⟨t,D,f⟩
def fP.put(u:fP h Sx w)(q:List ab){b:af}{A:aj}{J:ae}(d:hF h q b)(c:cb A J):
  fP h (hj Sx q A) (storedH w q b J):=by
 have a:(Sx.any λe=>decide (e.1=q))=(lC w q).isSome:=by
  rw[CK,(u.val q).rI,r4]
 unfold hj storedH;rw[a];by_cases o:(lC w q).isSome=V
 ·rw[aN o,aN o];exact u.yA q c
 ·rw[aT o,aT o];exact d9.snoc u ⟨rfl,d,c⟩
def fP.keeps(u:fP h Sx w)(c:∀b SE,h b=Z (.tup SE)->P b=Z (.tup SE)):fP P Sx w:=
 d9.sD u λ_ X a=>⟨a.1,a.2.1.mono c,a.2.2⟩
section
variable{S:bl}{l:a8}{h:ax}{c:a0}{d:af}
def Dx{J:ff}(ok:dw S l h c)(a:i9 h d J):eC S l h c d J:=a.ok ok
def pf{Sx:List (ej×aj)}(ok:dw S l h c)(a:i9 h d (.dC Sx)):Sx.length<=sizeLine/\(d==iB)=aq/\∃R,fH Sx R/\c.DictOf (mr S l) d R:=
 show eC S l h c d (.dC Sx) from Dx ok a
def Nk{Sx:List (ej×aj)}(ok:dw S l h c)(a:h d=Z (.dC Sx)):Sx.length<=sizeLine/\(d==iB)=aq/\∃R,fH Sx R/\c.DictOf (mr S l) d R:=pf ok (.inl a)
mutual
theorem cD.fa(ok:dw S l h c):∀{p:ab}{v:aj}{J:ae},cD h p v->cb v J->dk c p J
 |.aV,_,_,a,u=>by cases (show _=aj.aV from a);exact u
 |.au b,_,_,a,u=>by cases (show _=aj.au b from a);exact u
 |.int j,_,_,a,u=>by cases (show _=aj.int j from a);exact u
 |.str f,_,_,a,u=>by cases (show _=aj.str f from a);exact u
 |.fn d,_,_,a,u=>by cases (show _=aj.ref d from a);exact u
 |.tup C,_,_,a,u=>by
  let⟨d,@w,rfl,t,D⟩:=a;cases u;let@⟨_,⟨@Sw,e,⟨@n,g,i,⟨@s,k⟩⟩⟩⟩:=(show eC S l h c d (.tup w) from ok d _ t);exact⟨d,n,Sw.toArray,s,rfl,g,(Prod.mk.inj i).1,k,by simpa using bF.fa ok D e⟩
 |.aO C,_,_,a,u=>by
  let⟨d,w,@n,rfl,t,D⟩:=a;cases u;exact⟨d,rfl⟩
 |.fd M,_,_,a,u=>by
  let⟨d,n,@B,rfl,t,D⟩:=a;cases u;exact⟨d,rfl⟩
theorem bF.fa(ok:dw S l h c):∀{C:List ab}{R:List aj}{SP:List ae},bF h C R->bR R SP->d2 c C SP
 |[],_,_,a,u=>by cases (show _=[] from a);cases u;rfl
 |p::C,_,_,a,u=>by
  let⟨v,@I,rfl,t,D⟩:=a;cases u with
  |cons b d=>exact⟨_,_,rfl,cD.fa ok t b,bF.fa ok D d⟩
end
def mn{SH:List ab}(ok:dw S l h c)(a:hF h SH d):(h6 S l).is c SH d:=⟨a.1,a.2.fa ok rfl⟩
def qb{S:bl}{l:a8}{O:bp}(c:O.units+20<b7):(h6 S l).room O.in1:=show O.units+1+10<b7 by lia
def oy(ok:dw S l h c)(a:i9 h d (.aF Sx)):Sx.length<=sizeLine/\(d==iB)=aq/\
  ∃w,fP h Sx w/\c.DictOfH (h6 S l) d w:=by
 let@⟨g,A,⟨@w,u,⟨n,Sl,@U,t,D,i,j,k⟩⟩⟩:=(show eC S l h c d (.aF Sx) from Dx ok a);refine⟨g,A,w,u,n,Sl,U,t,D,i,j,λf b=>?_,k⟩;have all:∀{H:List (List ab×aj)}{M:List (List ab×af×ae)},fP h H M->∀f∈M,(h6 S l).is c f.1 f.2.1:=by
  intro H M o;induction o with
  |nil=>intro f b;exact nomatch b
  |@cons r o SA p e I m=>
   intro f b;rcases bL.mp b with a|b
   ·subst a;exact mn ok (by rw[<-e.1];exact e.2.1)
   ·exact m f b
 exact all u f b
def DS(ok:dw S l h c)(a:h d=Z (.aF Sx)):Sx.length<=sizeLine/\(d==iB)=aq/\
  ∃w,fP h Sx w/\c.DictOfH (h6 S l) d w:=oy ok (.inl a)
end
def gp(h:ax)(d:af)(A:aj)(u:Option aj):Prop:=(
 (∃Sx q,i9 h d (.dC Sx)/\A=b3 q/\u=hR Sx q)\/∃Sx q b,i9 h d (.aF Sx)/\A=.ref b/\hF h q b/\u=hR Sx q)
def nH(h:ax)(d:af)(A v:aj)(P:ax):Prop:=(
 (∃Sx q,h d=Z (.dC Sx)/\A=b3 q/\Sx.length<sizeLine/\P=upd h d (.dC<|hj Sx q v))\/
 ∃Sx q b,h d=Z (.aF Sx)/\A=.ref b/\hF h q b/\Sx.length<sizeLine/\P=upd h d (.aF<|hj Sx q v))
def gp.k{h:ax}{d:af}{Sx:List (ej×aj)}{q:ej}(a:h d=Z (.dC Sx)):gp h d (b3 q) (hR Sx q):=.inl ⟨Sx,q,.inl a,rfl,rfl⟩
def gp.t{h:ax}{d b:af}{Sx:List (List ab×aj)}{q:List ab}(a:h d=Z (.aF Sx))(c:hF h q b):gp h d (.ref b) (hR Sx q):=.inr ⟨Sx,q,b,.inl a,rfl,c,rfl⟩
def nH.k{h:ax}{d:af}{Sx:List (ej×aj)}{q:ej}{v:aj}(a:h d=Z (.dC Sx))(b:Sx.length<sizeLine):nH h d (b3 q) v (upd h d<|.dC<|hj Sx q v):=.inl ⟨Sx,q,a,rfl,b,rfl⟩
def nH.t{h:ax}{d b:af}{Sx:List (List ab×aj)}{q:List ab}{v:aj}(a:h d=Z (.aF Sx))(c:hF h q b)(e:Sx.length<sizeLine):
  nH h d (.ref b) v (upd h d<|.aF<|hj Sx q v):=.inr ⟨Sx,q,b,a,rfl,c,e,rfl⟩
section
variable{e:aK}{G:List (af×aW)}{y:aS}{h:ax}{m:av}{d:af}{A v:aj}{J u:ae}{n:Option aj}{O:bp}{Sn:ae->av->Prop}
def aG.big(i:aG e G y h m):iB<m.heap.objs.size:=by
 have c:cT<m.heap.objs.size:=(i.mod.glob.keeps i.eu).lt;exact Ag ∅ c
def ID(t:O.units+20<b7)(i:aG e G y h m)(N:gp h d A (Z v))(s:cb A J)(c:∀f Ss,aG e G y h Ss->cb v f->E f Ss):
  wpAny (aQ e.prog e.w) O (mU (.ref d) J) E Sn m:=by
 rcases N with ⟨Sx,q,a,g,H⟩|⟨Sx,q,b,a,g,u,H⟩
 ·subst g;let@⟨z,hd,⟨@R,j,k⟩⟩:=pf i.aR a;let⟨@f,o,p⟩:=ks.some_of (v:=v) (n:=nM R q) (by rw[H];exact j.val q);exact wpAny_getItem_of (sv s) k.mapOf o (c f _ (i.tok _) p)
 ·subst g;cases (show J=ae.ref b from s);let@⟨z,hd,⟨@w,j,k⟩⟩:=oy i.aR a;let⟨@f,o,p⟩:=ks.some_of (v:=v) (n:=(lC w q).map (·.2)) (by rw[H];exact j.val q);let⟨@r,x,B⟩:=cC.mp o;refine wpAny_getItem_heap (qb t) (mn i.aR u) k x ?_;rw[B];exact c f _ (i.tok _) p
def xe(p:O.units+20<b7)(i:aG e G y h m)(N:gp h d A n)(k:cb A J)(c:∀Ss,aG e G y h Ss->E (.bool n.isSome) Ss):
  wpAny (aQ e.prog e.w) O (d6 .In J<|.ref d) E Sn m:=by
 rcases N with ⟨Sx,q,a,f,H⟩|⟨Sx,q,b,a,f,r,H⟩
 ·subst f;let@⟨z,hd,⟨@R,g,j⟩⟩:=pf i.aR a;refine wpAny_in_of (sv k) hd j.mapOf ?_;rw[<-(g.val q).rI,<-H];exact c _ (i.tok _)
 ·subst f;cases (show J=ae.ref b from k);let@⟨z,hd,⟨@w,g,j⟩⟩:=oy i.aR a;refine wpAny_in_heap (qb p) (mn i.aR r) hd j ?_;have o:=(g.val q).rI;rw[r4]at o;rw[<-o,<-H];exact c _ (i.tok _)
def vI(p:O.units+20<b7)(i:aG e G y h m)(N:gp h d A n)(k:cb A J)(c:∀Ss,aG e G y h Ss->E (.bool<|!n.isSome) Ss):
  wpAny (aQ e.prog e.w) O (d6 .NotIn J<|.ref d) E Sn m:=by
 rcases N with ⟨Sx,q,a,f,H⟩|⟨Sx,q,b,a,f,r,H⟩
 ·subst f;let@⟨z,hd,⟨@R,g,j⟩⟩:=pf i.aR a;refine wpAny_notIn_of (sv k) hd j.mapOf ?_;rw[<-(g.val q).rI,<-H];exact c _ (i.tok _)
 ·subst f;cases (show J=ae.ref b from k);let@⟨z,hd,⟨@w,g,j⟩⟩:=oy i.aR a;refine wpAny_notIn_heap (qb p) (mn i.aR r) hd j ?_;have o:=(g.val q).rI;rw[r4]at o;rw[<-o,<-H];exact c _ (i.tok _)
def xX{bN:ff}(i:aG e G y h m)(c:q3 (h d))(g:a0.SameBut d m.heap T)(j:∃o,T.get? d=Z o)(new:eC e.prog e.w (upd h d bN) T d bN):
  aG e G y (upd h d bN) {m with heap:=T,toks:=S4}:=
 i.write (f:=d) (a:=d) c (.inl rfl) (λb o k n=>(g.2 b k).trans n) j new
def O5{Sx:List (ej×aj)}{R:List (ej×ae)}(a:Sx.length<=sizeLine)(hd:(d==iB)=aq)(b:fH Sx R)(c:T.DictOf (mr S l) d R):
  eC S l P T d (.dC Sx):=⟨a,hd,R,b,c⟩
def C9{E:Unit->av->Prop}(L:O.units+20<b7)(i:aG e G y h m)(N:nH h d A v P)(B:cb A J)(C:cb v u)(c:∀Ss,aG e G y P Ss->E () Ss):
  wpAny (aQ e.prog e.w) O (tu (.ref d) J u) E Sn m:=by
 rcases N with ⟨Sx,q,a,p,H,r⟩|⟨Sx,q,b,a,p,F,H,r⟩
 ·subst p r;let@⟨f,hd,⟨@R,j,s⟩⟩:=Nk i.aR a;have t:R.length<=sizeLine:=by rw[<-j.length];exact f
  have x:(hj Sx q v).length<=sizeLine:=by have:=Ci Sx q v;lia
  refine wpAny_setItem_pairs (hsz:=t) (sv B) s λT k z=>c _ ?_;have Q:∃o,T.get? d=Z o:=let ⟨o,_,_,n,_⟩:=k;⟨o,n⟩
  exact xX i (by rw[a];exact True.intro) z Q (O5 x hd (j.put q C) k)
 ·subst p r;cases (show J=ae.ref b from B);let@⟨f,hd,⟨@w,j,s⟩⟩:=DS i.aR a;have t:w.length<=sizeLine:=by rw[<-d9.length j];exact f
  have x:(hj Sx q v).length<=sizeLine:=by have:=Ci Sx q v;lia
  refine wpAny_setItem_heap (hsz:=t) (qb L) (mn i.aR F) s λT k z=>c _ ?_;let⟨o,Sl,@U,n,D,S,al,X,am⟩:=k;refine xX i (by rw[a];exact True.intro) z ⟨o,n⟩ ⟨x,hd,_,(j.put q F C).keeps λg SE I=>?_,o,Sl,U,n,D,S,al,am⟩;rw[cP (zR I a<|λf=>nomatch f)];exact I
end
section
variable{e:aK}{G:List (af×aW)}{y:aS}{h:ax}{m:av}{d:af}{Sx:List (ej×aj)}{q:ej}{J:ae}{O:bp}{Sn:ae->av->Prop}
def Pb(i:aG e G y h m)(a:i9 h d (.dC Sx))(c:∀I Ss,aG e G y h Ss->E (.int Sx.length I) Ss):wpAny (aQ e.prog e.w) O (call (.builtin "len") [.ref d]) E Sn m:=by
 let@⟨z,hd,⟨@R,b,f⟩⟩:=pf i.aR a;refine call_len_dict hd f (by rw[<-b.length];rw[th]at z;lia) ?_;rw[<-b.length];exact c _ _ (i.tok _)
end
def Hi{e:aK}{d:af}{A:aj}(i:aG e G y h m)(N:gp h d A n):m.TypeIs (.ref d) "dict" := by
 rcases N with ⟨Sx,q,a,_,_⟩|⟨Sx,q,b,a,_,_,_⟩
 ·let@⟨_,_,⟨@R,_,c⟩⟩:=pf i.aR a;exact c.typeIs
 ·let@⟨_,_,⟨@w,_,c⟩⟩:=oy i.aR a;exact c.typeIs
def GA(c:a0)(a:iB<c.objs.size):eC S l h (c.push {cls:=.type "dict",data:=.dict #[]}) c.objs.size (.aF []):=
 ⟨hi _,xH.mpr<|fD<|dJ a,[],.nil,_,#[],0,dH _ rfl,⟨rfl,rfl,rfl⟩,rfl,rfl,jX⟩
def Hz:b2:=(λ_ h E=>∀r,h r=Y->E (.ref r) (upd h r<|.aF []))
section
variable{e:aK}{SD:cn}
def MW:bE e (.Dict [] [] SD) Hz:=λG m y h E i c=>
 wpAny_Dict_empty ⟨.ref m.heap.objs.size,_,i.laid (d:=m.heap.objs.size) (n:=.aF []) (S4:=m.toks) (λ_ X o=>cw _ o) (bq _)<|GA m.heap i.big,rfl,c _<|i.aR.fresh<|bq _⟩
end
end L2
namespace BR
open PySem.W PySem.Calls PyProof.Rows
variable{s:Nat}{H:OpenLaw}
def Mr{S:sT}{c:a0}:∀(SN:List Int) (R:List ae),WellAll S c R (SN.map qF.int)->qv R SN:=by
 intro SN;induction SN with
 |nil=>
  intro R l;rw[List.map_nil]at l;cases l;exact .nil
 |cons s SN a=>
  intro R l;rw[dK]at l;cases l with
  |cons d b=>
   cases d;exact .cons _ _ (a _ b)
def G0(h:H.most=Z s){S:sT}{c:a0}{args:List qF}{e:List ae}(f:H.row.toRowW.claim.pre args=V)(i:WellAll S c e args):
  ∃d R SN,e=[ae.ref d]/\args=[qF.list (SN.map qF.int)]/\c.get? d=Z {cls:=.type "list",data:=.seq R.toArray}/\qv R SN/\SN.length<=s:=by
 have j:rq.hasAll [] args [.list .int]=V:=(pre_splitW f).1;have g:H.pre.holds [] {args:=args}=V:=(pre_splitW f).2;let⟨p,@u,rfl,t,D⟩:=hasAllW_cons j;obtain rfl:=hasAllW_nil D;let⟨@w,rfl,k⟩:=hasW_list t;let⟨@SN,rfl⟩:=items_int k;have l:SN.length<=s:=by
  unfold OpenLaw.pre at g;have a:(WTm.not<|.lt (.lit<|.int (s:Int))<|.len<|.arg 0).holds [] {args:=[.list (SN.map .int)]}=V:=by
   have a:=(holds_andW g).1;rw[h]at a;exact a
  have b:=condW_of a (w_not<|w_lt w_lit<|w_len_list<|w_arg rfl);rw[bu]at b;refine Nat.le_of_not_lt λo=>?_;have m:(s:Int)<((SN.length:Nat):Int):=⋯
  first
   | (rw[cW m]at b;exact absurd b ∅)
   | (simp at b;lia)
 cases i with
 |cons n q=>
  cases q;cases n with
  |list r v=>exact⟨_,_,SN,rfl,rfl,r,Mr SN _ v,l⟩
def Q_(H:OpenLaw)(args:List qF):H.row.toRowW.claim.post args (.bool V) args=V:=
 postW_of (r:=H.row.toRowW) (X:=(V==V))
  (show rq.has [] (.bool V) .bool=V by first|rfl|decide|simp[rq.has,rq.arms,rq.armsAll])
  (show (WTm.eq .res<|.lit<|.bool V).value [] {args:=args,res:=Z (.bool V),after:=args}=Z (.bool<|V==V) from w_eq_bool (w_res rfl) w_lit) rfl
def QV{o:bl}{c:List aC}{e:(aC->Option ae)->a0->Prop}{f:a8->a0->Prop}{p:DefRec}(h:H.most=Z s)(i:p.params.defaults=[])(call:∀(l:a8) (eh a:av) (aw b:aC->Option ae) (eD:af) (n:aW) (Tb TO k:ae) (d:af) (R:List ae) (SN:List Int),
   Ground o c [] e l eh aw b a.heap->f l a.heap->
   a.heap.get? eD=Z n->n.data=.func (docDef p.name p.params p.body p.scope Tb TO k)->a.heap.CodeRec TO p.name->aw p.name=Z (.ref eD)->
   a.heap.get? d=Z {cls:=.type "list",data:=.seq R.toArray}->qv R SN->SN.length<=s->a.gens=#[]->
   codeAny (aQ H.prog l) nq (.call (.ref eD) ⟨[.ref d],[]⟩) (λu Ss=>u=.ok (.ret<|.bool V)/\OldK a.heap Ss.heap/\Ss.os=a.os/\ke Ss.gens) a):
  WalkO o c e f H.row.toRowW p [] (λx R=>PySem.call x R):=by
 intro l eh a aw b U j eD n Tb TO k m b3 q hd r g t v args I J w L M y N;obtain rfl:m=.none:=Dflts.none g i;obtain rfl:b3=.none:=Dflts.noKw g;let⟨d,R,@SN,rfl,rfl,z,A,B⟩:=G0 h w y;refine enter_call (vt (call l eh a aw b eD n Tb TO k d R SN U j q (fd_plain hd) r t z A B v) λu Ss C=>?_);let@⟨rfl,D,E,F⟩:=C;exact⟨.inl ⟨.bool V,.bool V,[],rfl,λ_=>rfl,.bool V,Q_ H _,λ_=>⟨List.Pairwise.nil,λ_ G=>(nomatch G)⟩⟩,D,E,F⟩
end BR
namespace L2
open Spec PyProof.Rows
variable{SA:List aC}{x b:af}{z:bQ}{Tu f:aC}{fd:f3}{q:Nat}{J:ff}{c:a0}{h:ax}{l:a8}{S:bl}{n:aW}
theorem B7:∀{R:List ae}{SN:List Int},qv R SN->bR (SN.map aj.int) R
 |_,_,.nil=>.nil
 |_,_,.cons s I c=>.cons ⟨I,rfl⟩ (B7 c)
def qA(h:ax):Prop:=(∀b,h b=Y\/(∃n w,h b=Z (.dq n<|.lst w))\/∃w,h b=Z (.tup w))
def Iq{w:List aj}(g:qP n=Z w):∃j I B J s,(n.cls,n.dict)=(.type "tuple",Y)/\n.data=.seq [.int j I,.int B J].toArray s/\w=[.int j,.int B]:=by
 unfold qP at g;split at g
 ·rename_i Sw s t D b;unfold By at g;split at g
  ·rename_i j I B J a;cases g;exact⟨j,I,B,J,s,x3 t D,b.trans (by rw[<-a,v_]),rfl⟩
  ·cases g
 ·cases g
def BX(a:c.get? b=Z n)(g:kc n=Z J):∃w,J=.tup w/\eC S l h c b J:=by
 unfold kc at g;cases p:qP n with
 |none=>rw[p]at g;cases g
 |some w=>
  rw[p]at g;cases g;let⟨j,I,B,v,s,t,D,rfl⟩:=Iq p;exact⟨_,rfl,ee (show 2<=2 from bq 2) ∅,[.int j I,.int B v],.cons ⟨I,rfl⟩<|.cons ⟨v,rfl⟩ .nil,n,a,t,s,D⟩
def ij(c:a0)(h:ax):ax:=(λb=>match h b with
 |some J=>Z J
 |none=>match c.get? b with
  |some n=>kc n
  |none=>Y)
def Jt(s:h b=Y)(a:c.get? b=Z n):ij c h b=kc n:=by
 unfold ij;rw[s];dsimp only;rw[a]
def OV(s:h b=Z J):ij c h b=Z J:=by
 unfold ij;rw[s]
def A8(s:ij c h b=Z J):h b=Z J\/∃n,c.get? b=Z n/\kc n=Z J:=by
 unfold ij at s;cases o:h b with
 |some v=>rw[o]at s;cases s;exact .inl rfl
 |none=>
  rw[o]at s;dsimp only at s;cases a:c.get? b with
  |none=>rw[a]at s;cases s
  |some n=>rw[a]at s;exact .inr ⟨n,rfl,s⟩
def QF{Q:Φ}{aw y:aC->Option ae}{TK:jn}{eD d:af}{TC:cF}{e:av}{R:List ae}{SN:List Int}(C:Q.In e.heap)(E:e.heap.Ns cT aw)(j:e.heap.Ns tO y)(am:∀f:aC,f ≠ "__name__" -> y f=eB f)(an:e.heap.NoLimit)(ap:e.gens=#[])(r:e.heap.get? d=Z {cls:=.type "list",data:=.seq R.toArray})(Sq:qv R SN)(F:SN.length<=sizeLine)(as:d_ q nq)(L:∀Sz:a0,Q.In Sz->Sz.Ns cT aw->gG S l Q aw Sz TK q eD fd [f] TC)(a1:∀(m:av) (J:ae),l_ m fd ⟨[J],[]⟩ [(f,J)])(a2:∀h:ax,qA h->c2 Q h d (SN.map aj.int)->TC [.ref d] h (λv X=>v=.au V) λ_ X X=>False)(bd:∀h a Ss,TK [] h e (λ_ X X=>False) a Ss->False):
  codeAny (aQ S l) nq (.call (.ref eD) ⟨[.ref d],[]⟩) (λu Ss=>u=.ok (.ret<|.bool V)/\OldK e.heap Ss.heap/\Ss.os=e.os/\ke Ss.gens) e:=by
 have G:=B7 Sq;have be:=Sq.length;have H:∀i:ax,qA i->c2 Q (ij e.heap i) d (SN.map aj.int)->(∀h b J,i b=Z J->eC S l h e.heap b J)->(∀b,i b≠Y->b=d)->(i d≠Y->Q.lookup d=Y)->
   codeAny (aQ S l) nq (.call (.ref eD) ⟨[.ref d],[]⟩) (λu Ss=>u=.ok (.ret<|.bool V)/\OldK e.heap Ss.heap/\Ss.os=e.os/\ke Ss.gens) e:=by
  intro i bi bm bn I bs;have N:∀{b:af}{n:aW},e.heap.get? b=Z n->i b=Y->(lD e.heap i).get? b=Z n:=λa s=>GU a s;have aR:dw S l (ij e.heap i) e.heap:=λb J o=>by
   rcases A8 o with o|⟨n,a,g⟩
   ·exact bn _ b J o
   ·exact (BX a g).choose_spec.2
  have O:qA (ij e.heap i):=λb=>by
   cases o:ij e.heap i b with
   |none=>exact .inl rfl
   |some J=>
    rcases A8 o with o|⟨n,a,g⟩
    ·rcases bi b with z|z
     ·rw[z]at o;cases o
     ·rw[<-o];exact .inr z
    ·let⟨w,rfl,X⟩:=BX (S:=S) (l:=l) (h:=i) a g;exact .inr (.inr ⟨w,rfl⟩)
  have bv:∀{b:af}{n:aW}{Sl:Array DictEntry}{U:Nat},e.heap.get? b=Z n->n.data=.dict Sl U->i b=Y:=λ{b n Sl U} a p=>by
   cases o:i b with
   |none=>rfl
   |some J=>
    have A:b=d:=I b (by rw[o];simp);subst A;rw[r]at a;cases a;have ca:m8.seq R.toArray _=m8.dict Sl U:=p;cases ca
  have x:∀{b:af}{M:aC->Option ae},e.heap.Ns b M->(lD e.heap i).Ns b M:=λ{b M} ⟨n,Sl,U,a,p,u⟩=>⟨n,Sl,U,N a<|bv a p,p,u⟩;have T:Q.In (lD e.heap i):=λb n a=>N (C b n a) (by
   cases o:i b with
   |none=>rfl
   |some J=>
    have A:b=d:=I b (by rw[o];simp);subst A;rw[bs (by rw[o];simp)]at a;cases a)
  have cd:Mod Q aw (lD e.heap i):=⟨T,x E,⟨y,x j,am⟩,let ⟨ce,t,D⟩:=an;⟨ce,x t,D⟩⟩;have ch:sO S l Q aw (lD e.heap i) nq [] e (ij e.heap i):=⟨rfl,cd,λb n a=>⟨(vJ a).1,Jt (vJ a).2 (vJ a).1⟩,Nat.le_of_eq<|Ll _ _,trivial,λb j=>absurd (show b∈([]:List af) from j) ↥0,aR,.of_eq ap⟩;refine vt ((L _ T<|x E).run nq [] e (ij e.heap i) ⟨[.ref d],[]⟩ [.ref d] [.ref d] _ _ as ch (a1 e<|.ref d) (.cons rfl .nil)<|a2 (ij e.heap i) O bm) λu Ss c=>?_;cases u with
  |error a=>exact (bd (ij e.heap i) a Ss c).elim
  |ok aO=>
   cases aO with
   |next=>exact False.elim c
   |brk=>exact False.elim c
   |cont=>exact False.elim c
   |ret J=>
    let⟨v,P,Sy,ci,un,cl,Tg,o⟩:=c;have co:v=.au V:=o;subst co;obtain rfl:J=ae.bool V:=Tg;refine⟨rfl,OldK.of_keep λb n a=>?_,Sy,ci⟩;rcases O b with o|⟨bN,w,z⟩|⟨w,z⟩
    ·exact un.keep b n a o (by intro z;exact absurd (show b∈([]:List af) from z) ↥0) ↥0
    ·have cr:=un.g0 b bN _ z;let⟨al,X⟩:=aR b _ z;let⟨cs,X⟩:=cl b _ cr;rw[a]at al;cases al;exact cs
    ·exact un.g9 b n w a z ↥0
 cases B:Q.lookup d with
 |some n=>
  have a:=C d n B;rw[r]at a;cases a;refine H (λ_=>Y) (λ_=>.inl rfl) (.inr ⟨_,R.toArray,_,B,rfl,rfl,rfl,by rw[cJ,be];exact F,by simpa using G⟩) (λh b J z=>by have k:(Y:Option ff)=Z J:=z;cases k) (λb z=>absurd rfl z) λz=>absurd rfl z
 |none=>
  refine H (λb=>if b=d then Z (.dq {cls:=.type "list",data:=.seq R.toArray} (.lst<|SN.map aj.int)) else Y) (λb=>?_) (.inl<|.inr ⟨{cls:=.type "list",data:=.seq R.toArray},OV<|aN rfl⟩) (λh b J z=>?_) (λb z=>?_) λ_=>B
  ·by_cases j:b=d
   ·exact .inr (.inl ⟨_,_,aN j⟩)
   ·exact .inl (aT j)
  ·by_cases j:b=d
   ·have k:=(aN j).symm.trans z;cases k;subst j;exact⟨r,by rw[bu];exact F,R,_,G,r⟩
   ·have k:=(aT j).symm.trans z;cases k
  ·by_cases j:b=d
   ·exact j
   ·exact absurd (aT j) z
def RO{H:PySem.W.OpenLaw}{s:Nat}{o:bl}{r:List aC}{t:(aC->Option ae)->a0->Prop}{e:a8->a0->Prop}{p:DefRec}{Q:sT->Φ}{TK:a8->jn}{TC:a8->cF}(u:H.most=Z s)(w:s<=sizeLine)(y:p.params.defaults=[])(z:d_ q nq)(A:∀(l:a8) (c:a0),e l c->(Q l.params).In c)(L:∀(l:a8) (aw:aC->Option ae) (eD:af) (c:a0),(Q l.params).In c->c.Ns cT aw->aw p.name=Z (.ref eD)->
   ∃fd:f3,(∀(m:av) (J:ae),l_ m fd ⟨[J],[]⟩ [(f,J)])/\
    ∀Sz:a0,(Q l.params).In Sz->Sz.Ns cT aw->gG H.prog l (Q l.params) aw Sz (TK l) q eD fd [f] (TC l))(B:∀(l:a8) (h:ax) (d:af) (SN:List Int),SN.length<=s->qA h->c2 (Q l.params) h d (SN.map aj.int)->TC l [.ref d] h (λv X=>v=.au V) λ_ X X=>False)(C:∀(l:a8) (h:ax) (m:av) (a:ae) (Ss:av),TK l [] h m (λ_ X X=>False) a Ss->False):
  PySem.W.WalkO o r t e H.row.toRowW p [] (λx R=>PySem.call x R):=by
 refine BR.QV u y λl eh D aw an eD n Tb TO k d R SN U E ap hd as G I M i O=>?_;have j:=A l _ E;let⟨@fd,P,S⟩:=L l aw eD _ j U.T.g G;exact QF j U.T.g U.T.b U.T.builtins U.T.nolimit O I M (ee i w) z S P (λh al am=>B l h d SN i al am) λh a Ss=>C l h D a Ss
def gZ(m:bQ):Arguments:=(match m with
 |.FunctionDef _ d _ _ _ _ _ _ _ _=>d
 |_=>{posonlyargs:=[],args:=[],vararg:=Y,kwonlyargs:=[],kw_defaults:=[],kwarg:=Y,defaults:=[]})
def fy(m:bQ):List bQ:=(match m with
 |.FunctionDef _ _ b _ _ _ _ _ _ _=>b
 |_=>[])
def c9(m:bQ):gj:=(match m with
 |.FunctionDef _ _ _ _ _ _ i _ _ _=>i
 |_=>{kind:=.function,names:=[],isGenerator:=aq,isCoroutine:=aq})
abbrev hK:jn:=λ_ _ _ _ _ _=>False
abbrev N3:fA:=λ_ _ _=>False
def CA{e:aK}:uX hK e N3:=λ_ X X X X X X c=>c.elim
structure ft(Q:Φ)(f Tu:aC)(z:bQ)(x:af)(fd:f3):Prop where
 ex:∃(TV:ae) (F:Option af) (b3 k Tb:ae) (B:Option af) (S7 bX:ae) (TY:Array (Option ae)),
  fd=Θ f Tu (gZ z) (fy z) (c9 z) .none b3 k Tb B S7 bX/\Q.lookup x=Z ⟨TV,F,.func fd,TY⟩/\Φb Q S7 Tu=V
 dz:Γ Q (.ref x)=V
section
variable{S:bl}{l:a8}{Q:Φ}{aw:aC->Option ae}{Sz:a0}
def ft.ok{SS:List aC}{TC:cF}(L:ft Q f Tu z x fd)(SF:kj SS SA (c9 z))(len:∀R h E Sn,TC R h E Sn->R.length=SA.length)(a:∀(S7:ae) (O:bp) (S2:List dU) (m:av) (h:ax) (R:List aj) (E:cu) (Sn:fA),d_ q (O.deeper<|ib Tu (c9 z) m.heap.objs.size x S7)->TC R h E Sn->
   ∃I,gD (h7 hK S l Q aw Sz SS Tu (c9 z) x S7 O S2 m h Sn).nJ (fy z) I/\I {aX:=λ_ P=>E .aV P,dX:=E} (start SS R) h):gG S l Q aw Sz hK (q+1) x fd SA TC:=by
 let⟨TV,F,b3,k,Tb,B,S7,bX,@TY,rfl,lk,b⟩:=L.ex;refine BY lk b SF len λO S2 m h R E Sn d e=>?_;let⟨@I,c,o⟩:=a S7 O S2 m h R E Sn d e;exact⟨I,c.nJ,o⟩
def ft.binds(L:ft Q f Tu z x fd)(c:∀(b3 k Tb:ae) (B:Option af) (S7 bX:ae) (SP:List ae),SP.length=SA.length->jg (Θ f Tu (gZ z) (fy z) (c9 z) .none b3 k Tb B S7 bX) ⟨SP,[]⟩=pure (SA.zip SP)):gQ Q fd SA []:=by
 let⟨TV,F,b3,k,Tb,B,S7,bX,@TY,rfl,lk,a⟩:=L.ex;exact .all (c b3 k Tb B S7 bX)
def HX{TV:ae}{F B:Option af}{TY:Array (Option ae)}{b3 k Tb S7 bX:ae}(H:Q.lookup x=Z ⟨TV,F,.func<|Θ f Tu (gZ z) (fy z) (c9 z) .none b3 k Tb B S7 bX,TY⟩)(g:Φb Q S7 Tu=V)(q:Γ Q (.ref x)=V):ft Q f Tu z x (Θ f Tu (gZ z) (fy z) (c9 z) .none b3 k Tb B S7 bX):=⟨⟨TV,F,b3,k,Tb,B,S7,bX,TY,rfl,H,g⟩,q⟩
end
section
variable{e:aK}
def c4(j:Nat){f:aC}{SD:cn}(a:e.N[j]?=Z f:=by rfl)(b:t5 e.env.scope f:=by first|exact Or.inl rfl|exact Or.inr (Or.inl rfl)|exact Or.inr (Or.inr rfl))(hd:(f==("__debug__" : aC))=aq:=by decide)(c:(f==("__classdict__" : aC))=aq:=by decide):bE e (.Name f SD) (kR j):=z5 a b hd c
end
def cS(h P:ax):Prop:=(∀b n,h b=Z n->P b=Z n)
def cS.refl(h:ax):cS h h:=λ_ X c=>c
end L2
namespace L2
section
variable{e:aK}
def Ha:ey e (.builtin "len") (λw h E=>∃d Sx,w=[aj.ref d]/\h d=Z (.dC Sx)/\E (.int Sx.length) h):=by
 intro G m y h w SP E i u c;let⟨d,@Sx,rfl,a,o⟩:=c;let⟨@J,rfl,b⟩:=iv u;cases b;exact Pb i (.inl a) λI Ss f=>⟨.int Sx.length,h,f,⟨I,rfl⟩,o⟩
end
end L2
namespace L2
open Spec PyProof.Rows
variable{E:Option ae->av->Prop}{j U TQ:Nat}{c t:a0}{SH:List ae}{p az:af}{e6:c6}{SY TA TN:a_}{R:List (aC×af)}{bb:List af}{h:ax}{y:aS}{G:List (af×aW)}{SX:List Nat}{own:List aC}{Sk:dU}{SD:cn}{SO:gj}{S:List a_}{m:av}{O:bp}
def Ib{Su:bl}{l:a8}{Sm:oH->av->Prop}{b:a_}{it e:ae}(i:Nat->av->Prop)(p:∀s m,i s m->wpAny (aQ Su l) O (hP it) (λu a=>match u with
   |none=>Sm (.ok .next) a
   |some v=>wpAny (aQ Su l) O (rP b it v) (λ_ a=>wpAny (aQ Su l) O (h5 b Sk v) (λ_ j=>
     wpAny (aQ Su l) O (forIn S V λg u=>if u=V then do let ok <-oE g Sk (b1 g Sk);pure (ForInStep.yield ok) else pure (ForInStep.yield u)) (λok h=>
      if ok=V then wpAny (aQ Su l) O (b1 TN Sk) (λf k=>
       wpAny (aQ Su l) O (call (.builtin "list.append") [e,f]) (λ_ n=>∃M,M<s/\i M n) (λ_ X=>False) k) (λ_ X=>False) h
      else ∃M,M<s/\i M h) (λ_ X=>False) j) (λ_ X=>False) a) (λ_ X=>False) a) (λ_ X=>False) m)(s:Nat)(c:i s m):
  codeAny (aQ Su l) O (.compLoop (.ListComp TN [⟨b,TA,S,0⟩] SO SD) 0 it e Sk) Sm m:=by
 refine codeAny_loop rfl i (λs m q=>?_) s c;show wpAny _ O ((compTurn (.ListComp TN [⟨b,TA,S,0⟩] SO SD) 0 it e Sk).onRaise (λf=>do noteFrame f Sk;theTreesLotGoes f)) _ _ m;refine wpAny_noted ?_;rw[compTurn_list];refine aD (u9<|aD<|gW (p s m q) (λu a d=>?_) λ_ X T=>T.elim);cases u with
 |none=>exact a7 d
 |some v=>
  refine aD (gW d (λ_ a d=>?_) λ_ X T=>T.elim);refine aD (gW d (λ_ j r=>aD<|gW r (λok h o=>?_) λ_ X T=>T.elim) λ_ X T=>T.elim);cases ok with
  |false=>exact a7 ⟨rfl,o⟩
  |true=>
   exact aD (aD<|gW o (λf k t=>aD<|gW t (λ_ n w=>a7<|a7 ⟨rfl,w⟩) λ_ X T=>T.elim) λ_ X T=>T.elim)
def kr(Sk:dU)(H:List (aC×cY)):List (aC×af):=(H.foldl (λR A=>if A.2==.free then (A.1,(Sk.cells.lookup A.1).getD 0)::R else R) [])
theorem w6{Sk:dU}:∀(H:List (aC×cY)) (R:List (aC×af)),(∀A∈H,A.2=.free->∃g,Sk.cells.lookup A.1=Z g)->
  (forIn H R λ(A:aC×cY) R=>if A.2==.free then (do let g <-ui Sk A.1;pure (ForInStep.yield ((A.1,g)::R))) else pure (ForInStep.yield R):fx _)=
   pure (H.foldl (λR A=>if A.2==.free then (A.1,(Sk.cells.lookup A.1).getD 0)::R else R) R)
 |[],R,_=>rfl
 |A::u,R,c=>by
  rw[sI,lQ];by_cases b:A.2=.free
  ·let⟨@g,f⟩:=c A lX b;have a:(A.2==cY.free)=V:=by simp[b]
   rw[aN a,aN a];have h:ui Sk A.1=pure g:=by unfold ui;rw[f]
   rw[h,f];show (forIn u ((A.1,g)::R) _:fx _)=_;exact w6 u _ λd e=>c d (kL _ e)
  ·have a:¬ (A.2==cY.free)=V:=by simp[b]
   rw[aT a,aT a];show (forIn u R _:fx _)=_;exact w6 u _ λd e=>c d (kL _ e)
def I2(c:∀A∈SO.names,A.2=.free->∃g,Sk.cells.lookup A.1=Z g):closureFor SO Sk=pure (kr Sk SO.names):=by
 have:=w6 (Sk:=Sk) SO.names [] c;unfold closureFor;dsimp only;have a:(forIn SO.names ([]:List (aC×af))<|λ(f:aC×cY) (u:List (aC×af))=>(if f.2==.free then (do let g <-ui Sk f.1;pure (ForInStep.yield ((f.1,g)::u))) else pure (ForInStep.yield u):fx (ForInStep<|List<|aC×af)))=pure (kr Sk SO.names):=this;rw[a];rfl
theorem zF{Sk:dU}:∀(H:List (aC×cY)) (R:List (aC×af)) (f:aC) (g:af),
  (H.foldl (λR A=>if A.2==.free then (A.1,(Sk.cells.lookup A.1).getD 0)::R else R) R).lookup f=Z g->
  (g=(Sk.cells.lookup f).getD 0/\(f,cY.free)∈H)\/R.lookup f=Z g
 |[],R,f,g,c=>.inr c
 |A::u,R,f,g,c=>by
  rw[lQ]at c;rcases zF u _ f g c with ⟨a,M⟩|c
  ·exact .inl ⟨a,kL _ M⟩
  ·by_cases b:A.2=.free
   ·rw[aN (by simp[b])]at c;rw[gF]at c;by_cases d:f=A.1
    ·subst d;rw[jO]at c;refine .inl ⟨(Option.some.inj c).symm,?_⟩;rw[<-b];exact lX
    ·have:(f==A.1)=aq:=by simpa using d
     rw[this]at c;exact .inr c
   ·rw[aT (by simp[b])]at c;exact .inr c
theorem xf{Sk:dU}:∀(H:List (aC×cY)) (R:List (aC×af)) (f:aC),(f,cY.free)∈H\/(∃g,R.lookup f=Z g)->
  ∃g,(H.foldl (λR A=>if A.2==.free then (A.1,(Sk.cells.lookup A.1).getD 0)::R else R) R).lookup f=Z g
 |[],R,f,c=>by
  rcases c with c|c
  ·cases c
  ·exact c
 |A::u,R,f,c=>by
  rw[lQ];apply xf u _ f;rcases c with c|⟨g,c⟩
  ·rcases bL.mp c with a|c
   ·right;subst a;rw[aN (by rfl),gF,jO];exact⟨_,rfl⟩
   ·exact .inl c
  ·right;by_cases b:(A.2==cY.free)=V
   ·rw[aN b,gF];cases f==A.1
    ·exact⟨g,c⟩
    ·exact⟨_,rfl⟩
   ·rw[aT b];exact⟨g,c⟩
structure jZ where
 az:af
 s:av
 H:ax
 bb:List af
 cs:List (aC×af)
variable{TF:jZ->b2}{TX:jZ->er}{N:jZ->gn}
def aK.fI(e:aK)(b:List aC)(SO:gj)(a:jZ): aK :=(
  {prog:=e.prog,w:=e.w,K:=e.K,aw:=e.aw,base:=e.base,A:=e.A,N:=b,eh:=a.s,mA:=a.H,env:=u7 SO (a.cs ++ kr e.env SO.names) a.az e.env,outer:=e.stack,stack:=e.stack,
    ex:=a.bb,fn:=λf => SO.names.lookup f==Z .cell,calm:=e.calm,e0:=[],cj:=λ_ X => False})
structure sH(TQ:Nat)(H:List (aC×cY))(R:List (aC×af))(c:a0):Prop where
 gq:∀f g,R.lookup f=Z g->TQ<=g/\c.IsCell g Y/\(f,cY.cell)∈H
 inj:∀f A g,R.lookup f=Z g->R.lookup A=Z g->f=A
def RA{aE:ik}{Sn:ae->av->Prop}{u:af}{o:List (aC×af)}{Tu:aC}{E:dU->av->Prop}(c:∀T R,(∀b n,m.heap.get? b=Z n->T.get? b=Z n)->T.Ns m.heap.objs.size (λ_=>Y)->sH (m.heap.objs.size+1) SO.names R T->(∀f,(f,cY.cell)∈SO.names->∃g,R.lookup f=Z g)->
   E (newEnv SO m.heap.objs.size u (R++o) Tu Y .none (Z Sk) tO) {m with heap:=T}):
  wpAny aE O (zY SO u o [] Tu Y .none<|Z Sk) E Sn m:=by
 unfold zY;refine aD (wpAny_alloc ?_);have TQ:(m.heap.push {cls:=.type (if (Z Sk).isSome=V then "dict" else "frame"),data:=.dict #[]}).Ns m.heap.objs.size λ_=>Y:=⟨_,#[],_,dH _ rfl,rfl,by intro j Sq;simp at Sq,λ_=>rfl⟩;refine aD (ri _ (λcR cells Ss=>∃done R T,done++cR=SO.names/\cells=R++o/\Ss={m with heap:=T}/\m.heap.objs.size+1<=T.objs.size/\(∀b n,m.heap.get? b=Z n->T.get? b=Z n)/\T.Ns m.heap.objs.size (λ_=>Y)/\sH (m.heap.objs.size+1) SO.names R T/\∀f,(f,cY.cell)∈done->∃g,R.lookup f=Z g) _ ?_ ?_ _ _ ⟨[],[],_,rfl,rfl,rfl,by rw[lO];exact bq _,λb n a=>cw _ a,TQ,⟨(λf g a=>by simp at a),(λf A g a=>by simp at a)⟩,(λf e=>nomatch e)⟩)
 ·rintro⟨C,l⟩ cR cells Ss ⟨done,R,T,k,rfl,rfl,ko,ext,SN,h,q⟩;by_cases r:l=.cell
  ·subst r;show wpAny aE O (alloc {cls:=.type "cell",data:=.cell Y} >>= λd=>pure<|ForInStep.yield ((C,d)::(R++o))) _ _ _;refine aD (wpAny_alloc<|a7 ?_);have up:∀b n,T.get? b=Z n->(T.push {cls:=.type "cell",data:=.cell Y}).get? b=Z n:=λb n a=>cw _ a;have w:∀g,(∃v,T.IsCell g v)->g≠T.objs.size:=λg ⟨v,n,a,_⟩=>dJ (b9 a);refine⟨done++[(C,.cell)],(C,T.objs.size)::R,_,by rw[b6];exact k,rfl,rfl,by rw[lO];exact AS ko,λb n a=>up b n<|ext b n a,SN.push _,⟨λf g a=>?_,λf A g S_ i=>?_⟩,λf e=>?_⟩
   ·rw[gF]at a;by_cases e:f=C
    ·subst e;rw[jO]at a;cases a;exact⟨ko,⟨_,dH _ rfl,rfl⟩,by rw[<-k];exact c3 _ (.head _)⟩
    ·rw[show (f==C)=aq by simpa using e]at a;let⟨x,⟨n,y,z⟩,B⟩:=h.gq f g a;exact⟨x,⟨n,up g n y,z⟩,B⟩
   ·rw[gF]at S_ i;by_cases e:f=C
    ·by_cases p:A=C
     ·rw[e,p]
     ·rw[e,jO]at S_;rw[show (A==C)=aq by simpa using p]at i;cases S_;exact absurd rfl (w _ ⟨_,(h.gq A _ i).2.1⟩)
    ·rw[show (f==C)=aq by simpa using e]at S_;by_cases p:A=C
     ·rw[p,jO]at i;cases i;exact absurd rfl (w _ ⟨_,(h.gq f _ S_).2.1⟩)
     ·rw[show (A==C)=aq by simpa using p]at i;exact h.inj f A g S_ i
   ·rw[gF];by_cases s:f=C
    ·rw[s,jO];exact⟨_,rfl⟩
    ·rw[show (f==C)=aq by simpa using s];refine q f ((dt.mp e).resolve_right λt=>?_);exact s (Prod.mk.inj<|cO.mp t).1
  ·have a:(l==cY.cell)=aq:=by simpa using r
   show wpAny aE O (if (l==cY.cell)=V then _ else pure (ForInStep.yield<|R++o)) _ _ _;rw[aT (by rw[a];exact d7)];refine a7 ⟨done++[(C,l)],R,T,by rw[b6];exact k,rfl,rfl,ko,ext,SN,h,λf e=>q f<|(dt.mp e).resolve_right λt=>?_⟩;exact r (Prod.mk.inj<|cO.mp t).2.symm
 ·rintro cells Ss ⟨done,R,T,k,rfl,rfl,ko,ext,SN,h,q⟩;rw[cp]at k;subst k;exact aD (a7<|a7<|c T R ext SN h q)
theorem mem_of_lookup:∀{H:List (aC×cY)}{f:aC}{q:cY},H.lookup f=Z q->(f,q)∈H
 |[],_,_,c=>by simp at c
 | (s,b)::u,f,q,c=>by
  rw[gF]at c;by_cases a:f=s
  ·subst a;rw[jO]at c;cases c;exact lX
  ·rw[show (f==s)=aq by simpa using a]at c;exact kL _ (mem_of_lookup c)
theorem yo{Sk:dU}:∀{H:List (aC×cY)}{f:aC}{q:cY},
  (H.map λ(s,q)=>if (q==cY.free&&Sk.scope.kind==.function&&Sk.kindOf s==Z .cell) then (s,cY.cell) else (s,q)).lookup f=Z q->
  (q=.cell\/q=.free)->(f,cY.free)∈H\/H.lookup f=Z .cell
 |[],f,q,c,_=>by simp at c
 | (s,e)::u,f,q,c,b=>by
  rw[dK]at c;dsimp only at c;by_cases h:f=s
  ·subst h;by_cases d:(e==cY.free&&Sk.scope.kind==.function&&Sk.kindOf f==Z .cell)=V
   ·have:e=cY.free:=by
     simp only[cG]at d;exact by simpa using d.1.1
    subst this;exact .inl lX
   ·simp only[d]at c;have a:e=q:=by simpa [gF] using c
    subst a;rcases b with b|b
    ·exact .inr (by rw[gF,jO,b])
    ·rw[b];exact .inl lX
  ·have g:(f==s)=aq:=by simpa using h
   have T:(u.map λ(s,q)=>if (q==cY.free&&Sk.scope.kind==.function&&Sk.kindOf s==Z .cell) then (s,cY.cell) else (s,q)).lookup f=Z q:=by
    by_cases d:(e==cY.free&&Sk.scope.kind==.function&&Sk.kindOf s==Z .cell)=V
    ·rw[aN d,gF,g]at c;exact c
    ·rw[aT d,gF,g]at c;exact c
   rcases yo T b with z|z
   ·exact .inl (kL _ z)
   ·exact .inr (by rw[gF,g];exact z)
section
variable{e:aK}
structure h1(e:aK)(SO:gj)(own:List aC)(SX:List Nat):Prop where
 kind:SO.kind=.function
 Rn:∀A∈SO.names,A.2=.cell->SO.names.lookup A.1=Z .cell
 free:∀A∈SO.names,A.2=.free->e.env.scope.names.lookup A.1=Z .cell
 loc:∀A∈SO.names,A.2=.local->SO.names.lookup A.1=Z .local
 Py:∀j∈SX,∃f,e.N[j]?=Z f/\(f,cY.free)∈SO.names/\SO.names.lookup f=Z .free
def fS(e:aK)(own:List aC)(SX:List Nat):List aC:=(own++SX.map λj=>e.N.getD j "")
def jW(own:List aC)(SX:List Nat)(y:aS):aS:=(own.map (λ_=>Y)++SX.map λj=>y.getD j Y)
def h1.cells(SF:h1 e SO own SX)(ok:e.Ok):∀A∈SO.names,A.2=.free->∃g,e.env.cells.lookup A.1=Z g:=
 λA a b=>ok.has A.1 (.inl<|SF.free A a b)
def h1.sub(SF:h1 e SO own SX)(ok:e.Ok){f:aC}{g:af}(c:(kr e.env SO.names).lookup f=Z g):e.env.cells.lookup f=Z g/\(f,cY.free)∈SO.names:=by
 rcases zF SO.names [] f g c with ⟨a,M⟩|c
 ·let⟨@d,b⟩:=SF.cells ok (f,.free) M rfl;rw[show (List.lookup f e.env.cells)=Z d from b]at a;refine⟨?_,M⟩;rw[a];exact b
 ·simp at c
def h1.two(SF:h1 e SO own SX)(ok:e.Ok){R:List (aC×af)}{f:aC}{g:af}(c:(R++kr e.env SO.names).lookup f=Z g):R.lookup f=Z g\/(R.lookup f=Y/\e.env.cells.lookup f=Z g):=by
 rw[vD]at c;cases o:R.lookup f with
 |some p=>rw[o]at c;exact .inl c
 |none=>rw[o]at c;exact .inr ⟨rfl,(SF.sub ok c).1⟩
def aG.vZ(i:aG e G y h m){f:aC}{g:af}(c:e.env.cells.lookup f=Z g):g<m.heap.objs.size:=by
 let⟨v,n,a,X⟩:=i.cell f g c;exact b9 a
theorem CJ(SF:h1 e SO own SX)(i:aG e G y h m)(v:m.heap.objs.size<=az)(s:∀b∈bb,jK e G h b)(w:∀b∈bb,b<m.heap.objs.size)(k:sH TQ SO.names R t)(u:m.heap.objs.size<=TQ)(x:∀f,(f,cY.cell)∈SO.names->∃g,R.lookup f=Z g):(e.fI (fS e own SX) SO ⟨az,m,h,bb,R⟩).Ok where
 mod:=i.ok.mod
 kind:=SF.kind
 glob:=i.ok.glob
 blt:=i.ok.blt
 above:=v
 inj:=λf A g t D=>by
  rcases SF.two i.ok t with l|⟨_,l⟩<;>rcases SF.two i.ok D with q|⟨_,q⟩
  ·exact k.inj f A g l q
  ·exact absurd (eK (i.vZ q)<|ee u (k.gq f g l).1) (jh _)
  ·exact absurd (eK (i.vZ l)<|ee u (k.gq A g q).1) (jh _)
  ·exact i.ok.inj f A g l q
 has:=λf j=>by
  have M:(f,cY.free)∈SO.names\/SO.names.lookup f=Z .cell:=by
   rcases j with j|j
   ·exact yo j (.inl rfl)
   ·exact yo j (.inr rfl)
  show ∃g,(R++kr e.env SO.names).lookup f=Z g;rw[vD];cases o:R.lookup f with
  |some p=>exact⟨p,rfl⟩
  |none=>
   rcases M with M|M
   ·exact xf SO.names [] f (.inl M)
   ·let⟨g,r⟩:=x f (mem_of_lookup M);rw[o]at r;cases r
 iE:=λf g c B=>by
  have j:SO.names.lookup f=Z .cell:=eq_of_beq c;let⟨C,r⟩:=x f (mem_of_lookup j);rcases SF.two i.ok B with z|⟨z,_⟩
  ·exact ee u (k.gq f g z).1
  ·rw[z]at r;cases r
 hd:=i.ok.hd
 frames:=i.ok.frames
 jQ:=.inl rfl
 lI:=λb d=>⟨dJ<|eK (w b d) v,λf g c=>by
  rcases SF.two i.ok c with z|⟨_,z⟩
  ·exact k2 (eK (w b d)<|ee u (k.gq f g z).1)
  ·exact (s b d).2.2.2.2.1 f g z⟩
 bs:=i.bs
 hq:=ee i.ok.hq i.ko
 iZ:=λb n a d=>by
  rcases (s b d).2.2.2.1 with z|z
  ·exact i.ok.iZ b n a z
  ·exact absurd (eK (b9 a)<|ee i.ok.hq z) (jh _)
 ja:=λb d z=>by
  rcases bL.mp (i.vS b z) with a|a
  ·exact (s b d).2.1 a
  ·exact (s b d).2.2.1 a
 fO:=i.stack
 iK:=i.qr
theorem JK{bt:Nat}{M:aC->Option ae}(SF:h1 e SO own SX)(i:aG e G y h m)(L:m.heap.objs.size<=az)(an:∀b∈bb,jK e G h b)(ap:∀b∈bb,b<m.heap.objs.size)(z:∀b n,m.heap.get? b=Z n->t.get? b=Z n)(as:t.Ns az M)(C:sH TQ SO.names R t)(D:m.heap.objs.size<=TQ)(E:∀f,(f,cY.cell)∈SO.names->∃g,R.lookup f=Z g):
  aG (e.fI (fS e own SX) SO ⟨az,m,h,bb,R⟩) [] (jW own SX y) h {m with heap:=t,toks:=bt} where
 ok:=CJ SF i L an ap C D E
 os:=rfl
 bare:=i.bare
 base:=dR.kept z
 loc:=by
  let⟨@bs,D,a1⟩:=i.loc;refine⟨M,as,λB f v l a w=>?_⟩;have l:(own++SX.map λj=>e.N.getD j "")[B]?=Z f:=l;have a:(own.map (λ_=>(Y:Option aj))++SX.map λj=>y.getD j Y)[B]?=Z (Z v):=a;by_cases a2:B<own.length
  ·rw[ly (by rw[bu];exact a2),gJ]at a;cases o:own[B]? with
   |none=>rw[o]at a;cases a
   |some k=>rw[o]at a;cases a
  ·rw[pJ ⋯,gJ]at l;rw[pJ (by rw[bu];lia),gJ,bu]at a;cases o:SX[B-own.length]? with
   |none=>rw[o]at l;cases l
   |some j=>
    rw[o]at l a;have l:e.N.getD j "" = f:=Option.some.inj l;have a:y.getD j Y=Z v:=Option.some.inj a;let⟨@d,O,P,Q⟩:=SF.Py j (jS o);have S_:d=f:=by
     rw[<-l,dg,O];rfl
    subst S_;have E:y[j]?=Z (Z v):=by
     rw[dg]at a;cases S:y[j]? with
     |none=>rw[S]at a;cases a
     |some k=>rw[S]at a;rw[show k=Z v from a]
    have T:=SF.free (d,.free) P rfl;let⟨@J,u,lk⟩:=a1 j d v O E (.inr<|.inl T);refine⟨J,u,.inr ⟨?_,?_⟩⟩
    ·rcases w with w|w|w
     ·
      exfalso;have:∀{H:List (aC×cY)},H.lookup d=Z .free->(H.map λ(s,q)=>if (q==cY.free&&e.env.scope.kind==.function&&e.env.kindOf s==Z .cell) then (s,cY.cell) else (s,q)).lookup d≠Z .local:=by
       intro H;induction H with
       |nil=>intro c;simp at c
       |cons A u U=>
        let⟨s,q⟩:=A;intro c;rw[dK];dsimp only;by_cases al:d=s
        ·subst al;have T3:q=.free:=by simpa [gF] using c
         subst T3;by_cases x:(cY.free==cY.free&&e.env.scope.kind==ScopeKind.function&&e.env.kindOf d==Z cY.cell)=V
         ·rw[aN x];simp[gF]
         ·rw[aT x];simp[gF]
        ·have F:(d==s)=aq:=by simpa using al
         rw[gF,F]at c;by_cases x:(q==cY.free&&e.env.scope.kind==ScopeKind.function&&e.env.kindOf s==Z cY.cell)=V
         ·rw[aN x,gF,F];exact U c
         ·rw[aT x,gF,F];exact U c
      exact this Q w
     ·exact .inl w
     ·exact .inr w
    ·rcases lk with ⟨bd,_⟩|⟨_,g,be,bi⟩
     ·exact absurd (bd.symm.trans T) ↥0
     ·let⟨@bv,am⟩:=xf (Sk:=e.env) SO.names [] d (.inl P);have:=(SF.sub i.ok am).1;rw[be]at this;cases this;let⟨@n,I,hd⟩:=bi;have bm:R.lookup d=Y:=by
       cases o:R.lookup d with
       |none=>rfl
       |some p=>
        have:=SF.Rn _ (C.gq d p o).2.2 rfl;rw[Q]at this;cases this
      exact⟨g,by show (R++kr e.env SO.names).lookup d=Z g;rw[vD,bm];exact am,n,z _ _ I,hd⟩
 cell:=λf g c=>by
  rcases SF.two i.ok c with k|⟨_,k⟩
  ·exact⟨_,(C.gq f g k).2.1⟩
  ·let⟨v,@n,I,hd⟩:=i.cell f g k;exact⟨v,n,z _ _ I,hd⟩
 free:=i.aR.fresh L
 fW:=λf g c=>by
  rcases SF.two i.ok c with k|⟨_,k⟩
  ·exact i.aR.fresh (ee D (C.gq f g k).1)
  ·exact i.fW f g k
 pin:=λr bn=>nomatch bn
 aR:=i.aR.kept z
 len:=by simp[jW,fS,aK.fI]
def Et(e:aK)(S:List a_)(I:er)(G:List (af×aW)):Prop:=(
 ∀(m:av) (y:aS) (h:ax) (E:Bool->ax->Prop),aG e G y h m->I y h E->
  wpAny (aQ e.prog e.w) e.A (forIn S V λg u=>if u=V then do let ok <-oE g e.env (b1 g e.env);pure (ForInStep.yield ok) else pure (ForInStep.yield u)) (t7 e G y E) e.cj m)
def qw(e:aK)(S:List a_)(I:er):Prop:=(∀G,Et e S I G)
def OZ:er:=(λ_ h E=>E V h)
def Hj:qw e [] OZ:=λG m y h E i c=>wpAny_tests_nil ⟨h,i,c⟩
def Rf{g:a_}{I:er}(c:hb e g I):qw e [g] I:=λG m y h E i a=>wpAny_tests_one (c G m y h E i a)
def Jw(own:List aC)(SX:List Nat)(N:gn)(TX:er)(TF:b2)(y:aS)(SS:List aj->ax->Prop)(SE:List aj)(f:aj)(P:ax):Prop:=(
 N f (jW own SX y) P λa SK=>(∀(B:Nat) (v:aj),(jW own SX y)[B]?=Z (Z v)->a[B]?=Z (Z v))/\TX a SK λb c=>if b=V then TF a c λv d=>SE.length<sizeLine/\SS (SE++[v]) d else SS SE c)
def QN(Tr:e5)(own:List aC)(SX:List Nat)(N:gn)(TX:er)(TF:b2)(y:aS)(Sr:ax)(E:cu):Prop:=(
 ∃W:Nat->Nat->List aj->ax->Prop,(∃M,W 0 M [] Sr)/\∀j M SE h,W j M SE h->(Tr.stop j h/\∀k,h k=Y->E (.ref k) (upd h k<|.lst SE))\/
  (Tr.go j h/\∃SS:List aj->ax->Prop,(∀a P,SS a P->∃b,b<M/\W (j+1) b a P)/\∀f P,Tr.qy j h f P->Jw own SX N TX TF y SS SE f P))
def sY(own:List aC)(SX:List Nat)(e6:c6)(N:jZ->gn)(TX:jZ->er)(TF:jZ->b2):b2:=(λy h E=>e6 y h λTr Sr=>∀a:jZ,QN Tr own SX (N a) (TX a) (TF a) y Sr E)
def wQ(i:gj)(SS:List aC)(SO:gj)(SX:List Nat):Bool:=(
 SO.kind==.function&&SO.names.all (λA=>A.2 != .cell || SO.names.lookup A.1==Z .cell)&&SO.names.all (λA=>A.2 != .free || i.names.lookup A.1==Z .cell)&&SO.names.all (λA=>A.2 != .local || SO.names.lookup A.1==Z .local) &&
  SX.all (λj=>match SS[j]? with|some f=>SO.names.lookup f==Z .free|none=>aq))
def ll{e:aK}(i:gj)(SS:List aC)(c:wQ i SS SO SX=V)(a:e.env.scope=i:=by rfl)(k:e.N=SS:=by rfl):h1 e SO own SX:=by
 unfold wQ at c;simp only[cG,i8,bne_iff_ne,ne_eq,D1,rf]at c;let@⟨@⟨@⟨@⟨t,D⟩,l⟩,m⟩,n⟩:=c;refine⟨t,λA b d=>(D A b).resolve_left λg=>g d,λA b d=>?_,λA b d=>?_,λj Sq=>?_⟩
 ·rw[a];exact (l A b).resolve_left λg=>g d
 ·exact (m A b).resolve_left λg=>g d
 ·have:=n j Sq;rw[k];cases o:SS[j]? with
  |none=>rw[o]at this;cases this
  |some f=>
   rw[o]at this;have h:SO.names.lookup f=Z .free:=by simpa using this
   exact⟨f,rfl,mem_of_lookup h,h⟩
def AG{Tz:cn}{use:Option (ae->fx Unit)}{f8:ae->av->Prop}{li:cu}(pi:e.calm=V)(SF:h1 e SO own SX)(Sq:lJ e SY TA e6)(pm:∀a1,jf (e.fI (fS e own SX) SO a1) SY<|N a1)(po:∀a1,qw (e.fI (fS e own SX) SO a1) S<|TX a1)(pp:∀a1,bE (e.fI (fS e own SX) SO a1) TN<|TF a1)(pr:∀f,mm TA e.env f=pure f)(i:aG e G y h m)(c:sY own SX e6 N TX TF y h li)(pt:∀(k az:af) (ga:ax) (E:av) (M:aC->Option ae),aG e G y ga E->E.heap.Ns az M->ga az=Y->e.env.locals≠az->(∀f g,e.env.cells.lookup f=Z g->g≠az)->e.eh.heap.objs.size<=az->(∀r∈e.e0++G,r.1≠az)->li (.ref k) ga->compPost (aQ e.prog e.w) e.A e.cj use f8 (.ref k) az (.ok .next) E):
  wpAny (aQ e.prog e.w) e.A (yc (.ListComp TN [⟨SY,TA,S,0⟩] SO SD) SO e.env Tz (p3 []) aq (b1 TA e.env) use) f8 e.cj m:=by
 refine wpAny_comprehension_free (use:=use) rfl pr (I2<|SF.cells i.ok) SF.kind SF.loc (bP (Sq G m y h _ i c) λv wl t=>bP t λwn B D=>?_);let⟨it,bb,TS,Tr,@SK,a,am,F,ge,a2,pu⟩:=D;subst a;have ci:∀b∈bb,b<B.heap.objs.size:=λb p=>by
  let⟨@n,a,Q⟩:=F.obj _ _ ge b p;exact b9 a
 refine h9 (RA λgl R ext db bm lm=>?_);dsimp only at db ext bm ⊢;generalize gt:B.heap.push {cls:=.type "list",dict:=Y,data:=.seq ([]:List ae).toArray}=ds at db ext bm ⊢;have dL:ds.objs.size=B.heap.objs.size+1:=by rw[<-gt,lO]
 have bn:B.heap.objs.size≠ds.objs.size:=by rw[dL];exact dJ (oI _)
 have eq:B.heap.objs.size<=ds.objs.size:=by rw[dL];exact DI _
 have g1:∀b n,B.heap.get? b=Z n->gl.get? b=Z n:=λb n a=>ext b n (gt ▸ cw _ a);have ln:gl.get? B.heap.objs.size=Z {cls:=.type "list",data:=.seq ([]:List ae).toArray 0}:=ext _ _ (gt ▸ dH _ rfl);generalize wr:ds.objs.size=az at db bm dL bn eq ⊢;have ev:B.heap.objs.size<=az+1:=AS eq;generalize ap:B.heap.objs.size=k at ln dL bn eq ⊢;have bs:B.heap.objs.size<=az:=by rw[ap];exact eq
 let⟨@W,⟨@py,rc⟩,turn⟩:=pu ⟨az,B,SK,bb,R⟩;have ls:=λ(bt:Nat)=>JK (bt:=bt) SF am bs a2 ci g1 db bm ev lm;have lv:=pm ⟨az,B,SK,bb,R⟩;have lw:=po ⟨az,B,SK,bb,R⟩;have mb:=pp ⟨az,B,SK,bb,R⟩;have g2:=CJ SF am bs a2 ci bm ev lm;generalize L:e.fI (fS e own SX) SO ⟨az,B,SK,bb,R⟩=x at ls lv lw mb g2;have bv:x.prog=e.prog:=by rw[<-L];rfl
 have ca:x.w=e.w:=by rw[<-L];rfl
 have mo:x.K=e.K:=by rw[<-L];rfl
 have cl:x.A=e.A:=by rw[<-L];rfl
 have mp:x.calm=V:=by rw[<-L];exact pi
 have cd:x.env.locals=az:=by rw[<-L];rfl
 have g3:x.ex=bb:=by rw[<-L];rfl
 have fd:x.eh=B:=by rw[<-L];rfl
 have re:x.mA=SK:=by rw[<-L];rfl
 have rs:x.X=dN e.stack:=by rw[<-L];rfl
 have fn:x.e0=[]:=by rw[<-L];rfl
 have hd:x.cj=λ_ Q=>False:=by rw[<-L];rfl
 have ms:x.env=u7 SO (R++kr e.env SO.names) az e.env:=by rw[<-L];rfl
 have m0:∀f g,x.env.cells.lookup f=Z g->az+1<=g\/e.env.cells.lookup f=Z g:=λf g c=>by
  rw[ms]at c;rcases SF.two am.ok c with z|⟨_,z⟩
  ·exact .inl (bm.gq f g z).1
  ·exact .inr z
 have fL:∀f g,x.env.cells.lookup f=Z g->g≠k:=λf g c z=>by
  rcases m0 f g c with A|A
  ·rw[z,<-ap]at A;exact absurd (ee (Cs bs) A) (Nat.not_succ_le_self _)
  ·have:=am.vZ A;rw[z,<-ap]at this;exact jh _ this
 have he:∀b∈bb,b≠k:=λb p z=>by
  have:=ci b p;rw[z,<-ap]at this;exact jh _ this
 have sc:k∉x.X:=λz=>by
  let@⟨_,⟨@n,ce,_⟩⟩:=g2.fO.mem z;rw[fd]at ce;have:=b9 ce;rw[ap]at this;exact jh _ this
 have hf:∀(P:ax) (n:aW),(∀b∈bb,P b=Y)->∀b∈bb,jK x [(k,n)] P b:=λP n hm b p=>by
  refine⟨hm b p,?_,?_,.inl (by rw[g3];exact p),λf g c=>(m0 f g c).elim (λA=>k2 (eK (ci b p) (ee ev (by rw[ap]at ev;exact A)))) λA=>(a2 b p).2.2.2.2.1 f g A,λr C=>?_⟩
  ·rw[cd];exact dJ (eK (ci b p) bs)
  ·exact g2.ja b (by rw[g3];exact p)
  ·rw[fn]at C;have:r=(k,n):=by simpa using C
   rw[this];exact fD (he b p)
 have na:∀hw:av,hw={B with heap:=gl,toks:=B.toks+([]:List (aC×ae)).length}->
   codeAny (aQ e.prog e.w) e.A (.compLoop (.ListComp TN [⟨SY,TA,S,0⟩] SO SD) 0 (.ref it) (.ref k) x.env)
    (compPost (aQ e.prog e.w) e.A e.cj use f8 (.ref k) az) hw:=by
  rintro hw rfl;refine Ib (λs Ss=>∃(j:Nat) (SE:List aj) (P:ax) (Sw:List ae) (q:Nat),aG x [(k,{cls:=.type "list",data:=.seq Sw.toArray q})] (jW own SX y) P Ss/\bR SE Sw/\SE.length<=sizeLine/\TS j Ss.heap/\
   (∀b∈bb,P b=Y)/\W j s SE P) ?_ py ?_
  ·rintro s nb ⟨j,SE,T,Sw,q,h0,fr,ne,nl,nm,sn⟩;rcases turn j s SE T sn with ⟨stop,sp⟩|⟨go,SS,nn,step⟩
   ·have:=F.done x bv ca mo mp j _ nb _ T (λ_ Q=>False) h0 (hf T _ nm) nl stop;rw[cl]at this;refine bP this λu E U=>?_;let@⟨ii,bd⟩:=U;subst ii;let⟨@M,hm,Q⟩:=bd.loc;have ss:E.heap.Ns az M:=by rw[<-cd];exact hm
    have C:=bd.pin (k,{cls:=.type "list",data:=.seq Sw.toArray q}) (by rw[fn];simp);have ch:T k=Y:=C.2.1;have dz:∀b,b≠az->E.heap.get? b=E.heap.get? b:=λb p=>rfl;have bi:∀b n,B.heap.get? b=Z n->b≠az:=λb n a=>dJ (eK (b9 a) bs);have sw:∀b n,B.heap.get? b=Z n->b≠k:=λb n a=>by rw[<-ap];exact dJ (b9 a)
    have an:dR (dN e.stack) bb SK T B.heap E.heap:=by
     have:=bd.base;rw[rs,g3,re,fd]at this;exact this
    have J:dR (dN e.stack) bb SK (upd T k<|.lst SE) B.heap E.heap:=
     ⟨λb n a s p as=>(dz b<|bi b n a).trans<|an.keep b n a s p as,
      λb n a s p as=>by
      let⟨@aH,o⟩:=an.slot b n a s p as;exact⟨aH,(dz b<|bi b n a).trans o⟩,
      λb n a s as=>by rw[cP (sw b n a)];exact an.free b n a s as,
      λb n w a I as=>(dz b<|bi b n a).trans<|an.g9 b n w a I as,
      λb n a as=>by
      let⟨@Th,o⟩:=an.there b n a as;exact⟨Th,(dz b<|bi b n a).trans o⟩,
      λb w a=>by rw[cP (hg (an.gz b w a) ch)];exact an.gz b w a,
      λb n w a=>by rw[cP (hg (an.g0 b n w a) ch)];exact an.g0 b n w a,
      λb SA a=>by
      let⟨@sB,o⟩:=an.ih b SA a;exact⟨sB,by rw[cP (hg o ch)];exact o⟩⟩
    have no:∀b n,T b=Z n->b≠az:=λb n a z=>by
     have:=bd.free;rw[cd,<-z,a]at this;cases this
    have sK:dw e.prog e.w (upd T k<|.lst SE) E.heap:=λd n a=>by
     by_cases np:d=k
     ·subst np;rw[eF]at a;cases a;exact⟨ne,Sw,q,fr,(dz _ bn).trans C.1⟩
     ·rw[cP np]at a;have:=bd.aR d n a;rw[bv,ca]at this;refine this.f7 (λb J p o=>(dz b ?_).trans o) (λb o=>by rw[cP (hg o ch)];exact o) λb w o=>by rw[cP (hg o ch)];exact o
      rcases p with z|z
      ·rw[z];exact no d n a
      ·exact no b _ z
    have s0:aG e G y (upd T k<|.lst SE) E:=am.DR (Ss:=E) (TH:=bb) (by have:=bd.os;rw[fd]at this;exact this) J sK bd.bare λb p=>⟨(a2 b p).2.2.2.1,(a2 b p).2.1,(a2 b p).2.2.2.2.1,(a2 b p).2.2.2.2.2⟩;have s1:e.env.locals≠az:=by
     let⟨@ws,s2,Q⟩:=am.loc;let⟨n,Q,@Q,ce,Q⟩:=s2;exact bi _ _ ce
    have s3:∀f g,e.env.cells.lookup f=Z g->g≠az:=λf g c=>by
     let⟨v,@n,ce,Q⟩:=am.cell f g c;exact bi _ _ ce
    refine pt k az _ E M s0 ss ?_ s1 s3 ?_ (λr C=>bi _ _ (am.pin r C).1) (sp k ch)
    ·rw[cP (fD bn)];have:=bd.free
     rwa [cd]at this
    ·exact ee am.ko bs
   ·have:=F.item x bv ca mo mp j _ nb _ T (λ_ Q=>False) h0 (hf T _ nm) nl go;rw[cl]at this;refine bP this λu E U=>?_;let⟨@J,ii,s4⟩:=U;subst ii;refine bP s4 λ_ co U=>?_;let⟨f,@im,s5,to,tt,io,ty⟩:=U;have tz:=s5.pinned (hf im _ ty) (F.obj _ _ io);have ns:=lv _ co _ im f J _ tz to (step f im tt);rw[bv,ca,cl,hd]at ns;refine bP ns λ_ t0 U=>?_;let⟨cr,@t1,t3,ul,un⟩:=U;have nw:=lw _ t0 cr t1 _ t3 un;rw[bv,ca,cl,hd]at nw;refine bP nw λb up U=>?_;let⟨@of,f0,f1⟩:=U;have ol:∀{on:aS}{P:ax}{Ss:av},aG x ([(k,{cls:=.type "list",data:=.seq Sw.toArray q})]++mK bb co.heap) on P Ss->(∀b∈bb,P b=Y)/\TS (j+1) Ss.heap:=λ{on P Ss} cs=>by
     refine⟨λb p=>?_,F.keep _ _ _ io λb p n a=>(cs.pin (b,n)<|c3 _<|c3 _<|u2 p a).1⟩;let⟨@n,a,Q⟩:=F.obj _ _ io b p;exact (cs.pin (b,n)<|c3 _<|c3 _<|u2 p a).2.1
    have g4:∀{jp:List (af×aW)}{P:ax}{Ss:av},aG x jp cr P Ss->aG x jp (jW own SX y) P Ss:=λ{jp P Ss} cs=>
     cs.weak (by rw[cs.len,h0.len]) ul;cases b with
    |false=>
     rw[aT d7]at f1;let⟨@kt,kw,us⟩:=nn _ _ f1;rw[aT d7];let@⟨S1,S6⟩:=ol f0;exact⟨kt,kw,j+1,SE,of,Sw,q,g4 (f0.n_ λr C=>f0.pin r (by
      rw[fn];simp at C ⊢;exact .inl C)),fr,ne,S6,S1,us⟩
    |true=>
     rw[aN rfl]at f1 ⊢;have op:=mb _ up cr of _ f0 f1;rw[bv,ca,cl,hd]at op;refine bP op λal be U=>?_;let⟨ut,@lc,f2,u8,wv,v0⟩:=U;let⟨@kt,kw,v1⟩:=nn _ _ v0;have C:=f2.pin (k,{cls:=.type "list",data:=.seq Sw.toArray q}) (c3 _ (c5 _ ↥0));have lf:=C.1;refine pE Eh ⟨_,lf,rfl⟩ Gb (BB _ _) (A4 k Sw.toArray q al (by rw[cJ,<-fr.length];lia)) ⟨lf,?_⟩;have o:=E2 lf (λd=>d.push al);let@⟨S1,S6⟩:=ol f2;have v2:aG x (mK bb co.heap) cr lc be:=f2.n_ λr C=>f2.pin r (c3 _<|c3 _ C);have o0:∀b n,b≠k->be.heap.get? b=Z n->(be.heap.update k<|aW.mapSeq λd=>d.push al).get? b=Z n:=λb n p a=>(kl be.heap _<|fD p).trans a;have v4:aG x (mK bb co.heap) cr lc {be with heap:=be.heap.update k (aW.mapSeq λd=>d.push al),toks:=be.toks}:=
      v2.turned (it:=k) o0 C.2.1 (by rw[cd];exact bn) (.inr (by rw[fd,ap];exact bq _)) fL λr f4=>by
       rw[fn]at f4;let@⟨p,_⟩:=zx (show r∈mK bb co.heap by simpa using f4);exact he _ p
     refine⟨kt,kw,j+1,SE++[ut],lc,Sw++[al],q+1,g4<|v4.n_ λr f4=>?_,fr.append<|.cons u8 .nil,?_,?_,S1,v1⟩
     ·have a:r=(k,{cls:=.type "list",data:=.seq (Sw++[al]).toArray (q+1)}):=by simpa using f4
      subst a;refine⟨?_,C.2.1,C.2.2.1,C.2.2.2.1,λv z=>by cases z⟩;have v6:Sw.toArray.push al=(Sw++[al]).toArray:=by simp
      rw[<-v6];have pc:IsL (be.heap.update k<|aW.mapSeq λd=>d.push al) k (Sw.toArray.push al) (if (Sw.toArray.push al).size==Sw.toArray.size then q else q+1):=o;rw[aT ↥0]at pc;exact pc
     ·rw[dj,fi];lia
     ·refine F.keep _ _ _ S6 λb p n a=>o0 b n (he b p) a
  ·refine⟨0,[],SK,[],0,?_,.nil,hi _,F.keep _ _ _ ge λb Q n a=>g1 b n a,λb p=>(a2 b p).1,rc⟩;refine (ls _).n_ λr C=>?_;have a:r=(k,{cls:=.type "list",data:=.seq ([]:List ae).toArray 0}):=by simpa using C
   subst a;exact⟨ln,am.aR.fresh (by rw[ap];exact bq _),by rw[cd];exact bn,sc,λv z=>by cases z⟩
 have wf:u7 SO (R++kr e.env SO.names) az e.env=x.env:=ms.symm;show codeAny (aQ e.prog e.w) e.A (.compStart _ 0 (.ref it) (.ref k)<|u7 SO (R++kr e.env SO.names) az e.env) _ _;rw[wf];exact codeAny_compStart_list (na _ rfl) (F.self e.A 0 _ _ _ (F.keep _ _ _ ge λb Q n a=>g1 b n a)<|na _ rfl)
def Hd(l:e.calm=V)(SF:h1 e SO own SX)(Sq:lJ e SY TA e6)(p:∀d,jf (e.fI (fS e own SX) SO d) SY<|N d)(q:∀d,qw (e.fI (fS e own SX) SO d) S<|TX d)(s:∀d,bE (e.fI (fS e own SX) SO d) TN<|TF d)(t:∀f,mm TA e.env f=pure f:=by intro X;rfl):bE e (.ListComp TN [⟨SY,TA,S,0⟩] SO SD) (sY own SX e6 N TX TF):=by
 intro G m y h E i c;show wpAny _ e.A (yc (.ListComp TN [⟨SY,TA,S,0⟩] SO SD) SO e.env _ (p3 []) aq (b1 TA e.env) Y) _ _ m;refine AG (use:=Y) (f8:=ew e G y E) l SF Sq p q s t i c λk az u j M v w x H g z r o=>?_;show ∃M,j.heap.Ns az M/\∀T,a0.SameBut az j.heap T->ew e G y E (.ref k) {j with heap:=T};refine⟨M,w,λT B=>⟨.ref k,u,?_,rfl,o⟩⟩;exact v.turned (it:=az) (S4:=j.toks) (λb n C a=>(B.2 b C).trans a) x (fD H) (.inr z) g r
end
def iW(c:a0)(p:af)(SH:List ae)(U:Nat):Prop:=(∃n Sl,c.get? p=Z n/\n.ExactDict/\n.data=.dict Sl U/\Sl.toList.map (·.key)=SH)
def iW.ty(f:iW m.heap p SH U):m.TypeIs (.ref p) "dict" := let ⟨n,_,a,g,_⟩:=f;⟨n,a,g.1⟩
def iW.lt(f:iW c p SH U):p<c.objs.size:=let ⟨_,_,a,_⟩:=f;b9 a
def iW.go{T:a0}(f:iW c p SH U)(q:∀n,c.get? p=Z n->T.get? p=Z n):iW T p SH U:=let ⟨n,Sl,a,u⟩:=f;⟨n,Sl,q n a,u⟩
section
variable{Su:bl}{l:a8}{O:bp}{Sn:ae->av->Prop}{m:av}
def JL{E:ae->av->Prop}(Sp:(p==iB)=aq)(f:iW m.heap p SH U)(o:E (.ref m.heap.objs.size) {m with heap:=m.heap.push {cls:=.type "dict_keyiterator",data:=.fields #[.ref p,.int 0 0,.int SH.length 0,.int U 0]} }):wpAny (aQ Su l) O (tr<|.ref p) E Sn m:=by
 have ty:=f.ty;let⟨n,@Sl,a,d,b,c⟩:=f;have s:Sl.size=SH.length:=by rw[<-c,bu,gT]
 refine wpAny_pyIter_slot ty DM (i_ DM ty F.entry_dict_iter ?z<|F.args_dict_iter_1 _)
 case z=>
  unfold bk.«dict.__iter__» bk.Dict.dictSlotNone;refine aD (aD<|E9 ty ?_);show wpAny _ _ (pure<|ae.ref p) _ _ m;apply a7;show wpAny _ _ (bk.Dict.showsAll p >>= _) _ _ m;unfold bk.Dict.showsAll;rw[aT (by rw[Sp];simp)];refine aD (a7<|aD<|tF a b<|aD<|wq a b<|aD<|h9<|a7 ⟨_,rfl,"dict_keyiterator",_,⟨_,dH _ rfl,rfl⟩,qN.lookup,?_⟩);simpa [kk,s] using o
def JY{it p:af}{v:ae}(a:m.heap.IsKeyIter it p j SH.length U)(f:iW m.heap p SH U)(c:SH[j]?=Z v)(o:∀T,T.IsKeyIter it p (j+1) SH.length U->a0.SameBut it m.heap T->E (Z v) {m with heap:=T}):wpAny (aQ Su l) O (hP<|.ref it) E Sn m:=by
 let⟨@r,d,q,b⟩:=id a;let⟨n,@Sl,g,t,h,i⟩:=f;have s:Sl.size=SH.length:=by rw[<-i,bu,gT]
 have Sq:j<Sl.size:=by
  have:j<SH.length:=(fY.mp c).1;lia
 have T3:Sl[j].key=v:=by
  rw[<-i,gJ,hr,EA Sq]at c;exact Option.some.inj c
 unfold hP;refine aD (qZ<|lU (name:=aC.ofString "__next__") a.typeIs qN<|i_ qN a.typeIs Cd ?e<|zt _)
 case e=>
  refine aD (a7<|aD<|aD ?_);refine aD (sS a.typeIs<|a7<|aD<|Ak d b ?_);simp only[show bk.Dict_items.ownsTuple "dict_keyiterator" = aq by decide,k8,ig];show wpAny _ _ (if (ae.ref p==ae.none)=V then _ else _) _ _ m;rw[aT (show ¬ (ae.ref p==ae.none)=V by intro e;cases e)];refine aD (a7<|aD<|tF g h ?_);rw[aT (by simp[s])];refine aD (a7<|aD<|wq g h ?_);rw[aT ↥0];apply a7;simp only[show ¬ ((j:Int)<0) by lia,ig,qj,EA Sq];refine aD (aD<|sS a.typeIs<|a7<|aD<|EW a.typeIs ?_);show wpAny _ _ (setField (.ref it) 1 (kk<|(j:Int)+1) >>= _) _ _ m;have k:(m.heap.update it (aW.mapFields (·.setIfInBounds 1 (kk<|(j:Int)+1)))).IsKeyIter it p (j+1) SH.length U:=
   ⟨_,rm _ d<|FF<|uk b _,(Co ..).trans q,by rw[uk b];simp[kk]⟩;refine aD (sz d b ↥0 (aD (fX (aD (EW (s:={m with heap:=m.heap.update it (aW.mapFields (·.setIfInBounds 1 (kk<|(j:Int)+1)))}) k.typeIs ?_)))));show wpAny _ _ (pure Sl[j].key) _ _ _;rw[T3];exact a7 (a7 ⟨_,rfl,a7<|o _ k<|vn ..⟩)
def Qz{it p:af}(k:O.handled=Y)(a:m.heap.IsKeyIter it p j SH.length U)(f:iW m.heap p SH U)(r:SH.length<=j)(o:∀T,a0.ExtBut it m.heap T->E Y {m with heap:=T}):wpAny (aQ Su l) O (hP<|.ref it) E Sn m:=by
 let⟨@t,e,u,g⟩:=id a;let⟨n,@Sl,h,v,i,q⟩:=f;have s:Sl.size=SH.length:=by rw[<-q,bu,gT]
 unfold hP;refine aD (qZ<|lU (name:=aC.ofString "__next__") a.typeIs qN<|i_ qN a.typeIs Cd ?c<|zt _)
 case c=>
  refine aD (a7<|aD<|aD ?_);refine aD (sS a.typeIs<|a7<|aD<|Ak e g ?_);simp only[show bk.Dict_items.ownsTuple "dict_keyiterator" = aq by decide,k8,ig];show wpAny _ _ (if (ae.ref p==ae.none)=V then _ else _) _ _ m;rw[aT (show ¬ (ae.ref p==ae.none)=V by intro c;cases c)];refine aD (a7<|aD<|tF h i ?_);rw[aT (by simp[s])];refine aD (a7<|aD<|wq h i ?_);rw[aT ↥0];apply a7;simp only[show ¬ ((j:Int)<0) by lia,ig,qj,Array.getElem?_eq_none (show Sl.size<=j by lia)];refine aD (aD<|sS a.typeIs<|a7 ?_);show wpAny _ _ (setField (.ref it) 0 .none >>= _) _ _ m;refine aD (sz e g ↥0 ?_);show wpAny _ _ (t6 (.type "StopIteration") [] >>= _) _ _ _;apply aD;simp only[t6,wR];refine aD (h9 (aD (m:=sN _ _) (uU (a:=ae.none) (by first|rfl|(simp only[sN];rfl)) (h9 ?_ (by size_fits)))) (by size_fits));simp only[raiseNew];apply aD;apply Em;rw[show O.in1.handled=Y from k];refine aD (m:=pure _) (a7<|wpAny_throw ?_);apply aD;refine vq (T := "StopIteration") (b:=V) ⟨_,dH _ rfl,rfl⟩ DK ?_;exact a7 (o _<|((vn ..).extBut.push _).push _)
theorem Om(i:O.handled=Y)(it p:af)(ne:p≠it)(SH:List ae)(U:Nat):nR Su l O it [it,p] [it] SH.length (λj v=>SH[j]?=Z v) (λj c=>c.IsKeyIter it p j SH.length U/\iW c p SH U) where
 sub:=λb k=>by
  have:b=it:=by simpa using k
  simp[this]
 frame:=λj c T z q=>⟨let ⟨n,a,u⟩:=z.1;⟨n,q it ↥0 n a,u⟩,z.2.go (q p ↥0)⟩
 item:=λj m E Sn Sq z e=>by
  have h:SH[j]?=Z SH[j]:=by simp[Sq]
  refine JY z.1 z.2 h λT d b=>e _ T m.toks h ⟨d,z.2.go λn a=>b.extBut p n ne a⟩ λg n f a=>b.extBut g n ⇑f a
 done:=λm E Sn z e=>Qz i z.1 z.2 (bq _) λT b=>e T m.toks λg n f a=>b g n ⇑f a
 self:=λj m E Sn z e=>wpAny_pyIter_keyiter z.1 e
theorem LD(Sp:(p==iB)=aq):PySem.W.KdlSrc Su l "dict" p p SH.length (λj v=>SH[j]?=Z v) (λc=>iW c p SH U) where
 type:=λm f=>f.ty
 there:=λc f=>⟨f.lt,f.lt⟩
 keep:=λc T f q=>f.go (q p<|.inl rfl)
 notList:=by decide
 notTuple:=by decide
 hint:=λO Sn m E f o=>PySem.W.kdl_hint_dict f.ty o
 iter:=λO m b f=>⟨_,_,(λSn E o=>JL Sp f o),Om b _ p (dJ f.lt) SH U,⟨⟨_,dH _ rfl,rfl,rfl⟩,f.go λn a=>cw _ a⟩⟩
end
end L2
namespace L2
open Spec PyProof.Rows PySem.W
section
variable{s:Nat}{SJ:Nat->Int}{e:Nat->Nat->(Bool->av->Prop)->av->Prop}
def br(SJ:Nat->Int)(r:Array Nat)(j:Nat):Int:=(SJ (r.getD j 0))
def jE(SJ:Nat->Int)(r:Array Nat)(M:Nat):Prop:=(∀j B,j<=B->B<M->br SJ r j<=br SJ r B)
def jx(s:Nat)(SJ:Nat->Int)(e:Nat->Nat->(Bool->av->Prop)->av->Prop)(m:av):Prop:=(∀j B az,j<s->B<s->az (decide (SJ j<SJ B)) m->e j B az m)
def dV(s:Nat)(r:Array Nat):Prop:=(r.toList.Perm (range s))
variable{r:Array Nat}
def dV.size(c:dV s r):r.size=s:=by
 have:=c.length_eq;simpa using this
def dV.lt(c:dV s r){j:Nat}(Sq:j<s):r.getD j 0<s:=by
 have b:=c.size;have a:r.getD j 0=r[j]:=by simp[Array.getD,b,Sq]
 rw[a];have:r[j]∈r.toList:=by simp
 exact g6.mp (c.mem_iff.mp this)
def dV.ne(c:dV s r)(inj:∀j B,j<s->B<s->SJ j=SJ B->j=B){j B:Nat}(i:j<B)(d:B<s):br SJ r j≠br SJ r B:=by
 intro a;have b:=c.size;have e:=inj _ _ (c.lt (by omega)) (c.lt d) a;have f:r.getD j 0=r[j]:=by simp[Array.getD,b,show j<s by omega]
 have g:r.getD B 0=r[B]:=by simp[Array.getD,b,d]
 rw[f,g]at e;have ao:r.toList.Nodup:=c.nodup_iff.mpr List.nodup_range;have h:r.toList[j]'(by simpa [b] using (show j<s by omega))=r.toList[B]'(by simpa [b] using d):=by simpa using e
 have:=(CQ ao).mp h;omega
def px{o:Array Nat}{j B:Nat}(a:r[j]?=o[B]?):br SJ r j=br SJ o B:=by
 unfold br;rw[BJ,BJ,a]
theorem dV.rev(c:dV s r)(j B:Nat):dV s (l9 r j B):=(C7.mp<|mirror_perm r j B _).trans c
theorem dV.MO(c:dV s r)(j B:Nat):dV s (qT r j B):=(C7.mp<|bubble_perm r j B).trans c
end
section
variable{Su:bl}{l:a8}{O:bp}{Sn:ae->av->Prop}{SV:gd}{it:Array il}{SJ:Nat->Int}{s:Nat}{m:av}
def Q6(a:jx s SJ (h2 Su l O SV it) m){j B:Nat}(Sq:j<s)(b:B<s){z:eS}(d:kindOf z=SV){E:Option Bool->eS->av->Prop}(c:E (Z<|decide (SJ j<SJ B)) z m):
  kasC (aQ Su l) O Sn (lt' (i1 it j)<|i1 it B) E z m:=by
 rw[lt'_eq];apply d0;apply nc;have:=a j B (λg Ss=>Ss=m/\g=decide (SJ j<SJ B)) Sq b ⟨rfl,rfl⟩;unfold h2 at this;rw[d];refine d0 (xb<|qZ<|gW this (λg Ss e=>?_) λ_ X f=>f.elim);let@⟨rfl,rfl⟩:=e;exact eZ c
def qQ{y S0:Type}{aE:ik}{M:StateT y fx S0}{E b:S0->y->av->Prop}{z:y}{Ss:av}(c:kasC aE O Sn M b z Ss)(N:∀d z Ss,b d z Ss->E d z Ss):kasC aE O Sn M E z Ss:=
 gW c (λu Ss f=>N u.1 u.2 Ss f) λ_ X a=>a
end
section
variable{Su:bl}{l:a8}{O:bp}{Sn:ae->av->Prop}{SV:gd}{it:Array il}{SJ:Nat->Int}{s:Nat}{m:av}{n:Array (Nat×Nat×Nat)}
structure gf(SV:gd)(it:Array il)(n:Array (Nat×Nat×Nat))(z:eS)(p:Array Nat):Prop where
 k:PyProof.Rows.kindOf z=SV
 a:kM z=p.map (i1 it)
 p:mO z=n
 f:oB z=Y
def q0(g:jx s SJ (h2 Su l O SV it) m){r:Array Nat}(b:dV s r){j B:Nat}(Sq:j<s)(e:B<s){z:eS}(h:gf SV it n z r){E:Option Bool->eS->av->Prop}(c:E (Z<|decide (br SJ r j<br SJ r B)) z m):
  kasC (aQ Su l) O Sn (n2 j B) E z m:=by
 have f:∀j,j<s->(r.map<|i1 it)[j]?=Z (i1 it<|r.getD j 0):=λj Sq=>by
  have:j<r.size:=by rw[b.size];exact Sq
  simp[Array.getD,this]
 rw[ltAt'_eq];refine d0 (nc ?_);rw[h.a];dsimp only;rw[elem'_eq,elem'_eq,f j Sq,f B e];refine d0 (eZ ?_);refine d0 (eZ ?_);exact Q6 g (b.lt Sq) (b.lt e) h.k c
variable{r:Array Nat}{z:eS}
def tK(h:gf SV it n z r){j B:Nat}{E:Unit->eS->av->Prop}(c:∀b,gf SV it n b (l9 r j B)->E () b m):kasC (aQ Su l) O Sn (p2 j B) E z m:=by
 rw[reverseSlice'_eq];refine t4 (c _ ⟨h.k,?_,h.p,h.f⟩);show mirror (kM z) j B ((B-j)/2)=_;rw[h.a];exact CH (i1 it) (λq=>j+q) (λq=>B-1-q) _ r
def O7(h:gf SV it n z r){j B:Nat}{E:Unit->eS->av->Prop}(c:∀b,gf SV it n b (qT r j<|j-B)->E () b m):kasC (aQ Su l) O Sn (moveDown' j B) E z m:=by
 rw[moveDown'_eq];refine t4 (c _ ⟨h.k,?_,h.p,h.f⟩);show qT (kM z) j (j-B)=_;rw[h.a];exact CH (i1 it) (λq=>j-q) (λq=>j-q-1) _ r
theorem rK{y TG:Type}{aE:ik}{x:Nat->TG->StateT y fx (ForInStep TG)}{E:TG->y->av->Prop}(i:Nat->TG->y->av->Prop)(SQ:Nat)(step:∀f g z Ss,f<SQ->i f g z Ss->kasC aE O Sn (x f g) (λu e h=>match u with | .yield b=>i (f+1) b e h | .done b=>E b e h) z Ss):∀(M d:Nat) (g:TG) (z:y) (Ss:av),d+M<=SQ->(∀g z Ss,i (d+M) g z Ss->E g z Ss)->i d g z Ss->
   kasC aE O Sn (forIn (range' d M) g x) E z Ss
 |0,d,g,z,Ss,j,fin,c=>by
  show kasC aE O Sn (forIn ([]:List Nat) g x) E z Ss;exact kasC_nil (fin g z Ss c)
 |M+1,d,g,z,Ss,j,fin,c=>by
  show kasC aE O Sn (forIn (d::range' (d+1) M) g x) E z Ss;refine oj (gW (step d g z Ss ⋯ c) (λu h T=>?_) λ_ X a=>a);let⟨u,e⟩:=u;cases u with
  |done b=>exact T
  |yield b=>exact rK i SQ step M (d+1) b e h ⋯ (λg z Ss Sq=>fin g z Ss (by rw[show d+(M+1)=d+1+M by lia];exact Sq)) T
end
section
variable{Su:bl}{l:a8}{O:bp}{Sn:ae->av->Prop}{SV:gd}{it:Array il}{SJ:Nat->Int}{s:Nat}{m:av}{n:Array (Nat×Nat×Nat)}
def n4(SJ:Nat->Int)(r:Array Nat)(Sp M:Nat):Prop:=(∀j B,Sp<=j->j<=B->B<Sp+M->br SJ r j<=br SJ r B)
def DG{r:Array Nat}{Sp M:Nat}(c:∀B,Sp+1<=B->B<Sp+M->br SJ r (B-1)<=br SJ r B):n4 SJ r Sp M:=by
 intro j B Sq a e;obtain⟨p,rfl⟩:∃p,B=j+p:=⟨B-j,⋯⟩;clear a;induction p with
 |zero=>exact jJ _
 |succ p f=>
  have d:=f ⋯;have b:=c (j+(p+1)) ⋯ e;rw[show j+(p+1)-1=j+p by lia]at b;lia
def P8(S:jx s SJ (h2 Su l O SV it) m){r:Array Nat}(T:dV s r){Sp M i:Nat}(a1:Sp+M<=s)(t:1<=i)(bd:i<=M)(up:n4 SJ r Sp i){z:eS}(h:gf SV it n z r){E:Bool->eS->av->Prop}(c:∀p e,dV s p->gf SV it n e p->(∀j,j<Sp->p[j]?=r[j]?)->n4 SJ p Sp M->E V e m):
  kasC (aQ Su l) O Sn (binarySort' Sp M i) E z m:=by
 rw[binarySort'_eq];rw[show max i 1=i by lia];with_unfolding_all refine d0 (qQ (b:=λg e Ss=>m=Ss/\g=(Y,())/\∃o,dV s o/\gf SV it n e o/\(∀j,j<Sp->o[j]?=r[j]?)/\n4 SJ o Sp M)
  (nF (rK (λf g e Ss=>m=Ss/\g=(Y,())/\1<=f/\∃o,dV s o/\gf SV it n e o/\(∀j,j<Sp->o[j]?=r[j]?)/\n4 SJ o Sp f) M ?step _ _ _ _ _ ⋯ ?fin ⟨rfl,rfl,t,r,T,h,λ_ X=>rfl,up⟩)) ?after)
 case after=>
  rintro g e Ss ⟨rfl,rfl,o,x,y,C,v⟩;exact eZ (c o _ x y C v)
 case fin=>
  rintro g e Ss ⟨rfl,rfl,be,o,x,y,C,v⟩;rw[show i+(M-i)=M by lia]at v;exact⟨rfl,rfl,o,x,y,C,v⟩
 case step=>
  rintro q g e Ss bi ⟨rfl,rfl,S1,o,D,P,al,up⟩;dsimp only;have am:∀j,Sp<=j->j<Sp+0->br SJ o j<=br SJ o (Sp+q):=λj d b=>⋯
  have an:∀j,Sp+q<=j->j<Sp+q->br SJ o (Sp+q)<=br SJ o j:=λj d b=>⋯
  refine d0 (qQ (b:=λg k Ss=>m=Ss/\e=k/\∃H u,g=(Y,H,u)/\H<=q/\(∀j,Sp<=j->j<Sp+H->br SJ o j<=br SJ o (Sp+q))/\(∀j,Sp+H<=j->j<Sp+q->br SJ o (Sp+q)<=br SJ o j))
   (nF (rK (λf g k Ss=>m=Ss/\e=k/\∃H u,g=(Y,H,u)/\H<=u/\u<=q/\u-H<=q-f/\(∀j,Sp<=j->j<Sp+H->br SJ o j<=br SJ o (Sp+q))/\(∀j,Sp+u<=j->j<Sp+q->br SJ o (Sp+q)<=br SJ o j)) q ?s2 _ _ _ _ _ ⋯ ?f2 ⟨rfl,rfl,0,q,rfl,⋯,⋯,⋯,am,an⟩)) ?a2)
  case f2=>
   rintro g k Ss ⟨rfl,rfl,H,u,rfl,dE,cE,mQ,lB,l6⟩;exact⟨rfl,rfl,H,u,rfl,⋯,lB,λj f A=>l6 j ⋯ A⟩
  case s2=>
   rintro f g k Ss bm ⟨rfl,rfl,H,u,rfl,dE,cE,mQ,lB,l6⟩;dsimp only;by_cases a:H >= u
   ·rw[aN a];exact eZ ⟨rfl,rfl,H,u,rfl,⋯,lB,λj f A=>l6 j ⋯ A⟩
   rw[aT a];have F:H<=(H+u)/2:=⋯
   have ap:(H+u)/2<u:=⋯
   have G:(H+u)/2-H<=q-(f+1):=⋯
   have I:u-((H+u)/2+1)<=q-(f+1):=⋯
   generalize (H+u)/2=mid at F ap G I ⊢;refine d0 (q0 S D ⋯ ⋯ P ?_);dsimp only;by_cases J:br SJ o (Sp+q)<br SJ o (Sp+mid)
   ·rw[aN ⇑J];refine eZ ⟨rfl,rfl,H,mid,rfl,F,⋯,G,lB,λj f A=>?_⟩;have:=up (Sp+mid) j ⋯ f A;lia
   ·rw[aT ⇑J];refine eZ ⟨rfl,rfl,mid+1,u,rfl,⋯,cE,I,λj f A=>?_,l6⟩;have:=up j (Sp+mid) f ⋯ ⋯;lia
  case a2=>
   rintro g k Ss ⟨rfl,rfl,H,u,rfl,dE,lB,l6⟩;dsimp only;refine d0 (O7 P ?_);intro bn as;have N:∀j,(qT o (Sp+q)<|Sp+q-(Sp+H))[j]?=if j=Sp+H then o[Sp+q]? else if Sp+H<j/\j<=Sp+q then o[j-1]? else o[j]?:=λj=>by
    have:=getElem?_bubble (xs:=o) (src:=Sp+q) (by rw[D.size];lia) (Sp+q-(Sp+H)) ⋯ j
    rwa [show Sp+q-(Sp+q-(Sp+H))=Sp+H by lia]at this
   have a6:∀j,br SJ (qT o (Sp+q)<|Sp+q-(Sp+H)) j=if j=Sp+H then br SJ o (Sp+q) else if Sp+H<j/\j<=Sp+q then br SJ o (j-1) else br SJ o j:=λj=>by
    have N:=N j;by_cases a:j=Sp+H
    ·rw[aN a]at N ⊢;exact px N
    ·rw[aT a]at N ⊢;by_cases L:Sp+H<j/\j<=Sp+q
     ·rw[aN L]at N ⊢;exact px N
     ·rw[aT L]at N ⊢;exact px N
   refine eZ ⟨rfl,rfl,⋯,_,D.MO _ _,as,λj Sq=>by rw[N,aT ⋯,aT ⋯];exact al j Sq,DG λB f A=>?_⟩;rw[a6,a6];by_cases Q:B-1=Sp+H
   ·rw[aN Q,aT ⋯,aN ⋯];exact l6 (B-1) ⋯ ⋯
   ·rw[aT Q];by_cases R:B=Sp+H
    ·rw[aN R,aT ⋯];exact lB (B-1) ⋯ ⋯
    ·rw[aT R];by_cases bv:Sp+H<B-1
     ·rw[aN ⋯,aN ⋯];exact up _ _ ⋯ ⋯ ⋯
     ·rw[aT ⋯,aT ⋯];exact up _ _ ⋯ ⋯ ⋯
variable{o:Array Nat}
def uJ(a:dV s o){j B:Nat}(b:B<=s)(q:Nat):(l9 o j B)[q]?=if j<=q/\q<B then o[j+B-1-q]? else o[q]?:=by
 unfold l9;rw[getElem?_mirror_all (by rw[a.size];lia)]
def KQ(b:dV s o){j B:Nat}(d:B<=s)(a:∀q,j<=q->q<B->br SJ o q=br SJ o j)(q:Nat):br SJ (l9 o j B) q=br SJ o q:=by
 by_cases c:j<=q/\q<B
 ·rw[px (show (l9 o j B)[q]?=o[j+B-1-q]? by rw[uJ b d,aN c]),a _ ⋯ ⋯,a q c.1 c.2]
 ·exact px (by rw[uJ b d,aT c])
structure mc(SJ:Nat->Int)(s Sp:Nat)(r o:Array Nat):Prop where
 my:dV s o
 be:∀j,j<Sp->o[j]?=r[j]?
 a6:∀q,br SJ o q=br SJ r q
def mc.rev{Sp:Nat}{r:Array Nat}(Sv:mc SJ s Sp r o){j B:Nat}(Sq:Sp<=j)(c:B<=s)(a:∀q,j<=q->q<B->br SJ r q=br SJ r j):mc SJ s Sp r (l9 o j B):=
 ⟨Sv.my.rev j B,λq e=>by rw[uJ Sv.my c,aT ⋯];exact Sv.be q e,λq=>by
  rw[KQ Sv.my c (λq d b=>by rw[Sv.a6,Sv.a6];exact a q d b)];exact Sv.a6 q⟩
theorem z9{x:Nat->Int}{d b:Nat}(c:∀B,d+1<=B->B<b->x B=x (B-1)):∀p,d+p<b->x (d+p)=x d
 |0,_=>rfl
 |p+1,hd=>(c (d+(p+1)) ⋯ hd).trans (z9 c p ⋯)
def F3(k:jx s SJ (h2 Su l O SV it) m){Sp b:Nat}(v:Sp+b<=s){o:Array Nat}{h:eS}{d:Nat}(p:dV s o)(Sr:gf SV it n h o)(w:1<=d)(x:d<=b)(q:∀B,Sp+1<=B->B<Sp+d->br SJ o (B-1)<=br SJ o B):
   kasC (aQ Su l) O Sn (forIn [d:b] ((Y:Option (Option Nat)),d) λf g=>n2 (Sp+g.2) (Sp+g.2-1) >>= λu=>match u with
    |some r=>if r=V then pure (ForInStep.done (Y,g.2)) else pure (ForInStep.yield (Y,g.2+1))
    |f=>pure<|ForInStep.done (Z Y,g.2))
    (λg c Ss=>m=Ss/\h=c/\∃M,g=(Y,M)/\d<=M/\M<=b/\(∀B,Sp+1<=B->B<Sp+M->br SJ o (B-1)<=br SJ o B)/\(M=b\/br SJ o (Sp+M)<br SJ o (Sp+M-1))) h m:=by
 refine nF (rK (λf g c Ss=>m=Ss/\h=c/\g=(Y,f)/\d<=f/\∀B,Sp+1<=B->B<Sp+f->br SJ o (B-1)<=br SJ o B) b ?_ _ _ _ _ _ ⋯ ?_ ⟨rfl,rfl,rfl,bq _,q⟩)
 ·rintro f g c Ss y ⟨rfl,rfl,rfl,j,e⟩;dsimp only;refine d0 (q0 k p ⋯ ⋯ Sr ?_);dsimp only;by_cases i:br SJ o (Sp+f)<br SJ o (Sp+f-1)
  ·rw[aN ⇑i];exact eZ ⟨rfl,rfl,f,rfl,j,⋯,e,.inr i⟩
  ·rw[aT ⇑i];refine eZ ⟨rfl,rfl,rfl,⋯,λB t z=>?_⟩;by_cases a:B=Sp+f
   ·subst a;lia
   ·exact e B t ⋯
 ·rintro g c Ss ⟨rfl,rfl,rfl,j,e⟩;rw[show d+(b-d)=b by lia]at e ⊢;exact⟨rfl,rfl,b,rfl,⋯,bq _,e,.inl rfl⟩
def uR(Sp a M:Nat): StateT eS fx (Option Nat):=(p2 Sp (Sp+M) >>= λ_ => (forIn [M:a] ((Y:Option (Option Nat)),M) λf g => n2 (Sp+g.2) (Sp+g.2-1) >>= λu => match u with
    |some b => if b=V then pure (ForInStep.done (Y,g.2)) else pure (ForInStep.yield (Y,g.2+1))
    |f => pure<|ForInStep.done (Z Y,g.2)) >>= λg => match g.1 with
    |some u => pure u
    |none => pure (Z g.2))
def BG(Sp f:Nat)(g:Option (Option Nat)×Nat×Nat):StateT eS fx (ForInStep<|Option (Option Nat)×Nat×Nat):=(n2 (Sp+g.2.1) (Sp+g.2.1-1) >>= λu=>match u with
 |some a=>if a=V then (if g.2.2>0 then p2 (Sp+g.2.1-(g.2.2+1)) (Sp+g.2.1) >>= λ_=>pure (.yield (Y,g.2.1+1,0)) else pure (.yield (Y,g.2.1+1,0)))
  else n2 (Sp+g.2.1-1) (Sp+g.2.1) >>= λu=>match u with
   |some b=>if b=V then pure (.done (Y,g.2.1,g.2.2)) else pure (.yield (Y,g.2.1+1,g.2.2+1))
   |f=>pure (.done (Z Y,g.2.1,g.2.2))
 |f=>pure (.done (Z Y,g.2.1,g.2.2)))
def vs(Sp a M:Nat):StateT eS fx (Option Nat):=(liftM (PySem.rule "list.sort.descending-run") >>= λ_=>forIn [M+1:a] ((Y:Option (Option Nat)),M+1,0) (BG Sp) >>= λg=>match g.1 with
 |some u=>pure u
 |none=>if g.2.2>0 then p2 (Sp+g.2.1-(g.2.2+1)) (Sp+g.2.1) >>= λ_=>uR Sp a g.2.1 else uR Sp a g.2.1)
def C1(i:jx s SJ (h2 Su l O SV it) m){Sp e M:Nat}(k:Sp+e<=s){r o:Array Nat}{z:eS}(Sv:mc SJ s Sp r o)(h:gf SV it n z o)(p:1<=M)(q:M<=e)(t:∀B,Sp+1<=B->B<Sp+M->br SJ r B<=br SJ r (B-1)){E:Option Nat->eS->av->Prop}(c:∀M a f,1<=M->M<=e->dV s a->gf SV it n f a->(∀j,j<Sp->a[j]?=r[j]?)->(∀B,Sp+1<=B->B<Sp+M->br SJ a (B-1)<=br SJ a B)->E (Z M) f m):kasC (aQ Su l) O Sn (uR Sp e M) E z m:=by
 unfold uR;refine d0 (tK h λx SK=>?_);have N:=uJ Sv.my (j:=Sp) (B:=Sp+M) ⋯;have a6:∀j,Sp<=j->j<Sp+M->br SJ (l9 o Sp<|Sp+M) j=br SJ r (Sp+(Sp+M)-1-j):=λj d b=>(px (by rw[N,aN ⟨d,b⟩])).trans (Sv.a6 _);refine d0 (qQ (F3 i k (Sv.my.rev Sp<|Sp+M) SK p q λB y A=>?_) ?_)
 ·rw[a6 _ ⋯ ⋯,a6 _ ⋯ ⋯];have:=t (Sp+(Sp+M)-1-(B-1)) ⋯ ⋯;rw[show Sp+(Sp+M)-1-(B-1)-1=Sp+(Sp+M)-1-B by lia]at this;exact this
 ·rintro g f Ss ⟨rfl,rfl,u,rfl,C,v,w,D⟩;dsimp only;exact eZ (c u _ _ ⋯ v (Sv.my.rev Sp<|Sp+M) SK (λj Sq=>by rw[N,aT ⋯];exact Sv.be j Sq) w)
def FH(C:jx s SJ (h2 Su l O SV it) m){Sp k M:Nat}(G:Sp+k<=s){r o:Array Nat}{z:eS}(Sv:mc SJ s Sp r o)(h:gf SV it n z o)(T:1<=M)(U:M<k)(N:∀B,Sp+1<=B->B<Sp+(M+1)->br SJ r B<=br SJ r (B-1)){E:Option Nat->eS->av->Prop}(c:∀M y t,1<=M->M<=k->dV s y->gf SV it n t y->(∀j,j<Sp->y[j]?=r[j]?)->(∀B,Sp+1<=B->B<Sp+M->br SJ y (B-1)<=br SJ y B)->E (Z M) t m):kasC (aQ Su l) O Sn (vs Sp k M) E z m:=by
 have aO:∀{f p:Nat},p+1<=f->(∀B,Sp+f-p<=B->B<Sp+f->br SJ r B=br SJ r (B-1))->∀q,Sp+f-(p+1)<=q->q<Sp+f->br SJ r q=br SJ r (Sp+f-(p+1)):=λ{f p} hd a q d b=>by
  have:=z9 (x:=br SJ r) (d:=Sp+f-(p+1)) (b:=Sp+f) (λB f A=>a B ⋯ A) (q-(Sp+f-(p+1))) ⋯
  rwa [show Sp+f-(p+1)+(q-(Sp+f-(p+1)))=q by lia]at this
 unfold vs;refine d0 (xb<|lM ?_);refine d0 (qQ (b:=λg t Ss=>m=Ss/\∃i f p,g=(Y,f,p)/\gf SV it n t i/\mc SJ s Sp r i/\M+1<=f/\f<=k/\p+1<=f/\(∀B,Sp+1<=B->B<Sp+f->br SJ r B<=br SJ r (B-1))/\∀B,Sp+f-p<=B->B<Sp+f->br SJ r B=br SJ r (B-1))
  (nF (rK (λf g t Ss=>m=Ss/\∃i p,g=(Y,f,p)/\gf SV it n t i/\mc SJ s Sp r i/\M+1<=f/\p+1<=f/\(∀B,Sp+1<=B->B<Sp+f->br SJ r B<=br SJ r (B-1))/\∀B,Sp+f-p<=B->B<Sp+f->br SJ r B=br SJ r (B-1)) k ?Te _ _ _ _ _ ⋯ ?Tf ⟨rfl,o,0,rfl,h,Sv,bq _,⋯,N,λB d b=>⋯⟩)) ?Q)
 case Te=>
  rintro f g t Ss am ⟨rfl,i,p,rfl,P,e,D,w,u,v⟩;unfold BG;dsimp only;refine d0 (q0 C e.my ⋯ ⋯ P ?_);dsimp only;rw[e.a6,e.a6];by_cases H:br SJ r (Sp+f)<br SJ r (Sp+f-1)
  ·rw[aN ⇑H];have I:∀B,Sp+1<=B->B<Sp+(f+1)->br SJ r B<=br SJ r (B-1):=λB F R=>by
    by_cases a:B=Sp+f
    ·subst a;lia
    ·exact u B F ⋯
   by_cases hd:p>0
   ·rw[aN hd];refine d0 (tK P λS SK=>?_);exact eZ ⟨rfl,_,0,rfl,SK,e.rev ⋯ ⋯<|aO w v,⋯,⋯,I,λB d b=>⋯⟩
   ·rw[aT hd];exact eZ ⟨rfl,i,0,rfl,P,e,⋯,⋯,I,λB d b=>⋯⟩
  ·rw[aT ⇑H];refine d0 (q0 C e.my ⋯ ⋯ P ?_);dsimp only;rw[e.a6,e.a6];by_cases J:br SJ r (Sp+f-1)<br SJ r (Sp+f)
   ·rw[aN ⇑J];exact eZ ⟨rfl,i,f,p,rfl,P,e,D,⋯,w,u,v⟩
   ·rw[aT ⇑J];refine eZ ⟨rfl,i,p+1,rfl,P,e,⋯,⋯,λB F R=>?_,λB d b=>?_⟩
    ·by_cases a:B=Sp+f
     ·subst a;lia
     ·exact u B F ⋯
    ·by_cases a:B=Sp+f
     ·subst a;lia
     ·exact v B ⋯ ⋯
 case Tf=>
  rintro g t Ss ⟨rfl,i,p,rfl,P,e,D,w,u,v⟩;rw[show M+1+(k-(M+1))=k by lia] at *;exact⟨rfl,i,k,p,rfl,P,e,D,bq _,w,u,v⟩
 case Q=>
  rintro g t Ss ⟨rfl,i,f,p,rfl,P,e,D,L,w,u,v⟩;dsimp only;by_cases hd:p>0
  ·rw[aN hd];refine d0 (tK P λS SK=>?_);exact C1 C G (e.rev ⋯ ⋯<|aO w v) SK ⋯ L u c
  ·rw[aT hd];exact C1 C G e P ⋯ L u c
def D0(Sp a:Nat): StateT eS fx (Option Nat):=((forIn [1:a] ((Y:Option (Option Nat)),1) λf g => n2 (Sp+g.2) (Sp+g.2-1) >>= λu => match u with
    |some b => if b=V then pure (ForInStep.done (Y,g.2)) else pure (ForInStep.yield (Y,g.2+1))
    |f => pure<|ForInStep.done (Z Y,g.2)) >>= λg => match g.1 with
    |some u => pure u
    |none => if (g.2==a)=V then pure (Z g.2) else if g.2>1 then n2 Sp (Sp+g.2-1) >>= λu => match u with
      |some c => if c=V then pure (Z g.2) else p2 Sp (Sp+g.2) >>= λ_ => vs Sp a g.2
      |f => pure Y
      else vs Sp a g.2)
def PN(Sp a:Nat):countRun' Sp a=D0 Sp a:=by
 kernel_rfl
def JG(k:jx s SJ (h2 Su l O SV it) m){r:Array Nat}(e:dV s r){Sp f:Nat}(t:1<=f)(u:Sp+f<=s){z:eS}(h:gf SV it n z r){E:Option Nat->eS->av->Prop}(c:∀M i v,1<=M->M<=f->dV s i->gf SV it n v i->(∀j,j<Sp->i[j]?=r[j]?)->(∀B,Sp+1<=B->B<Sp+M->br SJ i (B-1)<=br SJ i B)->E (Z M) v m):
  kasC (aQ Su l) O Sn (countRun' Sp f) E z m:=by
 rw[PN];unfold D0;have A:mc SJ s Sp r r:=⟨e,λ_ X=>rfl,λ_=>rfl⟩;refine d0 (qQ (F3 k u e h (bq _) t λB d b=>⋯) ?_);rintro g v Ss ⟨rfl,rfl,M,rfl,w,C,o,G⟩;dsimp only;by_cases a:M=f
 ·rw[aN ⇑a];exact eZ (c M r _ w C e h (λ_ X=>rfl) o)
 rw[aT ⇑a];have H:br SJ r (Sp+M)<br SJ r (Sp+M-1):=G.resolve_left a;by_cases D:M>1
 ·rw[aN D];refine d0 (q0 k e ⋯ ⋯ h ?_);dsimp only;by_cases F:br SJ r Sp<br SJ r (Sp+M-1)
  ·rw[aN ⇑F];exact eZ (c M r _ w C e h (λ_ X=>rfl) o)
  ·rw[aT ⇑F];have up:∀p,p<M->br SJ r Sp<=br SJ r (Sp+p)/\br SJ r (Sp+p)<=br SJ r (Sp+M-1):=by
    have I:∀p,p<M->br SJ r Sp<=br SJ r (Sp+p):=λp=>by
     induction p with
     |zero=>intro X;exact jJ _
     |succ p x=>
      intro hd;have d:=o (Sp+(p+1)) ⋯ ⋯;rw[show Sp+(p+1)-1=Sp+p by lia]at d;have:=x ⋯;lia
    have J:∀p,p<M->br SJ r (Sp+M-1-p)<=br SJ r (Sp+M-1):=λp=>by
     induction p with
     |zero=>intro X;exact jJ _
     |succ p x=>
      intro hd;have d:=o (Sp+M-1-p) ⋯ ⋯;rw[show Sp+M-1-p-1=Sp+M-1-(p+1) by lia]at d;have:=x ⋯;lia
    intro p hd;refine⟨I p hd,?_⟩;have:=J (M-1-p) ⋯
    rwa [show Sp+M-1-(M-1-p)=Sp+p by lia]at this
   have y:∀q,Sp<=q->q<Sp+M->br SJ r q=br SJ r Sp:=λq d b=>by
    have:=up (q-Sp) ⋯;rw[show Sp+(q-Sp)=q by lia]at this;lia
   refine d0 (tK h λP SK=>?_);exact FH (r:=r) k u (A.rev (bq _) ⋯ y) SK w ⋯ (λB L N=>by
    by_cases a:B=Sp+M
    ·subst a;lia
    ·rw[y B ⋯ ⋯,y (B-1) ⋯ ⋯];exact jJ _) c
 rw[aT D];obtain rfl:M=1:=⋯
 exact FH (r:=r) k u A h (bq _) ⋯ (λB L N=>by
  obtain rfl:B=Sp+1:=⋯
  exact uq H) c
end
section
variable{Su:bl}{l:a8}{O:bp}{Sn:ae->av->Prop}{SV:gd}{it:Array il}{SJ:Nat->Int}{s:Nat}{m:av}{n:Array (Nat×Nat×Nat)}
def Sj{aE:ik}{O:bp}{Sn:ae->av->Prop}{y S0:Type}{g:Nat->Prop}{b:∀M,Decidable (g M)}{e Tr:Nat->StateT y fx S0}{E:S0->y->av->Prop}{m:av}(S:Nat->y->Prop)(h:∀M z,S M z->kasC aE O Sn (Tr M) E z m)(a:(∀M z,S M z->kasC aE O Sn (Tr M) E z m)->∀M z,g M->S M z->kasC aE O Sn (e M) E z m):∀M z,S M z->kasC aE O Sn (if g M then e M else Tr M) E z m:=λM z r=>
 if c:g M then by rw[aN c];exact a h M z c r else by rw[aT c];exact h M z r
end
end L2
namespace L2
open Spec PyProof.Rows
section
variable{e:aK}{G:List (af×aW)}{y:aS}{h:ax}{m:av}{T:a0}
variable{TH:List af}{S4:Nat}
def aG.Jd{F:af}{w:List aj}(i:aG e G y h m)(f:∀b∈TH,jK e G h b)(q:∀b n,b∉TH->m.heap.get? b=Z n->T.get? b=Z n)(k:m.heap.objs.size<=F)(new:eC e.prog e.w (upd h F<|.tup w) T F (.tup w)):aG e G y (upd h F<|.tup w) {m with heap:=T,toks:=S4}:=by
 have j:h F=Y:=i.aR.fresh k;have t:∀b n,m.heap.get? b=Z n->b≠F:=λb n a=>dJ (eK (b9 a) k);have p:∀b J,h b=Z J->b∉TH:=λb J a z=>by rw[(f b z).1]at a;cases a
 refine i.step (D:=m.gens) (R:=m.drawn) (TH:=TH) (λb g=>⟨(f b g).2.2.2.1,(f b g).2.1,(f b g).2.2.2.2.1,(f b g).2.2.2.2.2⟩) (λb n X X c a X=>q b n c a) (λb n X X c a X=>⟨n.slots,q b n c a⟩)
  (λb n X a s=>by rw[cP (t b n a)];exact s) (λb n c a=>⟨n,q b n c a⟩) (λb n X c a X=>q b n c a) (λb SE a=>by rw[cP (hg a j)];exact a) (λb n J a=>by rw[cP (hg a j)];exact a)
  (λb SA a=>⟨#[],by rw[cP (hg a j),a];simp⟩) (λM v=>?_) (λd n a=>?_) i.bare
 ·let⟨n,Sl,@U,x,u⟩:=v;exact⟨n,Sl,U,q _ n (λz=>(f _ z).2.1 rfl) x,u⟩
 ·by_cases r:d=F
  ·subst r;rw[eF]at a;cases a;exact new
  ·rw[cP r]at a;refine (i.aR d n a).f7 (λb J g o=>q b J ?_ o) (λb o=>by rw[cP (hg o j)];exact o) λb SE o=>by rw[cP (hg o j)];exact o
   rcases g with z|z
   ·rw[z];exact p d n a
   ·exact p b _ z
def aG.Pu(i:aG e G y h m)(f:∀b∈TH,jK e G h b)(q:∀b n,b∉TH->m.heap.get? b=Z n->T.get? b=Z n):aG e G y h {m with heap:=T,toks:=S4}:=by
 have j:∀b J,h b=Z J->b∉TH:=λb J a z=>by rw[(f b z).1]at a;cases a
 refine i.step (D:=m.gens) (R:=m.drawn) (TH:=TH) (λb g=>⟨(f b g).2.2.2.1,(f b g).2.1,(f b g).2.2.2.2.1,(f b g).2.2.2.2.2⟩) (λb n X X c a X=>q b n c a) (λb n X X c a X=>⟨n.slots,q b n c a⟩)
  (λb n X X s=>s) (λb n c a=>⟨n,q b n c a⟩) (λb n X c a X=>q b n c a) (λb SE a=>a) (λb n J a=>a) (λb SA a=>⟨#[],by rw[a];simp⟩) (λM k=>?_) (λd n a=>?_) i.bare
 ·let⟨n,Sl,@U,l,u⟩:=k;exact⟨n,Sl,U,q _ n (λz=>(f _ z).2.1 rfl) l,u⟩
 ·refine (i.aR d n a).f7 (λb J g o=>q b J ?_ o) (λb o=>o) λb SE o=>o;rcases g with z|z
  ·rw[z];exact j d n a
  ·exact j b _ z
end
section
variable{Su:bl}{l:a8}{O:bp}{Sn:ae->av->Prop}{m:av}
variable{j:Nat}{SM:Array ae}{E:ae->av->Prop}
def vy{it I:af}{f:ae}(c:m.heap.IsTupleIter it I j)(e:m.heap.IsTuple I SM)(g:SM[j]?=Z f)(o:∀T,T.IsTupleIter it I (j+1)->a0.SameBut it m.heap T->E f {m with heap:=T}):wpAny (aQ Su l) O (bk.SmallTypes.nextOf<|.ref it) E Sn m:=by
 let⟨@n,b,h,a⟩:=id c;let⟨@ol,g1,X,⟨@k,i⟩⟩:=e;unfold bk.SmallTypes.nextOf;refine aD (lU (name:=aC.ofString "__next__") c.typeIs va<|i_ va c.typeIs BL ?d<|GK _)
 case d=>
  show wpAny _ _ (mV (.ref it) 0 >>= _) _ _ m;refine aD (hM b a (x:=.ref I) rfl ?_);show wpAny _ _ (if (ae.ref I==ae.none)=V then _ else _) _ _ m;rw[aT (show ¬ (ae.ref I==ae.none)=V by intro d;cases d)];show wpAny _ _ (mV (.ref it) 1 >>= _) _ _ m;refine aD (hM b a (x:=.int j 0) rfl ?_);show wpAny _ _ (qX (.ref I) >>= _) _ _ m;refine aD (iL g1 i ?_);simp only[qj,g];refine aD (sz b a ↥0 (a7 ⟨f,rfl,a7 (o _ ⟨_,rm _ b<|FF<|uk a _,(Co ..).trans h,by rw[uk a];simp[kk]⟩<|vn ..)⟩))
def AY{it I:af}(h:O.handled=Y)(b:m.heap.IsTupleIter it I j)(i:m.heap.IsTuple I SM)(k:SM[j]?=Y)(o:∀T a,a0.ExtBut it m.heap T->(∃n,T.get? a=Z n/\n.cls=.type "StopIteration")->Sn (.ref a) {m with heap:=T}):wpAny (aQ Su l) O (bk.SmallTypes.nextOf<|.ref it) E Sn m:=by
 let⟨@n,c,q,e⟩:=id b;let⟨@ol,g1,X,⟨@r,p⟩⟩:=i;unfold bk.SmallTypes.nextOf;refine aD (lU (name:=aC.ofString "__next__") b.typeIs va<|i_ va b.typeIs BL ?g<|GK _)
 case g=>
  show wpAny _ _ (mV (.ref it) 0 >>= _) _ _ m;refine aD (hM c e (x:=.ref I) rfl ?_);show wpAny _ _ (if (ae.ref I==ae.none)=V then _ else _) _ _ m;rw[aT (show ¬ (ae.ref I==ae.none)=V by intro g;cases g)];show wpAny _ _ (mV (.ref it) 1 >>= _) _ _ m;refine aD (hM c e (x:=.int j 0) rfl ?_);show wpAny _ _ (qX (.ref I) >>= _) _ _ m;refine aD (iL g1 p ?_);simp only[qj,k];refine aD (lM (aD (sz c e ↥0 ?_)));show wpAny _ _ (t6 (.type "StopIteration") [] >>= _) _ _ _;apply aD;simp only[t6,wR];refine aD (h9 (aD (m:=sN _ _) (uU (a:=ae.none) (by first|rfl|(simp only[sN];rfl)) (h9 ?_ (by size_fits)))) (by size_fits));simp only[raiseNew];apply aD;apply Em;rw[show O.in1.handled=Y from h];refine aD (m:=pure _) (a7<|wpAny_throw ?_);exact o _ _ (((vn ..).extBut.push _).push _) ⟨_,dH _ rfl,rfl⟩
end
section
variable{Su:bl}{l:a8}{O:bp}{Sn:ae->av->Prop}{m:av}
variable{c T:a0}{d:af}
def iM{I:af}{j:Nat}(f:c.IsTupleIter d I j)(q:∀n,c.get? d=Z n->T.get? d=Z n):T.IsTupleIter d I j:=let ⟨n,a,u⟩:=f;⟨n,q n a,u⟩
variable{w:Array ae}
def pa(f:c.IsTuple d w)(q:∀n,c.get? d=Z n->T.get? d=Z n):T.IsTuple d w:=let ⟨n,a,u⟩:=f;⟨n,q n a,u⟩
variable{d b:ae}{S1 S6:Nat}{SE:Array ae}
def Hq{c c6 cQ h i bg bx:af}{f A:ae}{E:ae->av->Prop}(k:tH c c6 cQ h i bg bx)(r:jb m.heap c c6 cQ .none)(U:hY m.heap c6 (.ref h) (.ref i))(al:hY m.heap cQ d b)(t:m.heap.IsTupleIter h bg S1)(D:m.heap.IsTupleIter i bx S6)(am:m.heap.IsTuple bg w)(an:m.heap.IsTuple bx SE)(ap:w[S1]?=Z f)(as:SE[S6]?=Z A)(a1:∀T,jb T c c6 cQ (kk m.heap.objs.size)->hY T cQ f A->T.IsTupleIter h bg (S1+1)->T.IsTupleIter i bx (S6+1)->hY T m.heap.objs.size f A->
   (∀g n,g≠c->g≠cQ->g≠h->g≠i->m.heap.get? g=Z n->T.get? g=Z n)->E (.ref m.heap.objs.size) {m with heap:=T}):
  wpAny (aQ Su l) O (bk.«zip.__next__» ⟨[.ref c],[]⟩) (λfin Ss=>∃v,fin=.done (.ret v)/\E v Ss) Sn m:=by
 show wpAny _ _ (mV (.ref c) 2 >>= _) _ _ _;refine aD (hM r rfl (x:=.bool aq) rfl ?_);show wpAny _ _ (mV (.ref c) 3 >>= _) _ _ _;refine aD (hM r rfl (x:=.ref c6) rfl<|aD<|iL U rfl ?_);show wpAny _ _ (bk.SmallTypes.ownedTupleIsFree (.ref c) >>= _) _ _ _;apply aD;unfold bk.SmallTypes.ownedTupleIsFree;refine aD (hM r rfl (x:=.none) rfl<|a7 ?_);simp only[je];refine aD (lM (aD (hM r rfl (x:=.ref cQ) rfl (aD (o1 r ↥0 λJ B j=>?_)))));replace B:jb J c c6 cQ .ellipsis:=B;apply aD;simp only[EZ,zB,sI,BF];refine aD (aD<|ts ?_);show wpAny _ _ (bk.SmallTypes.nextOf (.ref h) >>= _) _ _ _;refine aD (vy (m:={m with heap:=J}) (iM t λn a=>j.extBut _ n k.i1z a) (pa am λn a=>j.extBut _ n k.l1z a) ap λC a2 p=>a7 ?_);have Tp:hY C cQ d b:=p.extBut _ _ k.TOi1 (j.extBut _ _ k.TOz al);refine aD (iL (s:={m with heap:=C}) Tp rfl<|aD<|xM (s:={m with heap:=C}) Tp λL Tj q=>?_);replace Tj:hY L cQ f b:=Tj;refine aD (mx<|a7<|aD<|aD<|ts ?_);show wpAny _ _ (bk.SmallTypes.nextOf (.ref i) >>= _) _ _ _;refine aD (vy (m:={m with heap:=L}) (iM D λn a=>q.extBut _ n k.TOi2.symm<|p.extBut _ n k.i12.symm<|j.extBut _ n k.i2z a) (pa an λn a=>q.extBut _ n k.l2TO<|p.extBut _ n k.l2i1<|j.extBut _ n k.l2z a) as λF bd s=>a7 ?_);have S8:hY F cQ f b:=s.extBut _ _ k.TOi2 Tj;refine aD (iL (s:={m with heap:=F}) S8 rfl<|aD<|xM (s:={m with heap:=F}) S8 λe Td u=>?_);replace Td:hY e cQ f A:=Td;refine aD (mx<|a7<|a7<|aD<|iL (s:={m with heap:=e}) Td rfl<|aD<|FG ?_);have M:e.objs.size=m.heap.objs.size:=by rw[u.1,s.1,q.1,p.1,j.1]
 have N:jb e c c6 cQ .ellipsis:=u.extBut _ _ k.TOz.symm (s.extBut _ _ k.i2z.symm<|q.extBut _ _ k.TOz.symm<|p.extBut _ _ k.i1z.symm B);have be:∀g n,g≠c->g≠cQ->g≠h->g≠i->m.heap.get? g=Z n->e.get? g=Z n:=λg n o x G H a=>u.extBut _ _ x (s.extBut _ _ H<|q.extBut _ _ x<|p.extBut _ _ G<|j.extBut _ _ o a);have dE:e.IsTupleIter h bg (S1+1):=iM a2 λn a=>u.extBut _ n k.TOi1.symm (s.extBut _ n k.i12<|q.extBut _ n k.TOi1.symm a);have cE:e.IsTupleIter i bx (S6+1):=iM bd λn a=>u.extBut _ n k.TOi2.symm a;have P:c<e.objs.size:=b9 N;show wpAny _ _ (bk.SmallTypes.ownedTupleHandOut (.ref c) (.ref e.objs.size) >>= _) _ _ _;apply aD;unfold bk.SmallTypes.ownedTupleHandOut;have bi:jb (e.push {cls:=.type "tuple",data:=.seq #[f,A]}) c c6 cQ .ellipsis:=cw _ N;refine aD (o1 bi ↥0 λbm I Q=>?_);replace I:jb bm c c6 cQ (kk e.objs.size):=I;refine o1 I ↥0 λy z R=>?_;replace z:jb y c c6 cQ (kk e.objs.size):=z;have up:∀g n,g≠c->e.get? g=Z n->y.get? g=Z n:=λg n o a=>R.extBut _ _ o (Q.extBut _ _ o<|cw _ a);have S:hY y e.objs.size f A:=R.extBut _ _ (k2 P) (Q.extBut _ _ (k2 P)<|dH _ rfl);rw[M]at z S;refine a7 ⟨_,rfl,?_⟩;show E (.ref e.objs.size) _;rw[M];exact a1 y z (up _ _ k.TOz Td) (iM dE λn a=>up _ n k.i1z a) (iM cE λn a=>up _ n k.i2z a) S λg n o x G H a=>up g n o (be g n o x G H a)
def Hn{e c6 cQ q r bg bx:af}{E:PySem.Fin->av->Prop}(H:O.handled=Y)(k:tH e c6 cQ q r bg bx)(s:jb m.heap e c6 cQ .none)(Q:hY m.heap c6 (.ref q) (.ref r))(R:hY m.heap cQ d b)(t:m.heap.IsTupleIter q bg S1)(D:m.heap.IsTupleIter r bx S6)(I:m.heap.IsTuple bg w)(S:m.heap.IsTuple bx SE)(U:w[S1]?=Y\/SE[S6]?=Y)(J:∀T a,(∀g n,g≠e->g≠cQ->g≠q->g≠r->m.heap.get? g=Z n->T.get? g=Z n)->(∃n,T.get? a=Z n/\n.cls=.type "StopIteration")->Sn (.ref a) {m with heap:=T}):
  wpAny (aQ Su l) O (bk.«zip.__next__» ⟨[.ref e],[]⟩) E Sn m:=by
 show wpAny _ _ (mV (.ref e) 2 >>= _) _ _ _;refine aD (hM s rfl (x:=.bool aq) rfl ?_);show wpAny _ _ (mV (.ref e) 3 >>= _) _ _ _;refine aD (hM s rfl (x:=.ref c6) rfl<|aD<|iL Q rfl ?_);show wpAny _ _ (bk.SmallTypes.ownedTupleIsFree (.ref e) >>= _) _ _ _;apply aD;unfold bk.SmallTypes.ownedTupleIsFree;refine aD (hM s rfl (x:=.none) rfl<|a7 ?_);simp only[je];refine aD (lM (aD (hM s rfl (x:=.ref cQ) rfl (aD (o1 s ↥0 λz y h=>?_)))));replace y:jb z e c6 cQ .ellipsis:=y;apply aD;simp only[EZ,zB,sI,BF];refine aD (aD<|ts ?_);show wpAny _ _ (bk.SmallTypes.nextOf (.ref q) >>= _) _ _ _;cases A:w[S1]? with
 |none=>
  refine aD (AY (m:={m with heap:=z}) H (iM t λn a=>h.extBut _ n k.i1z a) (pa I λn a=>h.extBut _ n k.l1z a) A λu a i B=>?_);let⟨@S9,j,v⟩:=B;have L:jb u e c6 cQ .ellipsis:=i _ _ k.i1z.symm y;have C:a≠e:=λo=>by subst o;rw[L]at j;cases j;simp at v
  refine o1 L ↥0 λF X p=>J F a (λg n x X G X o=>p.extBut _ _ x<|i _ _ G<|h.extBut _ _ x o) ⟨S9,p.extBut _ _ C j,v⟩
 |some f=>
  have al:SE[S6]?=Y:=by
   rcases U with c|c
   ·rw[A]at c;cases c
   ·exact c
  refine aD (vy (m:={m with heap:=z}) (iM t λn a=>h.extBut _ n k.i1z a) (pa I λn a=>h.extBut _ n k.l1z a) A λu a1 i=>a7 ?_);have Tp:hY u cQ d b:=i.extBut _ _ k.TOi1 (h.extBut _ _ k.TOz R);refine aD (iL (s:={m with heap:=u}) Tp rfl<|aD<|xM (s:={m with heap:=u}) Tp λF Tj p=>?_);refine aD (mx<|a7<|aD<|aD<|ts ?_);show wpAny _ _ (bk.SmallTypes.nextOf (.ref r) >>= _) _ _ _;refine aD (AY (m:={m with heap:=F}) H (iM D λn a=>p.extBut _ n k.TOi2.symm<|i.extBut _ n k.i12.symm<|h.extBut _ n k.i2z a) (pa S λn a=>p.extBut _ n k.l2TO<|i.extBut _ n k.l2i1<|h.extBut _ n k.l2z a) al λam a M B=>?_);let⟨@S9,j,v⟩:=B;have N:jb am e c6 cQ .ellipsis:=M _ _ k.i2z.symm (p.extBut _ _ k.TOz.symm<|i.extBut _ _ k.i1z.symm y);have C:a≠e:=λo=>by subst o;rw[N]at j;cases j;simp at v
  refine o1 N ↥0 λan X P=>J an a (λg n x ap G as o=>P.extBut _ _ x<|M _ _ as<|p.extBut _ _ ap<|i.extBut _ _ G<|h.extBut _ _ x o) ⟨S9,P.extBut _ _ C j,v⟩
end
variable{m:av}{Tg:b0}{SX Tn SR:List Nat}{own SA:List aC}{TA SY g a b d:a_}{TR:List bQ}{Sn:lS}{z:bQ}{TU y:aS}{fd:f3}{s T3:Nat}{R w:List aj}{C:List ab}{az SQ O Sm SU SI SW U L:List af}{E:cu}{f:aC}{u Sl:List a_}{S4:er}{e:aK}{SK Sr P h:ax}{v:aj}{r SD:cn}{Q:Φ}
def jU(c:a0)(bg bx:af):a0:=(((((c.push {cls:=.type "tuple_iterator",data:=.fields #[.ref bg,.int 0 0]}).push {cls:=.type "tuple_iterator",data:=.fields #[.ref bx,.int 0 0]}).push
 {cls:=.type "tuple",data:=.seq #[.ref c.objs.size,.ref (c.push {cls:=.type "tuple_iterator",data:=.fields #[.ref bg,.int 0 0]}).objs.size]}).push {cls:=.type "tuple",data:=.seq #[.none,.none]}))
def Ph(bg bx:af)(w SE:Array ae):
    Meets (bk.«zip.__new__» ⟨[.type "zip", .ref bg,.ref bx],[]⟩) (λ_ Sm m => m.heap.IsTuple bg w /\ m.heap.IsTuple bx SE /\
      Sm (.ok<|.ret<|.ref (jU m.heap bg bx).objs.size) {m with heap:=(jU m.heap bg bx).push {cls:=.type "zip", data:=.fields #[.none,.bool aq,.bool aq,.ref ((m.heap.push {cls:=.type "tuple_iterator", data:=.fields #[.ref bg,.int 0 0]}).push {cls:=.type "tuple_iterator", data:=.fields #[.ref bx,.int 0 0]}).objs.size,
        .ref (((m.heap.push {cls:=.type "tuple_iterator", data:=.fields #[.ref bg,.int 0 0]}).push {cls:=.type "tuple_iterator", data:=.fields #[.ref bx,.int 0 0]}).push
  {cls:=.type "tuple", data:=.seq #[.ref m.heap.objs.size,.ref (m.heap.push {cls:=.type "tuple_iterator", data:=.fields #[.ref bg,.int 0 0]}).objs.size]}).objs.size]} }) :=
  .of_wp λSu l O Sm m c => by
    let⟨b,N,p,bt,Sy⟩:=m;let@⟨d,e,c⟩:=c;have h:=sub_zip;have f:a0.IsTuple (av.heap ⟨b,N,p,bt,Sy⟩) bg w:=d;have g:a0.IsTuple (av.heap ⟨b.push {cls:=.type "tuple_iterator", data:=.fields #[.ref bg,.int 0 0]}, N,p,bt,Sy⟩) bx SE:=pa e λn a => cw _ a
    wp_walk using wpAny_pyIter_tuple f,wpAny_pyIter_tuple g
    exact ⟨_,rfl,c⟩
def u4(Q:Φ)(d b:af):e5:=(
 ⟨λj h=>∃w SE f A,ck Q h d w/\ck Q h b SE/\w[j]?=Z f/\SE[j]?=Z A,
  λj h v P=>∃F f A,h F=Y/\v=.ref F/\P=upd h F (.tup [f,A])/\(∀w,ck Q h d w->w[j]?=Z f)/\(∀SE,ck Q h b SE->SE[j]?=Z A),
  λj h=>∃w SE,ck Q h d w/\ck Q h b SE/\(w.length<=j\/SE.length<=j)⟩)
def Ej(d b f c6 cQ a e:af)(j:Nat)(c:a0):Prop:=(jb c f c6 cQ .none/\hY c c6 (.ref a) (.ref e)/\(∃r o,hY c cQ r o)/\c.IsTupleIter a d j/\c.IsTupleIter e b j)
theorem QQ{S:bl}{l:a8}(d b s c6 cQ B C:af)(k:tH s c6 cQ B C d b):
  pW S l Q (.Tuple Sl T3 SD) (u4 Q d b) [s,c6,cQ,B,C] s (Ej d b s c6 cQ B C) where
 mem:=by simp
 obj:=λj c z g p=>by
  let@⟨t,D,⟨r,@o,x⟩,⟨@S8,an,_,cd⟩,⟨@Td,ap,_,ce⟩⟩:=z;simp only[bL,nZ,ic]at p;rcases p with rfl|rfl|rfl|rfl|rfl
  ·exact⟨_,t,λv a=>by cases a⟩
  ·exact⟨_,D,λv a=>by cases a⟩
  ·exact⟨_,x,λv a=>by cases a⟩
  ·exact⟨_,an,λv a=>by rw[cd]at a;cases a⟩
  ·exact⟨_,ap,λv a=>by rw[ce]at a;cases a⟩
 keep:=λj c T z q=>by
  let@⟨t,D,⟨r,@o,x⟩,I,L⟩:=z;exact⟨q s ↥0 _ t,q c6 ↥0 _ D,⟨r,o,q cQ ↥0 _ x⟩,iM I λn a=>q B ↥0 n a,iM L λn a=>q C ↥0 n a⟩
 item:=by
  intro e as a1 a2 p j G m y h Sn i R z bd;subst as a1 a2;let⟨w,SE,f,@A,U,al,bn,bs⟩:=bd;let⟨@Sw,be,r,M⟩:=i.tuple U;let⟨@bi,bm,Tz,ch⟩:=i.tuple al;let⟨@J,ci,cl⟩:=be.get bn;let⟨@bv,co,cr⟩:=bm.get bs;have cs:=z;let@⟨t,D,⟨iJ,@db,x⟩,I,L⟩:=z;have N:m.TypeIs (.ref s) "zip" := ⟨_,t,rfl⟩;unfold hP;refine aD (qZ (lU (name:=aC.ofString "__next__") N ud (i_ ud N zD
   (Hq (E:=λv Ss=>wpAny (aQ e.prog e.w) e.A (pure<|Z v) (λu ds=>∃J,u=Z J/\wpAny (aQ e.prog e.w) e.A (rP (.Tuple Sl T3 SD) (.ref s) J) (λ_ ca=>∃f P,aG e G y P ca/\cb f J/\(u4 e.K d b).qy j h f P/\Ej d b s c6 cQ B C (j+1) ca.heap/\∀b∈[s,c6,cQ,B,C],P b=Y) Sn ds) Sn Ss)
    k t D x I L (show m.heap.IsTuple d Sw.toArray from r) (show m.heap.IsTuple b bi.toArray from Tz) (f:=J) (A:=bv) ⇑ci ⇑co λT dL eq ev ex fd am=>a7 ⟨_,rfl,?_⟩) (z4 _))));refine wpAny_letOwnedTupleGo_zip dL λfn fr H=>?_;have lt:∀g∈[s,c6,cQ,B,C],g<m.heap.objs.size:=λg p=>by
   let@⟨t,D,⟨r,@o,x⟩,⟨@S8,an,_⟩,⟨@Td,ap,_⟩⟩:=cs;simp only[bL,nZ,ic]at p;rcases p with rfl|rfl|rfl|rfl|rfl
   ·exact b9 t
   ·exact b9 D
   ·exact b9 x
   ·exact b9 an
   ·exact b9 ap
  have dz:∀g n,g∉[s,c6,cQ,B,C]->m.heap.get? g=Z n->fn.get? g=Z n:=λg n p a=>by
   simp only[bL,nZ,ic,not_or]at p;exact H.extBut _ _ p.1 (am g n p.1 p.2.2.1 p.2.2.2.1 p.2.2.2.2 a)
  have f0:m.heap.objs.size≠s:=k2 (lt s ↥0);have f1:h m.heap.objs.size=Y:=i.aR.fresh (bq _);refine⟨.ref m.heap.objs.size,upd h m.heap.objs.size<|.tup [f,A],i.Jd (S4:=m.toks) R dz (bq _) ⟨by show 2<=sizeLine;decide,[J,bv],.cons cl<|.cons cr .nil,?_⟩,rfl,⟨_,f,A,f1,rfl,rfl,λTP M=>?_,λTP M=>?_⟩,?_,λg p=>?_⟩
  ·exact⟨_,H.extBut _ _ f0 fd,rfl,0,rfl⟩
  ·rw[i.xC M U];exact bn
  ·rw[i.xC M al];exact bs
  ·exact⟨fr,H.extBut _ _ k.TIz<|am _ _ k.TIz k.TITO k.TIi1 k.TIi2 D,⟨_,_,H.extBut _ _ k.TOz eq⟩,iM ev λn a=>H.extBut _ n k.i1z a,iM ex λn a=>H.extBut _ n k.i2z a⟩
  ·rw[cP (dJ<|lt g p)];exact (R g p).1
 done:=by
  intro e as a1 a2 p j G m y h Sn i R z bd;subst as a1 a2;let⟨w,@SE,U,al,f2⟩:=bd;let⟨@Sw,be,r,M⟩:=i.tuple U;let⟨@bi,bm,Tz,ch⟩:=i.tuple al;let@⟨t,D,⟨iJ,@db,x⟩,I,L⟩:=z;have N:m.TypeIs (.ref s) "zip" := ⟨_,t,rfl⟩;have bg:=be.length;have bx:=bm.length;unfold hP;refine aD (qZ (lU (name:=aC.ofString "__next__") N ud (i_ ud N zD
   (Hn (i.ok.hd p) k t D x I L (show m.heap.IsTuple d Sw.toArray from r) (show m.heap.IsTuple b bi.toArray from Tz) (by
    rcases f2 with c|c
    ·exact .inl (by simp;lia)
    ·exact .inr (by simp;lia)) λT a am ⟨n,f4,f8⟩=>?_) (z4 _))))
  refine aD (vq (T := "StopIteration") (b:=V) ⟨n,f4,f8⟩ DK<|a7 ⟨rfl,i.Pu (S4:=m.toks) R λg n p a=>?_⟩);simp only[bL,nZ,ic,not_or]at p;exact am g n p.1 p.2.2.1 p.2.2.2.1 p.2.2.2.2 a
 self:=λ_ X X X X z c=>FJ z.1 c
section
variable{e:aK}
def Q8(Q:Φ)(Ti:e_):c6:=(λy h Sm=>Ti y h λR Sr=>∃d b,R=[.ref d,.ref b]/\(∃w,ck Q Sr d w)/\(∃SE,ck Q Sr b SE)/\Sm (u4 Q d b) Sr)
def Rl{Ti:e_}{SA:cn}(E:dP e "zip")(H:e.aw "zip" = Y)(I:g7 e [d,b] Ti)(J:bw [d,b] e.env=[(aq,b1 d e.env),(aq,b1 b e.env)]:=by rfl)(t:bw [b] e.env=[(aq,b1 b e.env)]:=by rfl):
  lJ e (.Tuple Sl T3 SA) (.Call (.Name "zip" r) [d,b] [] SD) (Q8 e.K Ti):=by
 intro G m y h Sm i c;refine Call_ (m3 i E H boot_zip (ql (bP (I SD G m y h _ i c) λSP f ⟨R,Sr,j,M,N⟩=>?_) (by rw[J,t]) (by rw[t];rfl)));let⟨bg,@bx,a,⟨@w,O⟩,⟨@SE,P⟩,o⟩:=N;subst a;cases M with
 |cons u q=>
  cases q with
  |cons Tg q=>
   cases q;cases u;cases Tg;let⟨@Sw,am,r,an⟩:=j.tuple O;let⟨@S,ap,Tz,as⟩:=j.tuple P;have T:bg<f.heap.objs.size:=by let⟨@n,a,X⟩:=r;exact b9 a
   have U:bx<f.heap.objs.size:=by let⟨@n,a,X⟩:=Tz;exact b9 a
   refine callType_new F.called_zip ∅ (F.typeCall_zip_2 _ _) (F.newCall_zip_2 _ _) (λal=>F.args_object_init_3 al _ _) F.entry_zip_new (Ph bg bx Sw.toArray S.toArray) ⟨r,Tz,?_⟩;have s:(f.heap.push {cls:=.type "tuple_iterator",data:=.fields #[.ref bg,.int 0 0]}).objs.size=f.heap.objs.size+1:=lO ..;have l:((f.heap.push {cls:=.type "tuple_iterator",data:=.fields #[.ref bg,.int 0 0]}).push {cls:=.type "tuple_iterator",data:=.fields #[.ref bx,.int 0 0]}).objs.size=f.heap.objs.size+2:=by rw[lO,s]
   have p:(((f.heap.push {cls:=.type "tuple_iterator",data:=.fields #[.ref bg,.int 0 0]}).push {cls:=.type "tuple_iterator",data:=.fields #[.ref bx,.int 0 0]}).push
    {cls:=.type "tuple",data:=.seq #[.ref f.heap.objs.size,.ref (f.heap.push {cls:=.type "tuple_iterator",data:=.fields #[.ref bg,.int 0 0]}).objs.size]}).objs.size=f.heap.objs.size+3:=by rw[lO,l]
   have v:(jU f.heap bg bx).objs.size=f.heap.objs.size+4:=by unfold jU;rw[lO,p]
   show _/\_;refine⟨⟨_,dH _ rfl,rfl⟩,FJ (TI:=f.heap.objs.size+2) (TO:=f.heap.objs.size+3) (f0:=.none) ?_ ?_⟩
   ·rw[l,p];exact dH _ rfl
   ·rw[l,p,v];have x:((jU f.heap bg bx).push {cls:=.type "zip",data:=.fields #[.none,.bool aq,.bool aq,.ref<|f.heap.objs.size+2,.ref<|f.heap.objs.size+3]}).get? (f.heap.objs.size+4)=Z {cls:=.type "zip",data:=.fields #[.none,.bool aq,.bool aq,.ref<|f.heap.objs.size+2,.ref<|f.heap.objs.size+3]}:=by rw[<-v];exact dH _ rfl
    have z:((jU f.heap bg bx).push {cls:=.type "zip",data:=.fields #[.none,.bool aq,.bool aq,.ref<|f.heap.objs.size+2,.ref<|f.heap.objs.size+3]}).get? (f.heap.objs.size+3)=Z {cls:=.type "tuple",data:=.seq #[.none,.none]}:=by
     rw[<-p];exact cw _ (dH _ rfl)
    have A:((jU f.heap bg bx).push {cls:=.type "zip",data:=.fields #[.none,.bool aq,.bool aq,.ref<|f.heap.objs.size+2,.ref<|f.heap.objs.size+3]}).get? (f.heap.objs.size+2)=Z {cls:=.type "tuple",data:=.seq #[.ref f.heap.objs.size,.ref<|f.heap.objs.size+1]}:=by
     rw[<-l,<-s];exact cw _ (cw _<|dH _ rfl)
    have B:((jU f.heap bg bx).push {cls:=.type "zip",data:=.fields #[.none,.bool aq,.bool aq,.ref<|f.heap.objs.size+2,.ref<|f.heap.objs.size+3]}).get? (f.heap.objs.size+1)=Z {cls:=.type "tuple_iterator",data:=.fields #[.ref bx,.int 0 0]}:=by
     rw[<-s];exact cw _ (cw _<|cw _<|dH _ rfl)
    have C:((jU f.heap bg bx).push {cls:=.type "zip",data:=.fields #[.none,.bool aq,.bool aq,.ref<|f.heap.objs.size+2,.ref<|f.heap.objs.size+3]}).get? f.heap.objs.size=Z {cls:=.type "tuple_iterator",data:=.fields #[.ref bg,.int 0 0]}:=
     cw _ (cw _<|cw _<|cw _<|dH _ rfl);have dz:∀g n,f.heap.get? g=Z n->((jU f.heap bg bx).push {cls:=.type "zip",data:=.fields #[.none,.bool aq,.bool aq,.ref<|f.heap.objs.size+2,.ref<|f.heap.objs.size+3]}).get? g=Z n:=λg n a=>
     cw _ (cw _<|cw _<|cw _<|cw _ a);generalize ((jU f.heap bg bx).push {cls:=.type "zip",data:=.fields #[.none,.bool aq,.bool aq,.ref<|f.heap.objs.size+2,.ref<|f.heap.objs.size+3]})=a2 at C B A z x dz ⊢;have k:tH (f.heap.objs.size+4) (f.heap.objs.size+2) (f.heap.objs.size+3) f.heap.objs.size (f.heap.objs.size+1) bg bx:=PySem.W.ktu_apart _ _ _ T U;refine⟨_,_,_,_,Sr,rfl,j.kept (S4:=f.toks) dz,QQ bg bx _ _ _ _ _ k,⟨x,A,⟨_,_,z⟩,⟨_,C,rfl,rfl⟩,⟨_,B,rfl,rfl⟩⟩,λg D=>?_,o⟩;have:f.heap.objs.size<=g:=by
     simp only[bL,nZ,ic]at D;rcases D with rfl|rfl|rfl|rfl|rfl
     ·exact rN _ _
     ·exact rN _ _
     ·exact rN _ _
     ·exact bq _
     ·exact rN _ _
    exact j.sd this (j.aR.fresh this)
end
def Bf(Q:Φ)(h:ax)(f:aj)(F:String)(b:Bool):Prop:=(
 (∃j,f=.int j/\((F = "int" /\ b=V)\/(F = "tuple" /\ b=aq)\/(F = "str" /\ b=aq)\/(F = "bool" /\ b=aq)\/(F = "list" /\ b=aq)))\/
 (∃j,f=.au j/\((F = "bool" /\ b=V)\/(F = "int" /\ b=V)\/(F = "tuple" /\ b=aq)\/(F = "str" /\ b=aq)\/(F = "list" /\ b=aq)))\/
 (∃j,f=.str j/\((F = "str" /\ b=V)\/(F = "int" /\ b=aq)\/(F = "tuple" /\ b=aq)\/(F = "bool" /\ b=aq)\/(F = "list" /\ b=aq)))\/
 (∃d w,f=.ref d/\ck Q h d w/\((F = "tuple" /\ b=V)\/(F = "int" /\ b=aq)\/(F = "str" /\ b=aq)\/(F = "bool" /\ b=aq)\/(F = "list" /\ b=aq)))\/
 (∃d w,f=.ref d/\c2 Q h d w/\((F = "list" /\ b=V)\/(F = "int" /\ b=aq)\/(F = "str" /\ b=aq)\/(F = "bool" /\ b=aq)\/(F = "tuple" /\ b=aq))))
section
variable{e:aK}
def Kr:ey e (.builtin "isinstance") (λw h E=>∃f F b,w=[f,.ty F]/\Bf e.K h f F b/\E (.au b) h):=by
 intro G m y h w SP E i u c;let⟨f,F,@b,rfl,Sq,o⟩:=c;cases u with
 |cons u p=>
  cases p with
  |cons Tg p=>
   cases p;cases Tg;have l:∀{b:Bool},E (.au b) h->ew e G y E (.bool b) m:=λ{b} o=>⟨.au b,h,i,rfl,o⟩;have a:∀{b:Bool},E (.au b) h->ew e G y E (.bool b) {m with toks:=m.toks+1}:=λ{b} o=>⟨.au b,h,i.tok _,rfl,o⟩;rcases Sq with ⟨j,rfl,Sq⟩|⟨j,rfl,Sq⟩|⟨j,rfl,Sq⟩|⟨d,w,rfl,q,Sq⟩|⟨d,w,rfl,q,Sq⟩
   ·let⟨@I,rfl⟩:=u;rcases Sq with ⟨rfl,rfl⟩|⟨rfl,rfl⟩|⟨rfl,rfl⟩|⟨rfl,rfl⟩|⟨rfl,rfl⟩
    ·exact IsiPair.int_int (l o)
    ·exact IsiPair.int_tuple (a o)
    ·exact IsiPair.int_str (a o)
    ·exact IsiPair.int_bool (a o)
    ·exact IsiPair.int_list (a o)
   ·cases u;rcases Sq with ⟨rfl,rfl⟩|⟨rfl,rfl⟩|⟨rfl,rfl⟩|⟨rfl,rfl⟩|⟨rfl,rfl⟩
    ·exact IsiPair.bool_bool (l o)
    ·exact IsiPair.bool_int (l o)
    ·exact IsiPair.bool_tuple (a o)
    ·exact IsiPair.bool_str (a o)
    ·exact IsiPair.bool_list (a o)
   ·let⟨@I,rfl⟩:=u;rcases Sq with ⟨rfl,rfl⟩|⟨rfl,rfl⟩|⟨rfl,rfl⟩|⟨rfl,rfl⟩|⟨rfl,rfl⟩
    ·exact IsiPair.str_str (l o)
    ·exact IsiPair.str_int (a o)
    ·exact IsiPair.str_tuple (a o)
    ·exact IsiPair.str_bool (a o)
    ·exact IsiPair.str_list (a o)
   ·cases u;let⟨@Sw,s,⟨@n,g,k,X⟩,t⟩:=i.tuple q;rcases Sq with ⟨rfl,rfl⟩|⟨rfl,rfl⟩|⟨rfl,rfl⟩|⟨rfl,rfl⟩|⟨rfl,rfl⟩
    ·exact IsiPair.tuple_tuple g k (l o)
    ·exact IsiPair.tuple_int g k (a o)
    ·exact IsiPair.tuple_str g k (a o)
    ·exact IsiPair.tuple_bool g k (a o)
    ·exact IsiPair.tuple_list g k (a o)
   ·cases u;let⟨@Sw,s,r,t⟩:=i.list q;let⟨@n,g,k,X⟩:=r.isList;rcases Sq with ⟨rfl,rfl⟩|⟨rfl,rfl⟩|⟨rfl,rfl⟩|⟨rfl,rfl⟩|⟨rfl,rfl⟩
    ·exact IsiPair.list_list g k (l o)
    ·exact IsiPair.list_int g k (a o)
    ·exact IsiPair.list_str g k (a o)
    ·exact IsiPair.list_bool g k (a o)
    ·exact IsiPair.list_tuple g k (a o)
def K9:∀{bs:List Bool}{SP:List ae},bR (bs.map aj.au) SP->∀(j:Nat) (v:ae),SP[j]?=Z v->∃b,bs[j]?=Z b/\v=ae.bool b:=by
 intro bs SP u j v c;have a:=u.length;rw[bu]at a;have Sq:j<bs.length:=by rw[a];exact (fY.mp c).1
 let⟨@J,d,e⟩:=u.get (j:=j) (f:=aj.au bs[j]) (by simp[Sq]);rw[c]at d;cases d;exact⟨bs[j],by simp[Sq],e⟩
def QY(k:e.calm=V):ey e (.builtin "all") (λw h E=>∃H bs,w=[.ref H]/\h H=Z (.lst<|List.map aj.au bs)/\E (.au<|bs.all id) h):=by
 intro G m y h w SP E i u c;let⟨H,@bs,rfl,l,o⟩:=c;let⟨@J,rfl,n⟩:=iv u;cases n;let@⟨z,⟨Sw,@s,d,a⟩⟩:=i.aR H _ l;have f:m.heap.IsList H Sw.toArray:=⟨_,a,rfl,s,rfl⟩;refine call_all_walk (tA f ⟨m.heap.objs.size,[m.heap.objs.size,H],[m.heap.objs.size],Sw.toArray.size,_,_,λj=>(bs[j]?).getD V,rfl,nR.list (A:=e.A.in1) (i.ok.hd k) _ H (dJ<|b9 a) Sw.toArray,
  ⟨⟨_,dH _ rfl,rfl,rfl⟩,f.push _⟩,λj v Ss x B p g=>?_,λT bt q=>?_⟩)
 ·let⟨@b,r,rfl⟩:=K9 d j v ⇑p;simp only[r,ye]at g;exact kT g
 ·have t:Sw.toArray.size=bs.length:=by
   have:=d.length;rw[bu]at this;rw[cJ,this]
  rw[t,LSm.range_all];exact⟨.au _,h,i.kept<|LSm.kept_iter q,rfl,o⟩
def G1:dZ e (fU .Mult) (o5 IntMulOk λj B=>.int<|j*B):=tb λ_ X X X X X X a o=>mul_int o a
end
inductive ak where
 | im (p:ab)
 | cL
 | dr (C:List ab)
 | lst (C:List ab)
 | dC (Sx:List (ej×ab))
 | aF (Sx:List (List ab×ab))
 | hp (w:List ak)
 | ou (w:List ak)
 | k0 (Sx:List (List ab×ab))
 | dL (Sx:List (List ab×List ab))
 | r0 (SH:List ej) (C:List ak)
variable{Tc:List ak->Option ak}{x:ak->ak->Option ak}{n:Option ak}{p:ak}
abbrev aP:=List (Option ak)
variable{SG k:aP}{c:List ak->aP->Option aP}
abbrev eG{SV:Type}(h:ax):List (SV×ab)->List (SV×aj)->Prop:=d9 λr o=>r.1=o.1/\cD h r.2 o.2
def eG.mono{SV:Type}{H:List (SV×ab)}{M:List (SV×aj)}(I:oU h P)(c:eG h H M):eG P H M:=d9.sD c λ_ X a=>⟨a.1,a.2.mono I⟩
structure fb(h P:ax):Prop where
 tup:oU h P
 dq:∀d n J,h d=Z (.dq n J)->P d=Z (.dq n J)
def kS(h:ax):List (List ab×List ab)->List (List ab×aj)->List af->Prop
 |[],Ta,U=>Ta=[]/\U=[]
 |r::u,Ta,U=>∃b w l a,Ta=(r.1,.ref b)::l/\h b=Z (.lst w)/\bF h r.2 w/\kS h u l a/\U=b::a
theorem kS.mono{h P:ax}(I:fb h P):∀{H:List (List ab×List ab)}{Ta:List (List ab×aj)}{U:List af},kS h H Ta U->(∀d∈U,∀n,h d=Z n->P d=Z n)->kS P H Ta U
 |[],_,_,c,_=>c
 |r::u,Ta,U,c,q=>by
  let⟨b,w,l,@e,a,t,D,f,rfl⟩:=c;exact⟨b,w,l,e,a,q b (.head _) _ t,D.mono I.tup,kS.mono I f λd g=>q d<|.tail _ g,rfl⟩
mutual
def ct(h:ax):ak->aj->List af->Prop
 |.im p,v,L=>cD h p v/\L=[]
 |.cL,_,L=>L=[]
 |.dr C,v,L=>∃d w n,v=.ref d/\h d=Z (.dq n<|.lst w)/\bF h C w/\L=[]
 |.lst C,v,L=>∃d w,v=.ref d/\h d=Z (.lst w)/\bF h C w/\L=[d]
 |.dC Sx,v,L=>∃d B,v=.ref d/\h d=Z (.dC B)/\eG h Sx B/\L=[d]
 |.aF Sx,v,L=>∃d B,v=.ref d/\h d=Z (.aF B)/\eG h Sx B/\L=[d]
 |.hp C,v,L=>∃d w U,v=.ref d/\h d=Z (.lst w)/\dW h C w U/\L=d::U
 |.ou C,v,L=>∃d w,v=.ref d/\h d=Z (.tup w)/\dW h C w L
 |.k0 Sx,v,L=>∃d B n,v=.ref d/\h d=Z (.dq n<|.aF B)/\eG h Sx B/\L=[]
 |.dL Sx,v,L=>∃d B U,v=.ref d/\h d=Z (.aF B)/\kS h Sx B U/\L=d::U
 |.r0 SH C,v,L=>∃d B R U,v=.ref d/\h d=Z (.dC B)/\(B.map (·.1)=SH/\SH.Nodup/\B.map (·.2)=R)/\dW h C R U/\L=d::U
def dW(h:ax):List ak->List aj->List af->Prop
 |[],R,L=>R=[]/\L=[]
 |p::C,R,L=>∃v u SI SU,R=v::u/\ct h p v SI/\dW h C u SU/\L=SI++SU
end
mutual
theorem ct.mono{h P:ax}(I:fb h P):∀{p:ak}{v:aj}{L:List af},ct h p v L->(∀d∈L,∀n,h d=Z n->P d=Z n)->ct P p v L
 |.im p,v,L,c,_=>⟨c.1.mono I.tup,c.2⟩
 |.cL,v,L,c,_=>c
 |.dr C,v,L,c,_=>by
  let⟨d,w,@n,rfl,t,D,rfl⟩:=c;exact⟨d,w,n,rfl,I.dq _ _ _ t,D.mono I.tup,rfl⟩
 |.lst C,v,L,c,q=>by
  let⟨d,@w,rfl,t,D,rfl⟩:=c;exact⟨d,w,rfl,q d (.head _) _ t,D.mono I.tup,rfl⟩
 |.dC Sx,v,L,c,q=>by
  let⟨d,@w,rfl,t,D,rfl⟩:=c;exact⟨d,w,rfl,q d (.head _) _ t,D.mono I.tup,rfl⟩
 |.aF Sx,v,L,c,q=>by
  let⟨d,@w,rfl,t,D,rfl⟩:=c;exact⟨d,w,rfl,q d (.head _) _ t,D.mono I.tup,rfl⟩
 |.hp C,v,L,c,q=>by
  let⟨d,w,@U,rfl,t,D,rfl⟩:=c;exact⟨d,w,U,rfl,q d (.head _) _ t,dW.mono I D λb a=>q b<|.tail _ a,rfl⟩
 |.ou C,v,L,c,q=>by
  let⟨d,@w,rfl,t,D⟩:=c;exact⟨d,w,rfl,I.tup d w t,dW.mono I D q⟩
 |.k0 Sx,v,L,c,_=>by
  let⟨d,w,@n,rfl,t,D,rfl⟩:=c;exact⟨d,w,n,rfl,I.dq _ _ _ t,D.mono I.tup,rfl⟩
 |.dL Sx,v,L,c,q=>by
  let⟨d,B,@U,rfl,t,D,rfl⟩:=c;exact⟨d,B,U,rfl,q d (.head _) _ t,D.mono I λb a=>q b<|.tail _ a,rfl⟩
 |.r0 SH C,v,L,c,q=>by
  let⟨d,B,R,@U,rfl,t,D,e,rfl⟩:=c;exact⟨d,B,R,U,rfl,q d (.head _) _ t,D,dW.mono I e λb a=>q b<|.tail _ a,rfl⟩
theorem dW.mono{h P:ax}(I:fb h P):∀{C:List ak}{R:List aj}{L:List af},dW h C R L->(∀d∈L,∀n,h d=Z n->P d=Z n)->dW P C R L
 |[],R,L,c,_=>c
 |p::C,R,L,c,q=>by
  let⟨v,u,SI,@SU,rfl,t,D,rfl⟩:=c;exact⟨v,u,SI,SU,rfl,ct.mono I t λd a=>q d<|c5 _ a,dW.mono I D λd a=>q d<|c3 _ a,rfl⟩
end
def fV(h:ax)(d:af):Prop:=(∃n,h d=Z n/\(∀w,n≠.tup w)/\∀r J,n≠.dq r J)
theorem kS.chg{h:ax}:∀{H:List (List ab×List ab)}{Ta:List (List ab×aj)}{U:List af},kS h H Ta U->∀d∈U,fV h d
 |[],_,U,c,d,e=>by rw[c.2]at e;cases e
 |r::u,Ta,U,c,d,e=>by
  let⟨b,w,l,@g,a,t,D,f,rfl⟩:=c;rcases bL.mp e with rfl|e
  ·exact⟨_,t,(λ_ a=>by cases a),(λ_ X a=>by cases a)⟩
  ·exact kS.chg f d e
mutual
theorem ct.chg{h:ax}:∀{p:ak}{v:aj}{L:List af},ct h p v L->∀d∈L,fV h d
 |.im p,v,L,c,d,f=>by rw[c.2]at f;cases f
 |.cL,v,L,c,d,f=>by rw[show L=[] from c]at f;cases f
 |.dr C,v,L,c,b,e=>by
  let⟨d,w,@n,rfl,t,D,rfl⟩:=c;cases e
 |.lst C,v,L,c,b,e=>by
  let⟨d,@w,rfl,t,D,rfl⟩:=c;rw[cO.mp e];exact⟨_,t,(λ_ a=>by cases a),(λ_ X a=>by cases a)⟩
 |.dC Sx,v,L,c,b,e=>by
  let⟨d,@w,rfl,t,D,rfl⟩:=c;rw[cO.mp e];exact⟨_,t,(λ_ a=>by cases a),(λ_ X a=>by cases a)⟩
 |.aF Sx,v,L,c,b,e=>by
  let⟨d,@w,rfl,t,D,rfl⟩:=c;rw[cO.mp e];exact⟨_,t,(λ_ a=>by cases a),(λ_ X a=>by cases a)⟩
 |.hp C,v,L,c,b,e=>by
  let⟨d,w,@U,rfl,t,D,rfl⟩:=c;rcases bL.mp e with rfl|e
  ·exact⟨_,t,(λ_ a=>by cases a),(λ_ X a=>by cases a)⟩
  ·exact dW.chg D b e
 |.ou C,v,L,c,b,e=>by
  let⟨d,@w,rfl,t,D⟩:=c;exact dW.chg D b e
 |.k0 Sx,v,L,c,b,e=>by
  let⟨d,w,@n,rfl,t,D,rfl⟩:=c;cases e
 |.dL Sx,v,L,c,b,e=>by
  let⟨d,B,@U,rfl,t,D,rfl⟩:=c;rcases bL.mp e with rfl|e
  ·exact⟨_,t,(λ_ a=>by cases a),(λ_ X a=>by cases a)⟩
  ·exact D.chg b e
 |.r0 SH C,v,L,c,b,e=>by
  let⟨d,B,R,@U,rfl,t,D,g,rfl⟩:=c;rcases bL.mp e with rfl|e
  ·exact⟨_,t,(λ_ a=>by cases a),(λ_ X a=>by cases a)⟩
  ·exact dW.chg g b e
theorem dW.chg{h:ax}:∀{C:List ak}{R:List aj}{L:List af},dW h C R L->∀d∈L,fV h d
 |[],R,L,c,d,a=>by rw[c.2]at a;cases a
 |p::C,R,L,c,d,a=>by
  let⟨v,u,SI,@SU,rfl,t,D,rfl⟩:=c;rcases dt.mp a with a|a
  ·exact ct.chg t d a
  ·exact dW.chg D d a
end
theorem dW.length:∀{C:List ak}{R:List aj}{L:List af},dW h C R L->C.length=R.length
 |[],R,L,c=>by rw[c.1];rfl
 |p::C,R,L,c=>by
  let⟨v,u,SI,@SU,rfl,t,D,rfl⟩:=c;rw[dA,dA,D.length]
theorem bF.length:∀{C:List ab}{R:List aj},bF h C R->C.length=R.length
 |[],R,c=>by rw[show R=[] from c];rfl
 |p::C,R,c=>by
  let⟨v,@u,rfl,t,D⟩:=c;rw[dA,dA,D.length]
def mu(h:ax):Option ak->Option aj->List af->Prop
 |none,_,L=>L=[]
 |some p,f,L=>∃v,f=Z v/\ct h p v L
def bf(h:ax):aP->aS->List af->Prop
 |[],y,L=>y=[]/\L=[]
 |n::k,y,L=>∃f u SI SU,y=f::u/\mu h n f SI/\bf h k u SU/\L=SI++SU
structure ba(h:ax)(L:List af)(P:ax)(SW:List af):Prop where
 keep:∀d n,h d=Z n->d∉L->P d=Z n
 sub:∀d∈SW,d∈L\/h d=Y
 ao:SW.Nodup
 tup:fb h P
 grow:∀d n,h d=Z n->∃Th,P d=Z Th
theorem mu.mono(I:fb h P):∀{n:Option ak}{f:Option aj}{L:List af},mu h n f L->(∀d∈L,∀n,h d=Z n->P d=Z n)->mu P n f L
 |none,_,_,c,_=>c
 |some p,f,L,c,q=>by
  let⟨@v,rfl,c⟩:=c;exact⟨v,rfl,c.mono I q⟩
theorem bf.mono{h P:ax}(I:fb h P):∀{k:aP}{y:aS}{L:List af},bf h k y L->(∀d∈L,∀n,h d=Z n->P d=Z n)->bf P k y L
 |[],y,L,c,_=>c
 |n::k,y,L,c,q=>by
  let⟨f,u,SI,@SU,rfl,t,D,rfl⟩:=c;exact⟨f,u,SI,SU,rfl,t.mono I λd a=>q d<|c5 _ a,bf.mono I D λd a=>q d<|c3 _ a,rfl⟩
theorem mu.chg:∀{n:Option ak}{f:Option aj}{L:List af},mu h n f L->∀d∈L,fV h d
 |none,_,L,c,d,a=>by rw[show L=[] from c]at a;cases a
 |some p,f,L,c,d,a=>by
  let⟨@v,rfl,c⟩:=c;exact c.chg d a
theorem bf.chg{h:ax}:∀{k:aP}{y:aS}{L:List af},bf h k y L->∀d∈L,fV h d
 |[],y,L,c,d,a=>by rw[c.2]at a;cases a
 |n::k,y,L,c,d,a=>by
  let⟨f,u,SI,@SU,rfl,t,D,rfl⟩:=c;rcases dt.mp a with a|a
  ·exact t.chg d a
  ·exact bf.chg D d a
theorem bf.len{h:ax}:∀{k:aP}{y:aS}{L:List af},bf h k y L->k.length=y.length
 |[],y,L,c=>by rw[c.1];rfl
 |n::k,y,L,c=>by
  let⟨f,u,SI,@SU,rfl,t,D,rfl⟩:=c;rw[dA,dA,bf.len D]
def ak.dG:ak->Bool
 |.im _=>V
 |.dr _=>V
 |.k0 _=>V
 |_=>aq
def ct.dG(c:ct h p v L)(g:p.dG=V):L=[]:=by
 cases p with
 |im p=>exact c.2
 |dr C=>let⟨d,w,@n,rfl,t,D,rfl⟩:=c;rfl
 |k0 C=>let⟨d,w,@n,rfl,t,D,rfl⟩:=c;rfl
 |_=>cases g
theorem bf.out{h:ax}:∀{k:aP}{y:aS}{L:List af}{j:Nat}{p:ak},bf h k y L->k[j]?=Z (Z p)->∃v SI SU,y[j]?=Z (Z v)/\ct h p v SI/\bf h (k.set j<|Z .cL) y SU/\(SU++SI).Perm L
 |[],y,L,j,p,c,a=>by simp at a
 |n::k,y,L,0,p,c,a=>by
  let⟨f,u,SI,@SU,rfl,t,D,rfl⟩:=c;simp at a;subst a;let⟨@v,rfl,t⟩:=t;exact⟨v,SI,SU,rfl,t,⟨Z v,u,[],SU,rfl,⟨v,rfl,rfl⟩,D,rfl⟩,d3⟩
 |n::k,y,L,j+1,p,c,a=>by
  let⟨f,u,SI,@SU,rfl,t,D,rfl⟩:=c;let⟨v,d,@b,e,g,i,l⟩:=bf.out (j:=j) D ⇑a;refine⟨v,d,SI++b,by simpa using e,g,⟨f,u,SI,b,rfl,t,i,rfl⟩,?_⟩;rw[b6];exact fg _ l
theorem bf.put{h:ax}:∀{k:aP}{y:aS}{L:List af}{j:Nat}{p:ak}{v:aj}{U:List af},bf h k y L->ct h p v U->j<k.length->∃SI SU,bf h (k.set j<|Z p) (y.set j<|Z v) SI/\(SI++SU).Perm (L++U)
 |[],y,L,j,p,v,U,c,l,H=>by simp at H
 |n::k,y,L,0,p,v,U,c,l,H=>by
  let⟨f,u,SI,@SU,rfl,t,D,rfl⟩:=c;refine⟨U++SU,SI,⟨Z v,u,U,SU,rfl,⟨v,rfl,l⟩,D,rfl⟩,?_⟩;refine d3.trans ?_;rw[b6];exact fg _ d3
 |n::k,y,L,j+1,p,v,U,c,l,H=>by
  let⟨f,u,SI,@SU,rfl,t,D,rfl⟩:=c;let⟨a,@b,d,e⟩:=bf.put (j:=j) D l ⇑H;refine⟨SI++a,b,⟨f,_,SI,a,rfl,t,d,rfl⟩,?_⟩;rw[b6,b6];exact fg _ e
def bf.dG{j:Nat}(c:bf h k y L)(a:k[j]?=Z (Z p))(g:p.dG=V):∃v,y[j]?=Z (Z v)/\ct h p v []:=by
 let⟨v,SI,@SU,d,b,X⟩:=c.out a;obtain rfl:=b.dG g;exact⟨v,d,b⟩
def NY{j:Nat}(c:y[j]?=Z (Z v)):y.set j (Z v)=y:=by
 refine wZ λB=>?_;by_cases a:j=B
 ·subst a;rw[c,t2 (fY.mp c).1]
 ·rw[mL a]
def bf.back{j:Nat}(c:bf h k y L)(l:ct h p v U)(a:y[j]?=Z (Z v)):∃SI SU,bf h (k.set j<|Z p) y SI/\(SI++SU).Perm (L++U):=by
 have H:j<k.length:=by rw[c.len];exact (fY.mp a).1
 let⟨SI,@SU,t,D⟩:=c.put (j:=j) l H;rw[NY a]at t;exact⟨SI,SU,t,D⟩
def fb.of(x:qs h P)(N:∀d n J,h d=Z (.dq n J)->P d=Z (.dq n J)):fb h P:=⟨⟨x,N⟩,N⟩
def Qp(h:ax):fb h h:=⟨⟨λ_ X a=>a,λ_ X X a=>a⟩,λ_ X X a=>a⟩
def fb.trans(d:fb h Sr)(b:fb Sr SK):fb h SK:=⟨⟨λf w a=>b.tup.t f w<|d.tup.t f w a,λf n J a=>b.dq f n J<|d.dq f n J a⟩,λf n J a=>b.dq f n J<|d.dq f n J a⟩
def ba.refl(c:SW.Nodup)(m:∀d∈SW,d∈L):ba h L h SW:=⟨λ_ X a X=>a,λd b=>.inl<|m d b,c,Qp h,λ_ n a=>⟨n,a⟩⟩
def ba.perm(c:L.Nodup)(r:SW.Perm L):ba h L h SW:=ba.refl ((r.nodup_iff).mpr c) λd a=>r.mem_iff.mp a
def ba.trans(d:ba h L Sr (SI++Sm))(b:ba Sr SI SK SU)(j:∀f∈Sm,fV Sr f):ba h L SK (SU++Sm):=by
 have ao:=dn.mp d.ao;have k:∀f∈SU,f∉Sm:=λf e i=>by
  rcases b.sub f e with c|c
  ·exact ao.2.2 f c f i rfl
  ·let⟨@n,a,X⟩:=j f i;rw[a]at c;cases c
 refine⟨λf n a e=>?_,λf e=>?_,dn.mpr ⟨b.ao,ao.2.1,λf e A l a=>k f e<|a ▸ l⟩,d.tup.trans b.tup,λf n a=>let ⟨Th,g⟩:=d.grow f n a;b.grow f Th g⟩
 ·refine b.keep f n (d.keep f n a e) λt=>?_;rcases d.sub f (c5 _ t) with c|c
  ·exact e c
  ·rw[a]at c;cases c
 ·rcases dt.mp e with e|e
  ·rcases b.sub f e with c|c
   ·exact d.sub f (c5 _ c)
   ·refine .inr ?_;cases a:h f with
    |none=>rfl
    |some n=>
     let⟨@Th,g⟩:=d.grow f n a;rw[g]at c;cases c
  ·exact d.sub f (c3 _ e)
def cS.tupS(m:cS h P):fb h P:=⟨⟨λd w a=>m d _ a,λd n J a=>m d _ a⟩,λd n J a=>m d _ a⟩
def Ab{d b:af}{n J:ff}(a:h b=Z n)(c:h d=Y):L2.upd h d J b=Z n:=by rw[cP (hg a c)];exact a
def cS.upd(m:cS h P){d:af}{n:ff}(c:P d=Y):cS h (L2.upd P d n):=λb J a=>Ab (m b J a) c
abbrev aE(S0:Type):=aP->Option (S0×aP)
variable{T1:aE ak}{cv q:aE Bool}
inductive bC where
 | aH (j:Nat)
 | bY (p:ak)
variable{Tq Tx:aE bC}{N:aE (List bC)}
def dF(k:aP):bC->Option ak
 |.aH j=>(k[j]?).getD Y
 |.bY p=>Z p
def iu(h:ax)(y:aS):bC->aj->List af->Prop
 |.aH j,v,Sm=>y[j]?=Z (Z v)/\Sm=[]
 |.bY p,v,Sm=>ct h p v Sm
def k3(N:aE ak):b2:=(λy h E=>∃k L u SG,bf h k y L/\L.Nodup/\N k=Z (u,SG)/\∀v P SW Sm,bf P SG y SW->ct P u v Sm->ba h L P (SW++Sm)->E v P)
def jT(N:aE bC):b2:=(λy h E=>∃k L u SG,bf h k y L/\L.Nodup/\N k=Z (u,SG)/\∀v P SW Sm,bf P SG y SW->iu P y u v Sm->ba h L P (SW++Sm)->E v P)
def jr(N:aE Bool):er:=(λy h E=>∃k L b SG,bf h k y L/\L.Nodup/\N k=Z (b,SG)/\∀P SW,bf P SG y SW->ba h L P SW->E b P)
def b4(e:aK)(a:a_)(N:aE ak):Prop:=(∀ ⦃r⦄,v8 e a (k3 N) r)
def dv(e:aK)(a:a_)(N:aE bC):Prop:=(∀ ⦃r⦄,v8 e a (jT N) r)
def gY(e:aK)(a:a_)(N:aE Bool):Prop:=(∀ ⦃r⦄,An e a (jr N) r)
def eb{I S4:b2}(c:bE e a I)(j:∀y h E,S4 y h E->I y h E):bE e a S4:=λG m y h E i b=>c G m y h E i (j y h E b)
def tN{I:er}(c:hb e a I)(j:∀y h E,S4 y h E->I y h E):hb e a S4:=λG m y h E i b=>c G m y h E i (j y h E b)
def iu.mono{u:bC}(c:iu h y u v Sm)(I:fb h P)(q:∀d∈Sm,∀n,h d=Z n->P d=Z n):iu P y u v Sm:=by
 cases u with
 |aH j=>exact c
 |bY p=>exact ct.mono I c q
def iu.chg{u:bC}(c:iu h y u v Sm):∀d∈Sm,fV h d:=by
 cases u with
 |aH j=>intro d a;rw[c.2]at a;cases a
 |bY p=>exact ct.chg c
def e9(h:ax)(p:ak)(v:aj):Prop:=(∃Sm,ct h p v Sm)
def iu.read{u:bC}(c:iu h y u v Sm)(z:bf h k y L)(a:dF k u=Z p):e9 h p v:=by
 cases u with
 |bY f=>cases a;exact⟨Sm,c⟩
 |aH j=>
  have d:k[j]?=Z (Z p):=by
   have:(k[j]?).getD Y=Z p:=a;cases o:k[j]? with
   |none=>rw[o]at this;cases this
   |some n=>rw[o]at this;rw[show n=Z p from this]
  let⟨g,SI,@SU,b,e,X⟩:=z.out d;rw[c.1]at b;cases b;exact⟨SI,e⟩
@[simp] def ed(j:Nat):aE ak:=λk=>match k[j]? with
 |some (Z p)=>if p.dG=V then Z (p,k) else Z (p,k.set j<|Z .cL)
 |_=>Y
def aA(p:ab):aE ak:=(λk=>Z (.im p,k))
@[simp] def ah(j:Nat):aE bC:=λk=>match k[j]? with
 |some (Z _)=>Z (.aH j,k)
 |_=>Y
@[simp] def ag(N:aE ak):aE bC:=λk=>(N k).map λr=>(.bY r.1,r.2)
section
variable{e:aK}
variable{j:Nat}
def fm(c:bE e a (kR j)):b4 e a (ed j):=by
 refine eb c λy h E d=>?_;let⟨k,L,u,@SG,z,ao,b,o⟩:=d;unfold ed at b;split at b
 ·rename_i p hd;split at b
  ·rename_i f;cases b;let⟨@v,t,D⟩:=z.dG hd f;exact⟨v,t,o v h L [] z D (by rw[cp];exact ba.perm ao (List.Perm.refl _))⟩
  ·cases b;let⟨v,SI,@SU,t,D,g,i⟩:=z.out hd;exact⟨v,t,o v h SU SI g D<|ba.perm ao i⟩
 ·cases b
def K5(c:bE e a (kR j)):dv e a (ah j):=by
 refine eb c λy h E d=>?_;let⟨k,L,u,@SG,z,ao,b,o⟩:=d;unfold ah at b;split at b
 ·rename_i p hd;cases b;let⟨v,SI,@SU,t,D,f,g⟩:=z.out hd;exact⟨v,t,o v h L [] z ⟨t,rfl⟩ (by rw[cp];exact ba.perm ao (List.Perm.refl _))⟩
 ·cases b
def aM{N:aE ak}(c:b4 e a N):dv e a (ag N):=by
 refine eb c λy h E d=>?_;let⟨k,L,u,@SG,z,ao,b,o⟩:=d;unfold ag at b;let⟨@⟨Tg,So⟩,t,D⟩:=cC.mp b;cases D;exact⟨k,L,Tg,_,z,ao,t,o⟩
def nV{p:ab}(c:bE e a (mH v))(hd:∀h,cD h p v):b4 e a (aA p):=by
 refine eb c λy h E b=>?_;let⟨k,L,u,@SG,z,ao,d,o⟩:=b;cases d;exact o v h L [] z ⟨hd h,rfl⟩ (by rw[cp];exact ba.perm ao (List.Perm.refl _))
def gs{j:Int}{B SD}:b4 e (.Constant (.int j) B SD) (aA<|.int j):=nV Ou λ_=>rfl
def ea{b:Bool}{B SD}:b4 e (.Constant (.bool b) B SD) (aA<|.au b):=nV Pg λ_=>rfl
def nN{B SD}:b4 e (.Constant .none B SD) (aA .aV):=nV Jy λ_=>rfl
def qK{B SD}:b4 e (.Constant (.str f) B SD) (aA<|.str f):=nV Bg λ_=>rfl
def two{So S3:aP}{f A:bC}{Q:aj->aj->ax->Prop}(z:bf h k y L)(ao:L.Nodup)(e:Tx k=Z (f,So))(j:Tq So=Z (A,S3))(q:∀v J P SW b b0,bf P S3 y SW->iu P y f v b->iu P y A J b0->ba h L P ((SW++b0)++b)->Q v J P):jT Tx y h λv Sr=>jT Tq y Sr λJ SK=>Q v J SK:=by
 refine⟨k,L,f,So,z,ao,e,λv Sr SI b l S5 g=>⟨So,SI,A,S3,l,(dn.mp g.ao).1,j,λJ SK SU b0 m Tp i=>?_⟩⟩;refine q v J SK SU b b0 m (S5.mono i.tup λd e n a=>i.keep d n a λc=>?_) Tp (g.trans i S5.chg);exact (dn.mp g.ao).2.2 d c d e rfl
def ba.new{i:List af}(d:ba h L Sr (SI++Sm))(m:cS Sr SK)(ao:i.Nodup)(e:∀f∈i,Sr f=Y)(g:∀f∈SI,fV Sr f):ba h L SK (SI++i):=by
 refine⟨λf n a b=>m _ _<|d.keep f n a b,λf b=>?_,dn.mpr ⟨(dn.mp d.ao).1,ao,λf b A j a=>?_⟩,d.tup.trans m.tupS,λf n a=>let ⟨Th,c⟩:=d.grow f n a;⟨Th,m _ _ c⟩⟩
 ·rcases dt.mp b with b|b
  ·exact d.sub f (c5 _ b)
  ·refine .inr ?_;cases a:h f with
   |none=>rfl
   |some n=>
    let⟨@Th,c⟩:=d.grow f n a;rw[e f b]at c;cases c
 ·subst a;let⟨@n,a,X⟩:=g f b;rw[e f j]at a;cases a
def eX(e:aK)(x:ae->ae->fx ae)(Tc:ak->ak->Option ak):Prop:=(
 dZ e x λf A h E=>∃Te Tf p,e9 h Te f/\e9 h Tf A/\Tc Te Tf=Z p/\∀v P Sm,cS h P->ct P p v Sm->Sm.Nodup->(∀d∈Sm,h d=Y)->E v P)
@[simp] def ac(Tc:ak->ak->Option ak)(Tx Tq:aE bC):aE ak:=λk=>(Tx k).bind λr=>(Tq r.2).bind λo=>(dF o.2 r.1).bind λTe=>(dF o.2 o.1).bind λTf=>(Tc Te Tf).map λp=>(p,o.2)
def uG{Tc:ak->ak->Option ak}(c:k3 (ac Tc Tx Tq) y h E):
  jT Tx y h λf Sr=>jT Tq y Sr λA SK=>∃Te Tf p,e9 SK Te f/\e9 SK Tf A/\Tc Te Tf=Z p/\∀v P Sm,cS SK P->ct P p v Sm->Sm.Nodup->(∀d∈Sm,SK d=Y)->E v P:=by
 let⟨k,L,u,@SG,z,ao,b,o⟩:=c;unfold ac at b;let⟨@⟨f,So⟩,j,b⟩:=bK.mp b;let⟨@⟨A,S3⟩,m,b⟩:=bK.mp b;let⟨@Te,t,b⟩:=bK.mp b;let⟨@Tf,D,b⟩:=bK.mp b;let⟨@p,q,b⟩:=cC.mp b;cases b;refine two z ao j m λv J SK SU B b0 e S5 Tp i=>⟨Te,Tf,_,S5.read e t,Tp.read e D,q,λl r Sm g s w x=>?_⟩;rw[b6]at i;exact o l r SU Sm (e.mono g.tupS λd X n a=>g d n a) s (i.new g w x e.chg)
def hu{Tc:yv}(a:eX e (fU Tc) x)(f:dv e d Tx)(g:dv e b Tq):b4 e (.BinOp d Tc b SD) (ac x Tx Tq):=
 eb (Q5 a f g) λ_ X X c=>uG c
variable{Tc:lr}
def iw(a:eX e (d6 Tc) x)(f:dv e d Tx)(g:dv e b Tq)(h:o8 Tc b=aq):b4 e (.Compare d [Tc] [b] SD) (ac x Tx Tq):=
 eb (J6 a f g h) λ_ X X c=>uG c
def KW(a:iF e (λf A h E=>∃Te Tf p,e9 h Te f/\e9 h Tf A/\x Te Tf=Z p/\∀v P Sm,cS h P->ct P p v Sm->Sm.Nodup->(∀d∈Sm,h d=Y)->E v P))(g:dv e d Tx)(i:dv e b Tq)(j:u3 b):b4 e (.Subscript d b SD) (ac x Tx Tq):=
 eb (MV a g i j) λ_ X X c=>uG c
@[simp] def nh:ak->Option Bool
 |.im (.au b)=>Z b
 |_=>Y
@[simp] def aZ(N:aE ak):aE Bool:=λk=>(N k).bind λr=>(nh r.1).map λb=>(b,r.2)
def rx{b:Bool}(c:nh p=Z b):p=.im (.au b):=by
 unfold nh at c;split at c
 ·cases c;rfl
 ·cases c
def c7(c:eX e (d6 Tc) x)(f:dv e d Tx)(i:dv e b Tq)(j:o8 Tc b=aq):gY e (.Compare d [Tc] [b] SD) (aZ<|ac x Tx Tq):=by
 refine tN (P5 c f i j) λy h E l=>?_;let⟨k,L,g,@SG,z,ao,n,o⟩:=l;refine uG ⟨k,L,.im<|.au g,SG,z,ao,?_,λv P SW Sm p a m=>⟨g,a.1,o P SW p (by rw[a.2,cp]at m;exact m)⟩⟩;let⟨@r,t,D⟩:=bK.mp n;let⟨@u,q,s⟩:=cC.mp D;cases s;rw[t,<-rx q]
@[simp] def eH(N:aE Bool):aE Bool:=λk=>(N k).map λr=>(!r.1,r.2)
variable{N:aE Bool}
def hs(c:gY e d N):gY e (.UnaryOp .Not d SD) (eH N):=by
 refine tN (PD c) λy h E a=>?_;let⟨k,L,g,@SG,z,ao,b,o⟩:=a;let⟨@r,t,D⟩:=cC.mp b;cases D;exact⟨k,L,r.1,_,z,ao,t,o⟩
@[simp] def dM(N c:aE Bool):aE Bool:=λk=>(N k).bind λr=>if r.1=V then c r.2 else Z (aq,r.2)
@[simp] def fh(N c:aE Bool):aE Bool:=λk=>(N k).bind λr=>if r.1=V then Z (V,r.2) else c r.2
variable{E:Bool->ax->Prop}{c:aE Bool}
def Fi(l:jr (dM N c) y h E):Gv (jr N) (jr c) y h E:=by
 let⟨k,L,g,@SG,z,ao,e,o⟩:=l;let⟨@⟨b,So⟩,t,D⟩:=bK.mp e;refine⟨k,L,b,So,z,ao,t,λSr SI d a=>?_⟩;cases b with
 |true=>
  rw[aN rfl];rw[aN rfl]at D;exact⟨So,SI,g,SG,d,a.ao,D,λSK SU i j=>o SK SU i (by
   have:=ba.trans (Sm:=[]) (by rw[cp];exact a) j (λf m=>nomatch m)
   rwa [cp]at this)⟩
 |false=>
  rw[aT d7]at D ⊢;cases D;exact o Sr SI d a
def Kf(l:jr (fh N c) y h E):EI (jr N) (jr c) y h E:=by
 let⟨k,L,g,@SG,z,ao,e,o⟩:=l;let⟨@⟨b,So⟩,t,D⟩:=bK.mp e;refine⟨k,L,b,So,z,ao,t,λSr SI d a=>?_⟩;cases b with
 |false=>
  rw[aT d7]at D ⊢;exact⟨So,SI,g,SG,d,a.ao,D,λSK SU i j=>o SK SU i (by
   have:=ba.trans (Sm:=[]) (by rw[cp];exact a) j (λf m=>nomatch m)
   rwa [cp]at this)⟩
 |true=>
  rw[aN rfl]at D ⊢;cases D;exact o Sr SI d a
def eY(e:aK)(a:a_)(N:aE Bool):Prop:=(∀ ⦃r⦄,Bs e a (jr N) r)
def AU{I:er}(c:jN e a I)(j:∀y h E,S4 y h E->I y h E):jN e a S4:=λb G m y h E i d=>c b G m y h E i (j y h E d)
def q8(c:gY e d N):eY e (.BoolOp .And [d] SD) N:=IQ c
def i2(c:gY e d N):eY e (.BoolOp .Or [d] SD) N:=Lv c
def oC(c:gY e d N)(a:eY e (.BoolOp .And (b::u) SD) q):eY e (.BoolOp .And (d::b::u) SD) (dM N q):=AU (M8 c a) λ_ X X l=>Fi l
def hy(c:gY e d N)(a:eY e (.BoolOp .Or (b::u) SD) q):eY e (.BoolOp .Or (d::b::u) SD) (fh N q):=AU (Ji c a) λ_ X X l=>Kf l
def eY.gO(c:eY e a N):gY e a N:=jN.pt c
@[simp] def fu(N:aE Bool):aE ak:=λk=>(N k).map λr=>(.im<|.au r.1,r.2)
def wY(c:b4 e a (fu N)):bE e a λy h E=>jr N y h λb P=>E (.au b) P:=by
 refine eb c λy h E f=>?_;let⟨k,L,g,@SG,z,ao,i,o⟩:=f;refine⟨k,L,.im<|.au g,SG,z,ao,by unfold fu;rw[i];rfl,λv P SW Sm j d m=>?_⟩;rw[show v=.au g from d.1];exact o P SW j (by rw[d.2,cp]at m;exact m)
def Fu(c:bE e a λy h E=>jr N y h λb P=>E (.au b) P):b4 e a (fu N):=by
 refine eb c λy h E d=>?_;let⟨k,L,u,@SG,z,ao,f,o⟩:=d;let⟨@r,t,D⟩:=cC.mp f;cases D;exact⟨k,L,r.1,_,z,ao,t,λP SW g m=>o _ P SW [] g ⟨rfl,rfl⟩ (by rw[cp];exact m)⟩
def eU{N:aE ak}(c:b4 e a N):b4 e a (fu<|aZ N):=by
 refine eb c λy h E b=>?_;let⟨k,L,u,@SG,z,ao,d,o⟩:=b;let⟨@r,t,D⟩:=cC.mp d;let⟨@f,i,j⟩:=bK.mp t;let⟨@g,l,m⟩:=cC.mp j;cases m;cases D;exact⟨k,L,f.1,_,z,ao,i,by rw[rx l];exact o⟩
def Mv(c:b4 e d (fu N)):b4 e (.UnaryOp .Not d SD) (fu<|eH N):=by
 refine Fu (eb (OS<|wY c) λy h E a=>?_);let⟨k,L,g,@SG,z,ao,b,o⟩:=a;let⟨@r,t,D⟩:=cC.mp b;cases D;exact⟨k,L,r.1,_,z,ao,t,λP SW f m=>⟨_,rfl,o P SW f m⟩⟩
def lA{Tc}{N:aE ak}(c:b4 e d N):b4 e (.BoolOp Tc [d] SD) N:=Iz c
def g5(c:b4 e d (fu N))(a:b4 e (.BoolOp .And (b::u) SD) (fu q)):b4 e (.BoolOp .And (d::b::u) SD) (fu<|dM N q):=by
 refine Fu (eb (Ka (wY c)<|wY a) λy h E l=>?_);have:=Fi l;let⟨k,L,g,@SG,z,ao,f,o⟩:=this;exact⟨k,L,g,SG,z,ao,f,λP SW i m=>⟨g,rfl,o P SW i m⟩⟩
@[simp] def wO(g:aE Bool)(d b:aE ak):aE ak:=λk=>(g k).bind λr=>if r.1=V then d r.2 else b r.2
def ba.seq(d:ba h L Sr SI)(b:ba Sr SI SK SU):ba h L SK SU:=by
 have:=ba.trans (Sm:=[]) (by rw[cp];exact d) b (λf a=>nomatch a)
 rwa [cp]at this
def G9{Tx Tq:aE ak}(l:gY e g cv)(m:b4 e d Tx)(n:b4 e b Tq):b4 e (.IfExp g d b SD) (wO cv Tx Tq):=by
 refine eb (IW l m n) λy h E p=>?_;let⟨k,L,u,@SG,z,ao,q,o⟩:=p;let⟨@⟨I,So⟩,t,D⟩:=bK.mp q;refine⟨k,L,I,So,z,ao,t,λSr SI j a=>?_⟩;cases I with
 |true=>
  rw[aN rfl]at D ⊢;exact⟨So,SI,u,SG,j,a.ao,D,λv SK SU Sm c f i=>o v SK SU Sm c f<|a.seq i⟩
 |false=>
  rw[aT d7]at D ⊢;exact⟨So,SI,u,SG,j,a.ao,D,λv SK SU Sm c f i=>o v SK SU Sm c f<|a.seq i⟩
end
def km(h:ax)(y:aS):List bC->List aj->List af->Prop
 |[],R,Sm=>R=[]/\Sm=[]
 |n::Sy,R,Sm=>∃v u a b0,R=v::u/\iu h y n v a/\km h y Sy u b0/\Sm=a++b0
def gL(N:aE (List bC)):e_:=(λy h E=>∃k L u SG,bf h k y L/\L.Nodup/\N k=Z (u,SG)/\∀R P SW Sm,bf P SG y SW->km P y u R Sm->ba h L P (SW++Sm)->E R P)
def fl(e:aK)(Sl:List a_)(N:aE (List bC)):Prop:=(∀ ⦃r⦄,AP e Sl (gL N) r)
def B4{I S4:e_}(c:g7 e Sl I)(j:∀y h E,S4 y h E->I y h E):g7 e Sl S4:=λSD G m y h E i a=>c SD G m y h E i (j y h E a)
def ay:aE (List bC):=(λk=>Z ([],k))
@[simp] def ai(N:aE bC)(c:aE (List bC)):aE (List bC):=λk=>(N k).bind λr=>(c r.2).map λo=>(r.1::o.1,o.2)
def ba.ku(m:ba h L P O)(r:O.Perm SQ):ba h L P SQ:=⟨m.keep,λd a=>m.sub d<|r.mem_iff.mpr a,(r.nodup_iff).mp m.ao,m.tup,m.grow⟩
def ba.less(m:ba h L P O)(r:(SQ++az).Perm O):ba h L P SQ:=
 ⟨m.keep,λd a=>m.sub d<|r.mem_iff.mp<|c5 _ a,(dn.mp<|(r.nodup_iff).mpr m.ao).1,m.tup,m.grow⟩
section
variable{e:aK}
def lY:fl e [] ay:=by
 refine B4 qa λy h E a=>?_;let⟨k,L,u,@SG,z,ao,b,o⟩:=a;cases b;exact o [] h L [] z ⟨rfl,rfl⟩ (by rw[cp];exact ba.perm ao (List.Perm.refl _))
def de{N:aE bC}{c:aE (List bC)}(j:dv e a N)(l:fl e Sl c)(m:bw (a::Sl) e.env=(aq,b1 a e.env)::bw Sl e.env:=by rfl):fl e (a::Sl) (ai N c):=by
 refine B4 (l1 j l m) λy h E p=>?_;let⟨k,L,u,@SG,z,ao,q,o⟩:=p;let⟨@⟨f,So⟩,t,D⟩:=bK.mp q;let⟨@⟨SE,S3⟩,r,s⟩:=cC.mp D;cases s;refine⟨k,L,f,So,z,ao,t,λv Sr SI i w S5 b=>⟨So,SI,SE,_,w,(dn.mp b.ao).1,r,λR SK SU b0 x Tp g=>?_⟩⟩;refine o (v::R) SK SU (i++b0) x ⟨v,R,i,b0,rfl,S5.mono g.tup λd A n a=>g.keep d n a λc=>?_,Tp,rfl⟩ ((b.trans g S5.chg).ku ?_)
 ·exact (dn.mp b.ao).2.2 d c d A rfl
 ·rw[b6];exact fg _ d3
end
def hX(k:aP):List bC->Option (List ak)
 |[]=>Z []
 |n::Sy=>(dF k n).bind λp=>(hX k Sy).map λC=>p::C
def md(h:ax):List ak->List aj->Prop
 |[],R=>R=[]
 |p::C,R=>∃v u,R=v::u/\e9 h p v/\md h C u
theorem km.read{h:ax}{k:aP}{y:aS}{L:List af}(z:bf h k y L):∀{Sy:List bC}{R:List aj}{Sm:List af}{C:List ak},km h y Sy R Sm->hX k Sy=Z C->md h C R
 |[],_,_,_,c,a=>by cases a;exact c.1
 |n::Sy,_,_,_,c,a=>by
  let⟨v,u,g,@b0,rfl,t,D,rfl⟩:=c;let⟨@p,b,d⟩:=bK.mp a;let⟨@C,e,f⟩:=cC.mp d;cases f;exact⟨v,u,rfl,t.read z b,km.read z D e⟩
def eJ:List bC->aP->Option (List ak×aP)
 |[],k=>Z ([],k)
 |.bY p::Sy,k=>(eJ Sy k).map λr=>(p::r.1,r.2)
 |.aH j::Sy,k=>(ed j k).bind λr=>(eJ Sy r.2).map λo=>(r.1::o.1,o.2)
def Bt{j:Nat}(z:bf h k y L)(c:ed j k=Z (p,SG)):∃v SI Sm,y[j]?=Z (Z v)/\ct h p v Sm/\bf h SG y SI/\(SI++Sm).Perm L:=by
 unfold ed at c;split at c
 ·rename_i a hd;split at c
  ·rename_i b;cases c;let⟨@v,t,D⟩:=z.dG hd b;exact⟨v,L,[],t,D,z,by rw[cp]⟩
  ·cases c;let⟨v,SI,@SU,t,D,d,e⟩:=z.out hd;exact⟨v,SU,SI,t,D,d,e⟩
 ·cases c
def kx:(O++(SQ++az)).Perm (SQ++(O++az)):=by
 rw[<-b6,<-b6];exact gu _ d3
theorem nv{h:ax}{y:aS}:∀{Sy:List bC}{R:List aj}{Sm L:List af}{k SG:aP}{C:List ak},bf h k y L->km h y Sy R Sm->eJ Sy k=Z (C,SG)->∃SI b,bf h SG y SI/\dW h C R b/\(SI++b).Perm (L++Sm)
 |[],_,_,L,_,_,_,z,c,a=>by
  cases a;exact⟨L,[],z,⟨c.1,rfl⟩,by rw[c.2]⟩
 |.bY p::Sy,_,_,L,k,_,_,z,c,a=>by
  let⟨v,u,b,@b0,rfl,t,D,rfl⟩:=c;rw[eJ]at a;let⟨@r,f,g⟩:=cC.mp a;cases g;let⟨SI,@d,e,i,l⟩:=nv (SG:=r.2) (C:=r.1) z D f;exact⟨SI,b++d,e,⟨v,u,b,d,rfl,t,i,rfl⟩,kx.trans<|(fg _ l).trans kx⟩
 |.aH j::Sy,_,_,L,k,_,_,z,c,a=>by
  let⟨v,u,b,@b0,rfl,@⟨t,rfl⟩,D,rfl⟩:=c;rw[eJ]at a;let⟨@⟨p,So⟩,n,o⟩:=bK.mp a;let⟨@r,f,g⟩:=cC.mp o;cases g;let⟨w,SI,@d,e,i,l,q⟩:=Bt z n;rw[t]at e;cases e;let⟨SU,@m,S1,S6,s⟩:=nv (SG:=r.2) (C:=r.1) l D f;refine⟨SU,d++m,S1,⟨v,u,d,m,rfl,i,S6,rfl⟩,kx.trans<|(fg _ s).trans ?_⟩;rw[<-b6];exact gu _ (d3.trans q)
@[simp] def ix:List bC->List ak->aP->aP
 |.aH j::Sy,p::C,k=>ix Sy C (match k[j]? with|some (Z .cL)=>k.set j (Z p)|_=>k)
 |.bY _::Sy,_::C,k=>ix Sy C k
 |_,_,k=>k
theorem vu{h T5:ax}{y:aS}:∀{Sy:List bC}{C:List ak}{R:List aj}{Sm L SF:List af}{k:aP},bf h k y L->km T5 y Sy R SF->dW h C R Sm->∃SI b,bf h (ix Sy C k) y SI/\(SI++b).Perm (L++Sm)
 |[],C,_,Sm,L,_,k,z,_,_=>⟨L,Sm,by unfold ix;exact z,List.Perm.refl _⟩
 |.bY _::Sy,[],_,Sm,L,_,k,z,_,_=>⟨L,Sm,by unfold ix;exact z,List.Perm.refl _⟩
 |.aH _::Sy,[],_,Sm,L,_,k,z,_,_=>⟨L,Sm,by unfold ix;exact z,List.Perm.refl _⟩
 |.bY _::Sy,p::C,_,Sm,L,_,k,z,c,l=>by
  let⟨v,u,m,@n,rfl,t,D,rfl⟩:=c;let⟨o,Tg,b,@b0,a,i,g,rfl⟩:=l;cases a;let⟨SI,@d,e,f⟩:=vu (k:=k) z D g;refine⟨SI,b++d,by rw[ix];exact e,kx.trans<|(fg _ f).trans kx⟩
 |.aH j::Sy,p::C,_,Sm,L,_,k,z,c,l=>by
  let⟨v,u,m,@n,rfl,@⟨t,X⟩,D,rfl⟩:=c;let⟨o,Tg,b,@b0,a,i,g,rfl⟩:=l;cases a;rw[ix];split
  ·let⟨SI,@U,e,f⟩:=z.back i t;let⟨SU,@d,S1,S6⟩:=vu e D g;refine⟨SU,d++U,S1,?_⟩;rw[<-b6,<-b6];refine (gu _ S6).trans ?_;rw[b6];refine (fg _ d3).trans ?_;rw[<-b6];exact gu _ f
  ·let⟨SI,@d,e,f⟩:=vu z D g;exact⟨SI,b++d,e,kx.trans<|(fg _ f).trans kx⟩
def gA:List ak->Option (List ab)
 |[]=>Z []
 |.im p::C=>(gA C).map λu=>p::u
 |_::_=>Y
@[simp] def qk(C:List ak):ak:=match gA C with
 |some is=>.im (.tup is)
 |none=>.ou C
@[simp] def rX(C:List ak):ak:=match gA C with
 |some is=>.lst is
 |none=>.hp C
theorem x8{h:ax}:∀{C:List ak}{R:List aj}{Sm:List af}{is:List ab},dW h C R Sm->gA C=Z is->bF h is R/\Sm=[]
 |[],_,_,_,c,a=>by cases a;exact c
 |.im p::C,_,_,_,c,a=>by
  let⟨v,u,g,@b0,rfl,@⟨t,rfl⟩,D,rfl⟩:=c;rw[gA]at a;let⟨@r,d,e⟩:=cC.mp a;cases e;let@⟨f,rfl⟩:=x8 D d;exact⟨⟨v,u,rfl,t,f⟩,rfl⟩
 |.cL::_,_,_,_,_,a=>by rw[gA]at a;cases a;all_goals (intro X b;cases b)
 |.dr _::_,_,_,_,_,a=>by rw[gA]at a;cases a;all_goals (intro X b;cases b)
 |.lst _::_,_,_,_,_,a=>by rw[gA]at a;cases a;all_goals (intro X b;cases b)
 |.dC _::_,_,_,_,_,a=>by rw[gA]at a;cases a;all_goals (intro X b;cases b)
 |.aF _::_,_,_,_,_,a=>by rw[gA]at a;cases a;all_goals (intro X b;cases b)
 |.hp _::_,_,_,_,_,a=>by rw[gA]at a;cases a;all_goals (intro X b;cases b)
 |.ou _::_,_,_,_,_,a=>by rw[gA]at a;cases a;all_goals (intro X b;cases b)
 |.k0 _::_,_,_,_,_,a=>by rw[gA]at a;cases a;all_goals (intro X b;cases b)
 |.dL _::_,_,_,_,_,a=>by rw[gA]at a;cases a;all_goals (intro X b;cases b)
 |.r0 _ _::_,_,_,_,_,a=>by rw[gA]at a;cases a;all_goals (intro X b;cases b)
@[simp] def cB(N:aE (List bC)):aE ak:=λk=>(N k).bind λr=>(eJ r.1 r.2).bind λo=>if o.1.length<=100000 then Z (qk o.1,o.2) else Y
@[simp] def ec(N:aE (List bC)):aE ak:=λk=>(N k).bind λr=>(eJ r.1 r.2).bind λo=>if o.1.length<=100000 then Z (rX o.1,o.2) else Y
def KL{C:List ak}{r:af}(m:cS h P)(c:dW h C R Sm)(a:P r=Z (.tup R)):∃i,ct P (qk C) (.ref r) i/\i=Sm:=by
 unfold qk;split
 ·rename_i is Sq;let@⟨b,rfl⟩:=x8 c Sq;exact⟨[],⟨⟨r,R,rfl,a,b.mono m.tupS.tup⟩,rfl⟩,rfl⟩
 ·exact⟨Sm,⟨r,R,rfl,a,c.mono m.tupS λd X n o=>m d n o⟩,rfl⟩
def NB{C:List ak}{r:af}(m:cS h P)(c:dW h C R Sm)(a:P r=Z (.lst R)):ct P (rX C) (.ref r) (r::Sm):=by
 unfold rX;split
 ·rename_i is Sq;let@⟨b,rfl⟩:=x8 c Sq;exact⟨r,R,rfl,a,b.mono m.tupS.tup,rfl⟩
 ·exact⟨r,R,Sm,rfl,a,c.mono m.tupS λd X n o=>m d n o,rfl⟩
def ma(c:s<=100000):s<=sizeLine:=ee c ∅
def ba.add{r:af}{n:ff}(d:ba h L Sr O)(a:Sr r=Y)(g:∀f∈O,fV Sr f):ba h L (upd Sr r n) (O++[r]):=by
 have m:cS Sr (upd Sr r n):=(cS.refl Sr).upd a;have:=ba.new (Sm:=[]) (i:=[r]) (by rw[cp];exact d) m (fk _ _) (λf b=>by rw[cO.mp b];exact a) g;exact this
def ba.same(d:ba h L Sr O)(m:cS Sr SK):ba h L SK O:=
 ⟨λf n a b=>m _ _<|d.keep f n a b,d.sub,d.ao,d.tup.trans m.tupS,λf n a=>let ⟨Th,c⟩:=d.grow f n a;⟨Th,m _ _ c⟩⟩
section
variable{e:aK}
def j7{g}(c:fl e Sl N):b4 e (.Tuple Sl g SD) (cB N):=by
 refine eb (O9 c) λy h E j=>?_;let⟨k,L,u,@SG,z,ao,l,o⟩:=j;let⟨@⟨Sy,So⟩,t,D⟩:=bK.mp l;let⟨@⟨C,S3⟩,p,b⟩:=bK.mp D;refine⟨k,L,Sy,So,z,ao,t,λR Sr SI F q S5 s=>?_⟩;let⟨SU,@b0,v,f,Tb⟩:=nv q S5 p;split at b
 ·rename_i w;cases b;have x:R.length<=100000:=by rw[<-f.length];exact w
  refine⟨ma x,λr A=>?_⟩;have m:cS Sr (upd Sr r<|.tup R):=(cS.refl Sr).upd A;let⟨@i,B,rfl⟩:=KL m f eF;exact o _ _ SU i (v.mono m.tupS λd X n a=>m d n a) B ((s.ku Tb.symm).same m)
 ·cases b
def e3(c:fl e Sl N):b4 e (.List Sl SD) (ec N):=by
 refine eb (IH c) λy h E p=>?_;let⟨k,L,u,@SG,z,ao,q,o⟩:=p;let⟨@⟨Sy,So⟩,t,D⟩:=bK.mp q;let⟨@⟨C,S3⟩,s,g⟩:=bK.mp D;refine⟨k,L,Sy,So,z,ao,t,λR Sr SI F v S5 w=>?_⟩;let⟨SU,@b0,j,i,Tb⟩:=nv v S5 s;split at g
 ·rename_i x;cases g;have A:R.length<=100000:=by rw[<-i.length];exact x
  refine⟨ma A,λr l=>?_⟩;have m:cS Sr (upd Sr r<|.lst R):=(cS.refl Sr).upd l;have B:=NB m i (r:=r) eF;refine o _ _ SU (r::b0) (j.mono m.tupS λd X n a=>m d n a) B (((w.ku Tb.symm).add l λf b=>?_).ku ?_)
  ·rcases dt.mp b with b|b
   ·exact j.chg f b
   ·exact i.chg f b
  ·rw[b6];exact fg _ d3
 ·cases g
def gH(e:aK)(x:ae)(Tc:List ak->Option ak):Prop:=(
 ey e x λw h E=>∃C p,md h C w/\Tc C=Z p/\∀v P Sm,cS h P->ct P p v Sm->Sm.Nodup->(∀d∈Sm,h d=Y)->E v P)
@[simp] def bT(Tc:List ak->Option ak)(N:aE (List bC)):aE ak:=λk=>(N k).bind λr=>(hX r.2 r.1).bind λC=>(Tc C).map λp=>(p,r.2)
def Ei(c:k3 (bT Tc N) y h E):
  gL N y h λw Sr=>∃C p,md Sr C w/\Tc C=Z p/\∀v P Sm,cS Sr P->ct P p v Sm->Sm.Nodup->(∀d∈Sm,Sr d=Y)->E v P:=by
 let⟨k,L,u,@SG,z,ao,f,o⟩:=c;let⟨@⟨Sy,So⟩,t,D⟩:=bK.mp f;let⟨@C,g,i⟩:=bK.mp D;let⟨@p,j,l⟩:=cC.mp i;cases l;refine⟨k,L,Sy,So,z,ao,t,λR Sr SI x b S5 m=>⟨C,_,S5.read b g,j,λv SK Sm e q r s=>?_⟩⟩;exact o v SK SI Sm (b.mono e.tupS λd X n a=>e d n a) q (m.new e r s b.chg)
def Cr{id:String}(b:gH e (.builtin id) Tc)(d:dP e f)(g:e.aw f=Y)(h:eB f=Z (.builtin id))(i:fl e (a::Sl) N)(j:f ≠ "__name__" := by decide)(k:(f==("__debug__" : aC))=aq:=by decide)(l:bw (a::Sl) e.env=(aq,b1 a e.env)::bw Sl e.env:=by rfl)(m:(e8 SD<|bw Sl e.env).any (·.1)=aq:=by rfl):
  b4 e (.Call (.Name f r) (a::Sl) [] SD) (bT Tc N):=eb (sF b d g h i j k l m) λ_ X X c=>Ei c
def kV{F:String}(b:gH e (.type F) Tc)(d:dP e f)(g:e.aw f=Y)(h:eB f=Z (.type F))(i:fl e (a::Sl) N)(j:f ≠ "__name__" := by decide)(k:(f==("__debug__" : aC))=aq:=by decide)(l:bw (a::Sl) e.env=(aq,b1 a e.env)::bw Sl e.env:=by rfl)(m:(e8 SD<|bw Sl e.env).any (·.1)=aq:=by rfl):
  b4 e (.Call (.Name f r) (a::Sl) [] SD) (bT Tc N):=eb (Pr b d g h i j k l m) λ_ X X c=>Ei c
abbrev cX:=List ak->Option (ak×List ak)
def jA(s:Nat)(U:cX):cF:=(λR h E X=>R.length=s/\∃C L u G,dW h C R L/\L.Nodup/\U C=Z (u,G)/\∀v P Sm i,ct P u v Sm->dW P G R i->ba h L P (Sm++i)->E v P)
@[simp] def a3(s:Nat)(U:cX)(N:aE (List bC)):aE ak:=λk=>(N k).bind λr=>if r.1.length=s then (eJ r.1 r.2).bind λo=>(U o.1).map λu=>(u.1,ix r.1 u.2 o.2) else Y
theorem km.length{h:ax}{y:aS}:∀{Sy:List bC}{R:List aj}{Sm:List af},km h y Sy R Sm->Sy.length=R.length
 |[],_,_,c=>by rw[c.1];rfl
 |n::Sy,_,_,c=>by
  let⟨v,u,a,@b0,rfl,t,D,rfl⟩:=c;rw[dA,dA,km.length D]
def CR{U:cX}{Sn:fA}(c:k3 (a3 s U N) y h E):yg (jA s U) [] Sn (gL N) y h E:=by
 let⟨k,L,u,@SG,z,ao,l,o⟩:=c;let⟨@⟨Sy,So⟩,t,D⟩:=bK.mp l;split at D
 ·rename_i m;let⟨@⟨C,S3⟩,p,q⟩:=bK.mp D;let⟨@⟨Tg,G⟩,r,w⟩:=cC.mp q;cases w;refine⟨k,L,Sy,So,z,ao,t,λR Sr SI al x S5 A=>?_⟩;let⟨SU,b0,g,B,Tb⟩:=nv x S5 p;have b:=A.ku (Tb.symm.trans d3);rw[cp];refine⟨by rw[<-S5.length];exact m,C,b0,_,G,B,(dn.mp b.ao).1,r,λv j Sm i F H e=>?_⟩;have I:=b.trans e g.chg;have J:∀d∈SU,d∉b0:=λd f M=>(dn.mp b.ao).2.2 d M d f rfl;have O:bf j S3 y SU:=g.mono e.tup λd f n a=>e.keep d n a (J d f);let⟨P,@Q,S,T⟩:=vu O S5 H;refine o v j P Sm S F (I.less (az:=Q) ?_);refine List.Perm.trans ?_ d3;rw[b6];refine (fg _ d3).trans ?_;rw[<-b6];refine (gu _ T).trans ?_;rw[b6];exact fg _ d3
 ·cases D
variable{q:Nat}
def Li{U:cX}{x:af}(L:gG e.prog e.w e.K e.aw e.base hK q x fd SA (jA s U))(b:d_ q e.A)(d:dP e f)(g:e.aw f=Z (.ref x))(h:Γ e.K (.ref x)=V)(i:gQ e.K fd SA [])(j:fl e (a::Sl) N)(k:(f==("__debug__" : aC))=aq:=by decide)(m:bw (a::Sl) e.env=(aq,b1 a e.env)::bw Sl e.env:=by rfl)(n:(e8 SD<|bw Sl e.env).any (·.1)=aq:=by rfl):
  b4 e (.Call (.Name f r) (a::Sl) [] SD) (a3 s U N):=eb (Iv L b d g h i .nil CA j k m n) λ_ X X c=>CR c
inductive jq where
 | aX|dX (p:ak)|eu|bX
abbrev bo:=aP->Option (jq×aP)
def c0(SR:List Nat)(y a:aS):Prop:=(a.length=y.length/\∀j∈SR,a[j]?=y[j]?)
def c0.refl:c0 SR y y:=⟨rfl,λ_ X=>rfl⟩
def c0.trans{a:aS}(d:c0 SR y TU)(b:c0 SR TU a):c0 SR y a:=⟨b.1.trans d.1,λj Sq=>(b.2 j Sq).trans<|d.2 j Sq⟩
def c0.set{B:Nat}{v:Option aj}(c:B∉SR):c0 SR y (y.set B v):=⟨wm,λj Sq=>mL λa=>c (by rw[a];exact Sq)⟩
def k5(SR:List Nat)(Sn:lS)(y:aS)(h:ax)(L:List af)(SG:aP):jq->Prop
 |.aX=>∀a P SW,c0 SR y a->bf P SG a SW->ba h L P SW->Sn.aX a P
 |.eu=>∀a P SW,c0 SR y a->bf P SG a SW->ba h L P SW->Sn.eu a P
 |.bX=>∀a P SW,c0 SR y a->bf P SG a SW->ba h L P SW->Sn.bX a P
 |.dX p=>∀v a P SW Sm,c0 SR y a->bf P SG a SW->ct P p v Sm->ba h L P (SW++Sm)->Sn.dX v P
def nA(SR:List Nat)(N:bo):eW:=(λSn y h=>∃k L aO SG,bf h k y L/\L.Nodup/\N k=Z (aO,SG)/\k5 SR Sn y h L SG aO)
def iY(e:aK)(SR:List Nat)(z:bQ)(N:bo):Prop:=(∀ ⦃r⦄,B9 e z (nA SR N) r)
def hE(e:aK)(SR:List Nat)(a:List bQ)(N:bo):Prop:=(∀ ⦃r⦄,FA e a (nA SR N) r)
variable{S4:eW}
def k1{I:eW}(c:hv e z I)(j:∀Sn y h,S4 Sn y h->I Sn y h):hv e z S4:=λG m y h k i a=>c G m y h k i (j k y h a)
def n7{z:List bQ}{I:eW}(c:gD e z I)(j:∀Sn y h,S4 Sn y h->I Sn y h):gD e z S4:=λG m y h k i a=>c G m y h k i (j k y h a)
def k5.on{aO:jq}(c:k5 SR Sn y h L SG aO)(Tn:c0 SR y TU)(m:ba h L Sr SI):k5 SR Sn TU Sr SI SG aO:=by
 cases aO with
 |aX=>exact λa P SW x z Ss=>c a P SW (Tn.trans x) z (m.seq Ss)
 |eu=>exact λa P SW x z Ss=>c a P SW (Tn.trans x) z (m.seq Ss)
 |bX=>exact λa P SW x z Ss=>c a P SW (Tn.trans x) z (m.seq Ss)
 |dX p=>exact λv a P SW Sm x z b Ss=>c v a P SW Sm (Tn.trans x) z b (m.seq Ss)
def eo:bo:=(λk=>Z (.aX,k))
@[simp] def bh(N c:bo):bo:=λk=>(N k).bind λr=>match r.1 with
 |.aX=>c r.2
 |aO=>Z (aO,r.2)
def eQ:hE e SR [] eo:=by
 refine n7 Jj λSn y h a=>?_;let⟨k,L,aO,@SG,z,ao,b,o⟩:=a;cases b;exact o y h L c0.refl z (ba.perm ao<|List.Perm.refl _)
variable{N:bo}
def bJ(c:iY e SR z N):hE e SR [z] N:=KS c
def Ia{c:bo}(l:nA SR (bh N c) Sn y h):AV (nA SR N) (nA SR c) Sn y h:=by
 let⟨k,L,aO,@SG,z,ao,a,o⟩:=l;let⟨@⟨b,So⟩,t,D⟩:=bK.mp a;cases b with
 |aX=>exact⟨k,L,.aX,So,z,ao,t,λe P SW Tn d m=>⟨So,SW,aO,SG,d,m.ao,D,o.on Tn m⟩⟩
 |eu=>cases D;exact⟨k,L,.eu,So,z,ao,t,o⟩
 |bX=>cases D;exact⟨k,L,.bX,So,z,ao,t,o⟩
 |dX p=>cases D;exact⟨k,L,.dX p,So,z,ao,t,o⟩
def bB{a:List bQ}{c:bo}(t:iY e SR z N)(D:hE e SR a c):hE e SR (z::a) (bh N c):=n7 (uH t D) λ_ X X l=>Ia l
def FD:bo:=(λ_=>Y)
def It:iY e SR z FD:=k1 Mg λ_ _ _ ⟨_,_,_,_,_,_,c,_⟩=>by cases c
@[simp] def i3(N:aE ak):bo:=λk=>(N k).map λr=>(.aX,r.2)
variable{N:aE ak}
def lq(c:b4 e a N)(b:mg a Y SD.line e.env=pure aq:=by rfl):iY e SR (.Expr a SD) (i3 N):=by
 refine k1 (DF c b) λSn y h d=>?_;let⟨k,L,aO,@SG,z,ao,f,o⟩:=d;let⟨@⟨u,So⟩,t,D⟩:=cC.mp f;cases D;exact⟨k,L,u,_,z,ao,t,λv P SW Sm g i m=>o y P SW c0.refl g<|m.less<|List.Perm.refl _⟩
@[simp] def cy(N:aE ak):bo:=λk=>(N k).map λr=>(.dX r.1,r.2)
def cM(c:b4 e a N):iY e SR (.Return (Z a) SD) (cy N):=by
 refine k1 (IX c) λSn y h b=>?_;let⟨k,L,aO,@SG,z,ao,d,o⟩:=b;let⟨@⟨u,So⟩,t,D⟩:=cC.mp d;cases D;exact⟨k,L,u,_,z,ao,t,λv P SW Sm f g m=>o v y P SW Sm c0.refl f g m⟩
@[simp] def dD(g:aE Bool)(d b:bo):bo:=λk=>(g k).bind λr=>if r.1=V then d r.2 else b r.2
variable{Tq:bo}
def eE{d b:List bQ}{Tx:bo}(f:gY e g cv)(i:hE e SR d Tx)(j:hE e SR b Tq):iY e SR (.If g d b SD) (dD cv Tx Tq):=by
 refine k1 (Am f i j) λSn y h l=>?_;let⟨k,L,aO,@SG,z,ao,m,o⟩:=l;let⟨@⟨I,So⟩,t,D⟩:=bK.mp m;refine⟨k,L,I,So,z,ao,t,λSr SI c a=>?_⟩;cases I with
 |true=>
  rw[aN rfl]at D ⊢;exact⟨So,SI,aO,SG,c,a.ao,D,o.on c0.refl a⟩
 |false=>
  rw[aT d7]at D ⊢;exact⟨So,SI,aO,SG,c,a.ao,D,o.on c0.refl a⟩
@[simp] def bS(j:Nat)(N:aE ak):bo:=λk=>(N k).bind λr=>if j<r.2.length then Z (.aX,r.2.set j<|Z r.1) else Y
variable{j:Nat}
def kJ{B:cn}(b:e.N.Nodup)(Sq:e.N[j]?=Z f)(c:jP e.env.scope f)(d:b4 e a N)(g:j∉SR)(i:mg a (Z<|.Name f B) SD.line e.env=pure aq:=by rfl)(l:e.fn f=V\/e.env.scope.names.lookup f=Z .local:=by first|exact .inl rfl|exact .inr rfl|assumption):iY e SR (.Assign [.Name f B] a SD) (bS j N):=by
 refine k1 (NZ b Sq c d i l) λSn y h m=>?_;let⟨k,L,aO,@SG,z,ao,n,o⟩:=m;let⟨@⟨u,So⟩,t,D⟩:=bK.mp n;split at D
 ·rename_i p;cases D;refine⟨k,L,u,_,z,ao,t,λv Sr SI Sm q r s=>?_⟩;let⟨SU,@b0,w,Tb⟩:=q.put (j:=j) r p;exact o _ Sr SU (c0.set g) w (s.less Tb)
 ·cases D
abbrev e1:=ak->aP->Option aP
def wd(SR:List Nat)(N:e1):gn:=(λv y h E=>∃k L p Sm SG,bf h k y L/\ct h p v Sm/\(L++Sm).Nodup/\N p k=Z SG/\∀a P SW,c0 SR y a->bf P SG a SW->ba h (L++Sm) P SW->E a P)
def hl(e:aK)(SR:List Nat)(a:a_)(N:e1):Prop:=(∀ ⦃r⦄,Be e a (wd SR N) r)
def uP{I S4:gn}(c:jf e a I)(j:∀v y h E,S4 v y h E->I v y h E):jf e a S4:=λG m y h f v E i u b=>c G m y h f v E i u (j f y h E b)
@[simp] def a9(j:Nat):e1:=λp k=>if j<k.length then Z (k.set j<|Z p) else Y
def tj(b:e.N.Nodup)(Sq:e.N[j]?=Z f)(c:jP e.env.scope f)(d:j∉SR)(g:e.fn f=V\/e.env.scope.names.lookup f=Z .local:=by first|exact .inl rfl|exact .inr rfl|assumption):hl e SR (.Name f SD) (a9 j):=by
 refine uP (L3 b Sq c g) λv y h E i=>?_;let⟨k,L,p,Sm,@SG,z,l,ao,a,o⟩:=i;unfold a9 at a;split at a
 ·rename_i m;cases a;let⟨SU,@b0,n,Tb⟩:=z.put (j:=j) l m;exact o _ h SU (c0.set d) n ((ba.perm ao<|List.Perm.refl _).less Tb)
 ·cases a
def RI(SR:List Nat)(N:List ak->aP->Option aP):i4:=(λR y h E=>∃k L C Sm SG,bf h k y L/\dW h C R Sm/\(L++Sm).Nodup/\N C k=Z SG/\∀a P SW,c0 SR y a->bf P SG a SW->ba h (L++Sm) P SW->E a P)
def qC(e:aK)(SR:List Nat)(Sl:List a_)(N:List ak->aP->Option aP):Prop:=(∀ ⦃r⦄,B6 e Sl (RI SR N) r)
@[simp] def ir:List ak->aP->Option aP
 |[],k=>Z k
 |_,_=>Y
@[simp] def eP(N:e1)(c:List ak->aP->Option aP):List ak->aP->Option aP
 |p::C,k=>(N p k).bind (c C)
 |_,_=>Y
def BI{I S4:i4}(c:m2 e Sl I)(j:∀v y h E,S4 v y h E->I v y h E):m2 e Sl S4:=λG m y h w R E i u a=>c G m y h w R E i u (j w y h E a)
def A6:qC e SR [] ir:=by
 refine BI LQ λR y h E b=>?_;let⟨k,L,C,Sm,@SG,z,c,ao,a,o⟩:=b;cases C with
 |cons p C=>cases a
 |nil=>
  cases a;exact⟨c.1,o y h L c0.refl z<|(ba.perm ao<|List.Perm.refl _).less<|List.Perm.refl _⟩
def tI{N:e1}(t:hl e SR a N)(D:qC e SR Sl c)(w:(fc (a::Sl) e.env).map (·.2)=h5 a e.env::(fc Sl e.env).map (·.2):=by rfl):qC e SR (a::Sl) (eP N c):=by
 refine BI (JW t D w) λR y h E x=>?_;let⟨k,L,C,Sm,@SG,z,A,ao,m,o⟩:=x;cases C with
 |nil=>cases m
 |cons p C=>
  let⟨v,u,i,@b0,rfl,B,q,rfl⟩:=A;let⟨@So,F,G⟩:=bK.mp (show (N p k).bind (c C)=Z SG from m);have l:((L++i)++b0).Nodup:=by rw[b6];exact ao
  refine⟨v,u,rfl,k,L,p,i,So,z,B,(dn.mp l).1,F,λTU Sr SI Tn H g=>?_⟩;have r:∀d∈b0,d∉L++i:=λd f j=>(dn.mp l).2.2 d j d f rfl;have I:dW Sr C u b0:=q.mono g.tup λd f n a=>g.keep d n a (r d f);have s:ba h (L++(i++b0)) Sr (SI++b0):=by
   refine⟨λd n a f=>g.keep d n a λc=>f ?_,λd f=>?_,dn.mpr ⟨g.ao,(dn.mp l).2.1,λd f b j a=>?_⟩,g.tup,g.grow⟩
   ·rw[<-b6];exact c5 _ c
   ·rcases dt.mp f with f|f
    ·rcases g.sub d f with c|c
     ·left;rw[<-b6];exact c5 _ c
     ·exact .inr c
    ·left;rw[<-b6];exact c3 _ f
   ·subst a;rcases g.sub d f with c|c
    ·exact r d j c
    ·let⟨@n,a,X⟩:=q.chg d j;rw[a]at c;cases c
  exact⟨So,SI,C,b0,SG,H,I,s.ao,G,λJ SK SU M O P=>o J SK SU (Tn.trans M) O<|s.seq P⟩
@[simp] def iy(s:Nat)(c:List ak->aP->Option aP):e1:=λp k=>match p with
 |.im (.tup is)=>if is.length=s then c (is.map .im) k else Y
 |.ou C=>if C.length=s then c C k else Y
 |_=>Y
theorem zk{h:ax}:∀{is:List ab}{R:List aj},bF h is R->dW h (is.map .im) R []
 |[],R,c=>⟨c,rfl⟩
 |p::is,R,c=>by
  let⟨v,@u,rfl,t,D⟩:=c;exact⟨v,u,[],[],rfl,⟨t,rfl⟩,zk D,rfl⟩
def RG(g:e.calm=V)(i:qC e SR Sl c)(j:(fc Sl e.env).length=s:=by rfl)(l:(fc Sl e.env).findIdx? (·.1)=Y:=by rfl):hl e SR (.Tuple Sl q SD) (iy s c):=by
 refine uP (PL g i j l) λv y h E m=>?_;let⟨k,L,p,Sm,@SG,z,f,ao,a,o⟩:=m;unfold iy at a;split at a
 ·rename_i is;split at a
  ·rename_i b;let@⟨⟨d,@w,rfl,t,D⟩,rfl⟩:=f;exact⟨d,w,rfl,ck.of t,by rw[<-D.length];exact b,k,L,_,[],SG,z,zk D,ao,a,o⟩
  ·cases a
 ·rename_i C;split at a
  ·rename_i b;let⟨d,@w,rfl,t,D⟩:=f;exact⟨d,w,rfl,ck.of t,by rw[<-D.length];exact b,k,L,_,Sm,SG,z,D,ao,a,o⟩
  ·cases a
 ·cases a
@[simp] def g8(N:aE ak)(c:e1):bo:=λk=>(N k).bind λr=>(c r.1 r.2).map λSG=>(.aX,SG)
def jF{c:e1}(d:b4 e a N)(f:hl e SR SY c)(g:zm [SY] a SD.line e.env=pure aq:=by rfl)(i:Fm [SY] a e.env=pure Y:=by rfl)(t:(fc [SY] e.env).map (·.2)=[h5 SY e.env]:=by rfl):iY e SR (.Assign [SY] a SD) (g8 N c):=by
 refine k1 (ON d f g i t) λSn y h j=>?_;let⟨k,L,aO,@SG,z,ao,l,o⟩:=j;let⟨@⟨u,So⟩,g1,g2⟩:=bK.mp l;let⟨@S3,m,n⟩:=cC.mp g2;cases n;exact⟨k,L,u,So,z,ao,g1,λv Sr SI Sm p q b=>⟨So,SI,u,Sm,_,p,q,b.ao,m,λr P SW Tn s w=>o r P SW Tn s<|b.seq w⟩⟩
def ie(g:aE Bool)(b:bo):Nat->bo
 |0=>λ_=>Y
 |s+1=>λk=>(g k).bind λr=>if r.1=V then (b r.2).bind λo=>match o.1 with
  |.aX=>ie g b s o.2
  |.bX=>ie g b s o.2
  |.eu=>Z (.aX,o.2)
  |.dX p=>Z (.dX p,o.2) else Z (.aX,r.2)
def pv(s:Nat)(r:rY (aQ e.prog e.w) e.A e.env e.cj)(t:gY e g cv)(u:hE e SR TR Tq):iY e SR (.While g TR [] SD) (ie cv Tq s):=by
 refine k1 (Ln r t u) λSn y h B=>?_;let⟨k,L,aO,@SG,z,ao,C,o⟩:=B;refine⟨λM a P=>∃i SW,bf P i a SW/\c0 SR y a/\ba h L P SW/\ie cv Tq M i=Z (aO,SG),⟨s,k,L,z,c0.refl,ba.perm ao<|List.Perm.refl _,C⟩,?_⟩;rintro M TU Sr ⟨So,SI,D,j,d,l⟩;cases M with
 |zero=>cases l
 |succ M=>
  rw[ie]at l;let⟨@⟨I,S3⟩,E,m⟩:=bK.mp l;refine⟨So,SI,I,S3,D,d.ao,E,λSK SU q f=>?_⟩;cases I with
  |false=>
   rw[aT d7]at m ⊢;cases m;exact o TU SK SU j q (d.seq f)
  |true=>
   rw[aN rfl]at m ⊢;let⟨@⟨x,Ts⟩,F,n⟩:=bK.mp m;refine⟨λa P=>∃i SW,bf P i a SW/\c0 SR y a/\ba h L P SW/\ie cv Tq M i=Z (aO,SG),λa P c=>⟨M,oI M,c⟩,S3,SU,x,Ts,q,f.ao,F,?_⟩;cases x with
   |aX=>exact λa P SW Tn b Ss=>⟨Ts,SW,b,j.trans Tn,(d.seq f).seq Ss,n⟩
   |bX=>exact λa P SW Tn b Ss=>⟨Ts,SW,b,j.trans Tn,(d.seq f).seq Ss,n⟩
   |eu=>
    cases n;exact λa P SW Tn b Ss=>o a P SW (j.trans Tn) b ((d.seq f).seq Ss)
   |dX p=>
    cases n;exact λv a P SW Sm Tn b G Ss=>o v a P SW Sm (j.trans Tn) b G ((d.seq f).seq Ss)
structure mM(Tr:e5)(h:ax)(Sm:List af)(C:List ab):Prop where
 go:∀P,fb h P->(∀d∈Sm,∀n,h d=Z n->P d=Z n)->∀(j:Nat) (p:ab),C[j]?=Z p->Tr.go j P/\∀f xv,Tr.qy j P f xv->cS P xv/\cD xv p f
 stop:∀P,fb h P->(∀d∈Sm,∀n,h d=Z n->P d=Z n)->Tr.stop C.length P
def rU(h:ax)(y:aS)(Sm:List af):Option (Nat×ak)->Prop
 |none=>True
 |some (j,p)=>∃v,y[j]?=Z (Z v)/\ct h p v Sm
def yz(N:aE (List ab×Option (Nat×ak))):c6:=(λy h a=>∃k L u SG,bf h k y L/\L.Nodup/\N k=Z (u,SG)/\∀Tr P SW Sm,bf P SG y SW->mM Tr P Sm u.1->rU P y Sm u.2->(∀d∈Sm,fV P d)->ba h L P (SW++Sm)->a Tr P)
def mi(e:aK)(SY TA:a_)(N:aE (List ab×Option (Nat×ak))):Prop:=(∀ ⦃r⦄,Fw e SY TA (yz N) r)
def xE{I S4:c6}(c:lJ e SY TA I)(j:∀y h Sm,S4 y h Sm->I y h Sm):lJ e SY TA S4:=λG m y h Sm i a=>c G m y h Sm i (j y h Sm a)
def dB(SY:e1)(b:bo):List ab->bo
 |[]=>λk=>Z (.aX,k)
 |f::u=>λk=>(SY (.im f) k).bind λSo=>(b So).bind λo=>match o.1 with
  |.aX=>dB SY b u o.2
  |.bX=>dB SY b u o.2
  |.eu=>Z (.aX,o.2)
  |.dX p=>Z (.dX p,o.2)
@[simp] def kI:Option (Nat×ak)->aP->aP
 |none,k=>k
 |some (j,p),k=>match k[j]? with
  |some (Z .cL)=>k.set j (Z p)
  |_=>k
@[simp] def e4(N:aE (List ab×Option (Nat×ak)))(SY:e1)(b:bo):bo:=λk=>(N k).bind λr=>(dB SY b r.1.1 r.2).map λo=>(o.1,kI r.1.2 o.2)
def ym{n:Option (Nat×ak)}(z:bf h k y L)(c:rU h y Sm n):∃SI U,bf h (kI n k) y SI/\(SI++U).Perm (L++Sm):=by
 cases n with
 |none=>exact⟨L,Sm,z,List.Perm.refl _⟩
 |some r=>
  let⟨j,p⟩:=r;let⟨@v,t,D⟩:=c;unfold kI;dsimp only;split
  ·exact z.back D t
  ·exact⟨L,Sm,z,List.Perm.refl _⟩
def nr(Tn:List Nat):Option (Nat×ak)->Prop
 |none=>True
 |some (j,_)=>j∈Tn
def QM{N:aE (List ab×Option (Nat×ak))}{A:e1}(he:rY (aQ e.prog e.w) e.A e.env e.cj)(hf:e.calm=V)(Sq:mi e SY TA N)(hm:hl e Tn SY A)(hw:hE e Tn TR Tq)(co:∀j∈SR,j∈Tn)(cr:∀k u SG,N k=Z (u,SG)->nr Tn u.2)(cs:hv e (.For SY TA TR [] SD) (z7 (yz N) (wd Tn A)<|nA Tn Tq)):iY e SR (.For SY TA TR [] SD) (e4 N A Tq):=by
 refine k1 cs λSn y h db=>?_;let⟨k,L,aO,@SG,z,ao,ds,o⟩:=db;let⟨@⟨⟨C,n⟩,So⟩,t,D⟩:=bK.mp ds;let⟨@⟨x,S3⟩,dL,eq⟩:=cC.mp D;cases eq;refine⟨k,L,(C,n),So,z,ao,t,λTr Sr SI Sm ev it ex bd al=>?_⟩;have fd:nr Tn n:=cr k _ _ t;have be:=dn.mp al.ao;have am:∀{SK:ax}{SU:List af},ba Sr SI SK SU->∀d∈Sm,∀J,Sr d=Z J->SK d=Z J:=λm d fn J a=>m.keep d J a λc=>be.2.2 d c d fn rfl;have bi:∀{SK:ax}{SU:List af}{b:aS},ba Sr SI SK SU->c0 Tn y b->rU SK b Sm n:=λ{SK SU b} m x=>by
  cases n with
  |none=>trivial
  |some r=>
   let⟨j,p⟩:=r;let⟨@v,fr,f0⟩:=ex;exact⟨v,(x.2 j fd).trans fr,f0.mono m.tup<|am m⟩
 have bm:∀{b:aS},c0 Tn y b->c0 SR y b:=λx=>⟨x.1,λj Sq=>x.2 j<|co j Sq⟩;have bn:∀{b:aS}{SK:ax}{SU:List af}{S3:aP},k5 SR Sn y h L (kI n S3) .aX->c0 Tn y b->bf SK S3 b SU->ba Sr SI SK SU->Sn.aX b SK:=λ{b SK SU S3} o x an B=>by
  let⟨H,@U,ap,Tb⟩:=ym an (bi B x);exact o b SK H (bm x) ap ((al.trans B bd).less Tb)
 refine⟨λj M as P=>M+j=C.length/\∃g SW,c0 Tn y as/\bf P g as SW/\ba Sr SI P SW/\dB A Tq (C.drop j) g=Z (x,S3),⟨C.length,rfl,So,SI,c0.refl,ev,ba.perm be.1<|List.Perm.refl _,dL⟩,?_⟩;rintro j M as P ⟨h0,g,SW,E,bs,Ss,I⟩;by_cases bv:j<C.length
 ·let@⟨f1,f2⟩:=it.go P Ss.tup (am Ss) j C[j] (by simp[bv]);rw[kK bv,dB]at I;let⟨@Ts,f4,f8⟩:=bK.mp I;let⟨@⟨ca,a1⟩,ga,Q⟩:=bK.mp f8;refine .inr ⟨f1,λb SK=>(M-1)+(j+1)=C.length/\∃g SW,c0 Tn y b/\bf SK g b SW/\ba Sr SI SK SW/\dB A Tq (C.drop<|j+1) g=Z (x,S3),λb SK c=>⟨M-1,⋯,c⟩,λf SK ge=>?_⟩;let@⟨a2,gl⟩:=f2 f SK ge;have an:=bs.mono a2.tupS λd X n a=>a2 d n a;have B:=Ss.same a2;refine⟨g,SW,.im C[j],[],Ts,an,⟨gl,rfl⟩,by rw[cp];exact B.ao,f4,λii gt H R ap cd=>?_⟩;have F:ba Sr SI gt H:=B.seq (by rw[cp]at cd;exact cd);refine⟨Ts,H,ca,a1,ap,F.ao,ga,?_⟩;cases ca with
  |aX=>exact λS T G i q s=>⟨⋯,a1,G,(E.trans R).trans i,q,F.seq s,Q⟩
  |bX=>exact λS T G i q s=>⟨⋯,a1,G,(E.trans R).trans i,q,F.seq s,Q⟩
  |eu=>
   cases Q;exact λS T G i q s=>bn o ((E.trans R).trans i) q (F.seq s)
  |dX p=>
   cases Q;intro v S T G ce i q g1 s;have ch:=F.seq s;have ci:=(E.trans R).trans i;let⟨cl,@g2,g3,hd⟩:=ym (Sm:=Sm) q (bi ch ci);refine o v S T cl ce (bm ci) g3 g1 ((al.trans ch bd).less (az:=g2) ?_);rw[b6];refine (fg cl d3).trans ?_;rw[<-b6];refine (gu ce hd).trans ?_;rw[b6,b6];exact fg _ d3
 ·have Sq:j=C.length:=⋯
  subst Sq;refine .inl ⟨it.stop P Ss.tup<|am Ss,?_⟩;rw[nP (bq _)]at I;cases I;exact bn o E bs Ss
end
section
variable{e:aK}
variable{A:e1}
def hG{N:aE (List ab×Option (Nat×ak))}{Tq:bo}(a:rY (aQ e.prog e.w) e.A e.env e.cj)(b:e.calm=V)(Sq:mi e SY TA N)(c:hl e Tn SY A)(d:hE e Tn TR Tq)(g:∀j∈SR,j∈Tn)(h:∀k u SG,N k=Z (u,SG)->nr Tn u.2)(i:∀f,mm TA e.env f=pure f:=by intro X;rfl):iY e SR (.For SY TA TR [] SD) (e4 N A Tq):=
 QM a b Sq c d g h (LB a b Sq c d i)
def Pf(Q:Φ)(t:b2):c6:=(λy h Sm=>t y h λf Sr=>∃d,f=.ref d/\(((∃w,c2 Q Sr d w)/\Sm (rj Q d) Sr)\/((∃w,ck Q Sr d w)/\Sm (tD Q d) Sr)))
variable{H:a_}
def Mt{t:b2}(p:bE e H t):lJ e SY H (Pf e.K t):=by
 intro G m y h Sm i c;refine bP (p G m y h _ i c) λv g q=>?_;let⟨f,@Sr,j,s,u⟩:=q;let⟨@d,a,o⟩:=u;subst a;cases s;rcases o with ⟨⟨w,k⟩,o⟩|⟨⟨w,k⟩,o⟩
 ·let⟨@Sw,x,r,z⟩:=j.list k;refine tA r.isList ?_;refine⟨g.heap.objs.size,[g.heap.objs.size],_,_,Sr,rfl,j.kept (S4:=g.toks) λb n a=>cw _ a,IB d _,⟨_,dH _ rfl,rfl,rfl⟩,λb l=>?_,o⟩;have a:b=g.heap.objs.size:=by simpa using l
  subst a;exact j.sd (bq _) (j.aR.fresh<|bq _)
 ·let⟨@Sw,x,r,z⟩:=j.tuple k;refine wpAny_pyIter_tuple (show g.heap.IsTuple d Sw.toArray from r) ?_;refine⟨g.heap.objs.size,[g.heap.objs.size],_,_,Sr,rfl,j.kept (S4:=g.toks) λb n a=>cw _ a,HC d _,⟨_,dH _ rfl,rfl,rfl⟩,λb l=>?_,o⟩;have a:b=g.heap.objs.size:=by simpa using l
  subst a;exact j.sd (bq _) (j.aR.fresh<|bq _)
theorem bF.get{h:ax}:∀{C:List ab}{R:List aj}{j:Nat}{p:ab},bF h C R->C[j]?=Z p->∃v,R[j]?=Z v/\cD h p v
 |[],_,_,_,_,a=>by simp at a
 |p::C,_,0,_,c,a=>by
  let⟨v,@u,rfl,t,D⟩:=c;simp at a;subst a;exact⟨v,rfl,t⟩
 |p::C,_,j+1,_,c,a=>by
  let⟨v,@u,rfl,t,D⟩:=c;let⟨@J,b,d⟩:=bF.get (j:=j) D ⇑a;exact⟨J,by simpa using b,d⟩
variable{d:af}
theorem Qi(c:h d=Z (.lst w))(hd:bF h C w):mM (rj Q d) h [d] C where
 go:=λP I q j p a=>by
  let⟨@v,b,e⟩:=hd.get a;have T:=c2.of (Q:=Q) (q d (.head _) _ c);refine⟨⟨w,v,T,b⟩,λf k ⟨g,i⟩=>?_⟩;subst g;rw[i w T]at b;cases b;exact⟨cS.refl _,e.mono I.tup⟩
 stop:=λP I q=>⟨w,c2.of<|q d (.head _) _ c,by rw[<-hd.length];exact bq _⟩
theorem Ny{n:aW}(c:h d=Z (.dq n<|.lst w))(hd:bF h C w):mM (rj Q d) h [] C where
 go:=λP I q j p a=>by
  let⟨@v,b,e⟩:=hd.get a;have T:c2 Q P d w:=.inl (.inr ⟨n,I.dq _ _ _ c⟩);refine⟨⟨w,v,T,b⟩,λf k ⟨g,i⟩=>?_⟩;subst g;rw[i w T]at b;cases b;exact⟨cS.refl _,e.mono I.tup⟩
 stop:=λP I q=>⟨w,.inl<|.inr ⟨n,I.dq _ _ _ c⟩,by rw[<-hd.length];exact bq _⟩
theorem G5(c:h d=Z (.tup w))(hd:bF h C w):mM (tD Q d) h [] C where
 go:=λP I q j p a=>by
  let⟨@v,b,e⟩:=hd.get a;have T:=ck.of (Q:=Q) (I.tup d _ c);refine⟨⟨w,v,T,b⟩,λf k ⟨g,i⟩=>?_⟩;subst g;rw[i w T]at b;cases b;exact⟨cS.refl _,e.mono I.tup⟩
 stop:=λP I q=>⟨w,ck.of<|I.tup d _ c,by rw[<-hd.length];exact bq _⟩
abbrev jz:=aE (List ab×Option (Nat×ak))
@[simp] def h_(p:ak):Option (List ab):=match p with
 |.im (.tup C)=>Z C
 |.lst C=>Z C
 |.dr C=>Z C
 |_=>Y
@[simp] def b8(N:aE bC):jz:=λk=>(N k).bind λr=>match r.1 with
 |.bY p=>(h_ p).map λC=>((C,Y),r.2)
 |.aH j=>(ed j r.2).bind λo=>(h_ o.1).map λC=>((C,if o.1.dG=V then Y else Z (j,o.1)),o.2)
def BM(l:ct h p v Sm)(a:h_ p=Z C):
  ∃d,v=.ref d/\(((∃w,c2 Q h d w)/\mM (rj Q d) h Sm C)\/((∃w,ck Q h d w)/\mM (tD Q d) h Sm C)):=by
 unfold h_ at a;split at a
 ·cases a;let@⟨⟨d,@w,rfl,t,D⟩,rfl⟩:=l;exact⟨d,rfl,.inr ⟨⟨w,ck.of t⟩,G5 t D⟩⟩
 ·cases a;let⟨d,@w,rfl,t,D,rfl⟩:=l;exact⟨d,rfl,.inl ⟨⟨w,c2.of t⟩,Qi t D⟩⟩
 ·cases a;let⟨d,w,@n,rfl,t,D,rfl⟩:=l;exact⟨d,rfl,.inl ⟨⟨w,.inl<|.inr ⟨n,t⟩⟩,Ny t D⟩⟩
 ·cases a
def eN{N:aE bC}(c:dv e H N):mi e SY H (b8 N):=by
 refine xE (Mt c) λy h G x=>?_;let⟨k,L,u,@SG,z,ao,A,o⟩:=x;let⟨@⟨f,So⟩,t,D⟩:=bK.mp A;refine⟨k,L,f,So,z,ao,t,λv Sr SI Sm i S5 b=>?_⟩;cases f with
 |bY p=>
  let⟨@C,l,m⟩:=cC.mp D;cases m;let⟨@d,rfl,n⟩:=BM (Q:=e.K) S5 l;refine⟨d,rfl,?_⟩;rcases n with ⟨a,it⟩|⟨a,it⟩
  ·exact .inl ⟨a,o _ Sr SI Sm i it trivial (ct.chg S5) b⟩
  ·exact .inr ⟨a,o _ Sr SI Sm i it trivial (ct.chg S5) b⟩
 |aH j=>
  let⟨@⟨p,S3⟩,l,m⟩:=bK.mp D;let⟨@C,B,E⟩:=cC.mp m;cases E;let⟨I,SU,@b0,q,g,r,F⟩:=Bt i l;let@⟨S5,rfl⟩:=S5;rw[S5]at q;cases q;rw[cp]at b;have s:=b.ku F.symm;let⟨@d,rfl,n⟩:=BM (Q:=e.K) g B;have w:rU Sr y b0 (if p.dG=V then Y else Z (j,p)):=by
   split
   ·trivial
   ·exact⟨_,S5,g⟩
  refine⟨d,rfl,?_⟩;rcases n with ⟨a,it⟩|⟨a,it⟩
  ·exact .inl ⟨a,o _ Sr SU b0 r it w g.chg s⟩
  ·exact .inr ⟨a,o _ Sr SU b0 r it w g.chg s⟩
def me{N:aE ak}:∀k u SG,b8 (ag N) k=Z (u,SG)->nr Tn u.2:=by
 intro k u SG c;let⟨@⟨f,So⟩,t,D⟩:=bK.mp c;unfold ag at t;let⟨@r,d,a⟩:=cC.mp t;cases a;let⟨@C,e,b⟩:=cC.mp D;cases b
 trivial
variable{j:Nat}
def sV(Sq:j∈Tn):∀k u SG,b8 (ah j) k=Z (u,SG)->nr Tn u.2:=by
 intro k u SG c;let⟨@⟨f,So⟩,t,D⟩:=bK.mp c;unfold ah at t;split at t
 ·cases t;let⟨@⟨p,S3⟩,d,a⟩:=bK.mp D;let⟨@C,e,b⟩:=cC.mp a;cases b;show nr Tn (if p.dG=V then Y else Z (j,p));split
  ·trivial
  ·exact Sq
 ·cases t
def gk(Sp:Int)(s:Nat):List ab:=((range s).map λ(q:Nat)=>ab.int (Sp+(q:Int)))
theorem LY{Sp:Int}:mM (tm Sp s) h [] (gk Sp s) where
 go:=λP I q j p a=>by
  have Sq:j<s:=by
   have:=(fY.mp a).1
   rwa [gk,bu,iI]at this
  refine⟨Sq,λf d ⟨b,c⟩=>?_⟩;subst b;rw[gk,gJ,List.getElem?_range Sq]at a;cases a;exact⟨cS.refl _,c⟩
 stop:=λP I q=>by
  show s<=_;rw[gk,bu,iI];exact bq _
def rn(j:Int):Prop :=( -1000000<=j/\j<=1000000)
noncomputable instance (j:Int):Decidable (rn j):=inferInstanceAs (Decidable<|_/\_)
@[simp] def jm(N:aE (List bC)):jz:=λk=>(N k).bind λr=>(hX r.2 r.1).bind λC=>match C with
 |[.im (.int B)]=>if rn B then Z ((gk 0 B.toNat,Y),r.2) else Y
 |_=>Y
def FO{p:ab}(c:md h [.im p] R):∃v,R=[v]/\cD h p v:=by
 let⟨v,@u,rfl,⟨@Sm,t,X⟩,D⟩:=c;cases (show u=[] from D);exact⟨v,rfl,t⟩
def tB{p a:ab}(c:md h [.im p,.im a] R):∃v J,R=[v,J]/\cD h p v/\cD h a J:=by
 let⟨v,@u,rfl,⟨@Sm,t,X⟩,D⟩:=c;let⟨@J,rfl,b⟩:=FO D;exact⟨v,J,rfl,t,b⟩
def pY{d:a_}(i:dP e "range")(j:e.aw "range" = Y)(c:fl e [d] N)(l:bw [d] e.env=[(aq,b1 d e.env)]:=by rfl):mi e SY (.Call (.Name "range" r) [d] [] SD) (jm N):=by
 refine xE (IK i j c l) λy h w m=>?_;let⟨k,L,u,@SG,z,ao,n,o⟩:=m;let⟨@⟨Sy,So⟩,t,D⟩:=bK.mp n;let⟨@C,p,b⟩:=bK.mp D;refine⟨k,L,Sy,So,z,ao,t,λR Sr SI x f S5 q=>?_⟩;have s:=S5.read f p;split at b
 ·rename_i B;split at b
  ·rename_i g;cases b;let⟨@v,rfl,a⟩:=FO s;cases (show v=.int B from a);exact⟨B,rfl,by have:=g.1;lia,by have:=g.2;lia,o _ Sr SI [] f LY trivial (λd c=>nomatch c) (by rw[cp];exact q.less (List.Perm.refl _))⟩
  ·cases b
 ·cases b
def xZ:∀k u SG,jm N k=Z (u,SG)->nr Tn u.2:=by
 intro k u SG c;let⟨@⟨Sy,So⟩,t,D⟩:=bK.mp c;let⟨@C,b,a⟩:=bK.mp D;split at a
 ·split at a
  ·cases a;trivial
  ·cases a
 ·cases a
def r5(e:aK)(S:List a_)(N:aE Bool):Prop:=(∀ ⦃r⦄,Et e S (jr N) r)
def dm:aE Bool:=(λk=>Z (V,k))
def y_:r5 e [] dm:=by
 intro G m y h E i a;let⟨k,L,b,@SG,z,ao,c,o⟩:=a;cases c;exact Hj G m y h E i (o h L z<|ba.perm ao<|List.Perm.refl _)
def oZ{N:aE Bool}(c:gY e g N):r5 e [g] N:=Rf c
@[simp] def jY(SX:List Nat)(k:aP):aP:=SX.map λj=>k.getD j Y
def kb:List Nat->aP->aP
 |[],k=>k
 |j::u,k=>kb u (match k[j]? with|some (Z _)=>k.set j (Z .cL)|_=>k)
@[simp] def iD:List Nat->aP->aP->aP
 |j::u,n::az,k=>iD u az (k.set j n)
 |_,_,k=>k
def gI(own:Nat)(SY:e1)(g:aE Bool)(a:aE ak): List ab -> List ab -> aP -> Option (List ab × aP)
  |[],b,az => Z (b,az)
  |f :: u,b,az => (SY (.im f)<|replicate own Y ++ az).bind λSo => (g So).bind λr => if r.1=V then (a r.2).bind λo => match o.1 with
      |.im p => if b.length<100000 then gI own SY g a u (b ++ [p]) (o.2.drop own) else Y
      |_ => Y
    else gI own SY g a u b (r.2.drop own)
@[simp] def cm(own:Nat)(SX:List Nat)(F:jz)(SY:e1)(g:aE Bool)(a:aE ak):aE ak:=λk=>(F k).bind λr=>(gI own SY g a r.1.1 []<|jY SX r.2).map λo=>(.lst o.1,kI r.1.2<|iD SX o.2 r.2)
def n5(own s:Nat):List Nat:=((range s).map (·+own))
def Rb(c:k[j]?=Z n):k.getD j Y=n:=by rw[dg,c];rfl
def bf.void(z:bf h k y L)(j:Nat):∃SI SU,bf h (match k[j]? with|some (Z _)=>k.set j (Z .cL)|_=>k) y SI/\mu h (k.getD j Y) (y.getD j Y) SU/\(SI++SU).Perm L:=by
 split
 ·rename_i p hd;let⟨v,SI,@SU,t,D,b,c⟩:=z.out hd;refine⟨SU,SI,b,?_,c⟩;rw[Rb hd,dg,t];exact⟨v,rfl,D⟩
 ·rename_i d;refine⟨L,[],z,?_,by rw[cp]⟩;have:k.getD j Y=Y:=by
   rw[dg];cases a:k[j]? with
   |none=>rfl
   |some n=>
    cases n with
    |none=>rfl
    |some p=>exact absurd a (d p)
  rw[this];exact rfl
theorem Az{h:ax}{y:aS}:∀{SX:List Nat}{k:aP}{L:List af},SX.Nodup->bf h k y L->∃SI SU,bf h (kb SX k) y SI/\bf h (jY SX k) (SX.map λj=>y.getD j Y) SU/\(SI++SU).Perm L
 |[],k,L,_,z=>⟨L,[],z,⟨rfl,rfl⟩,by rw[cp]⟩
 |j::u,k,L,ao,z=>by
  let⟨SI,@SU,t,D,e⟩:=z.void j;have b:=iH.mp ao;let⟨f,@c,g,d,i⟩:=Az (SX:=u) b.2 t;refine⟨f,SU++c,g,⟨_,_,SU,c,rfl,D,?_,rfl⟩,kx.trans<|(fg _ i).trans<|d3.trans e⟩;have a:jY u (match k[j]? with|some (Z _)=>k.set j (Z .cL)|_=>k)=jY u k:=by
   unfold jY;refine nG λB l=>?_;split
   ·rw[dg,dg,mL];rintro rfl;exact b.1 l
   ·rfl
  rw[a]at d;exact d
def bf.RN(z:bf h k y L)(c:mu h n (y.getD j Y) U):∃SI SU,bf h (k.set j n) y SI/\(SI++SU).Perm (L++U):=by
 cases n with
 |some p=>
  let⟨@v,a,l⟩:=c;refine z.back l ?_;rw[dg]at a;cases o:y[j]? with
  |none=>rw[o]at a;cases a
  |some f=>rw[o]at a;rw[show f=Z v from a]
 |none=>
  cases (show U=[] from c);rw[cp];by_cases Sq:j<k.length
  ·cases o:k[j]? with
   |none=>exact absurd (List.getElem?_eq_none_iff.mp o) ⋯
   |some f=>
    cases f with
    |none=>
     refine⟨L,[],?_,by rw[cp]⟩;have:k.set j Y=k:=by
      refine wZ λB=>?_;by_cases a:j=B
      ·subst a;rw[o,t2 Sq]
      ·rw[mL a]
     rw[this];exact z
    |some p=>
     let⟨v,SI,@SU,t,D,m,q⟩:=z.out o;have gen:∀{k:aP}{y:aS}{L:List af}{j:Nat},bf h k y L->∃SI SU,bf h (k.set j Y) y SI/\(SI++SU).Perm L:=by
      intro k;induction k with
      |nil=>intro y L j z;exact⟨L,[],by simpa using z,by rw[cp]⟩
      |cons n k d=>
       intro y L j z;let⟨f,u,O,@SQ,rfl,e,b,rfl⟩:=z;cases j with
       |zero=>exact⟨SQ,O,⟨f,u,[],SQ,rfl,rfl,b,rfl⟩,d3⟩
       |succ j=>
        let⟨az,@Sn,g,i⟩:=d (j:=j) b;refine⟨O++az,Sn,⟨f,u,O,az,rfl,e,g,rfl⟩,?_⟩;rw[b6];exact fg _ i
     exact gen z
  ·refine⟨L,[],?_,by rw[cp]⟩;rw[List.set_eq_of_length_le ⋯];exact z
theorem zI{h:ax}{y:aS}:∀{SX:List Nat}{az k:aP}{L U:List af},bf h k y L->bf h az (SX.map λj=>y.getD j Y) U->∃SI SU,bf h (iD SX az k) y SI/\(SI++SU).Perm (L++U)
 |[],az,k,L,U,z,_=>⟨L,U,by cases az<;>exact z,List.Perm.refl _⟩
 |j::u,[],k,L,U,z,c=>⟨L,U,z,List.Perm.refl _⟩
 |j::u,n::az,k,L,U,z,c=>by
  let⟨f,I,e,@g,a,t,D,rfl⟩:=c;cases a;let⟨SI,@O,b,d⟩:=z.RN t;let⟨SU,@SQ,S1,S6⟩:=zI (SX:=u) (az:=az) b D;refine⟨SU,SQ++O,S1,?_⟩;rw[<-b6,<-b6];refine (gu O S6).trans ?_;rw[b6];refine (fg SI d3).trans ?_;rw[<-b6];exact gu _ d
def OX:∀{SX:List Nat}{az k:aP},SX.length=az.length->SX.Nodup->iD SX az (kb SX k)=iD SX az k:=by
 have m:∀{u:List Nat}{az k:aP}{j:Nat}{n:Option ak},j∉u->iD u az (k.set j n)=(iD u az k).set j n:=by
  intro u;induction u with
  |nil=>intro az k j n X;cases az<;>rfl
  |cons B u b=>
   intro az k j n c;cases az with
   |nil=>rfl
   |cons g az=>
    have f:j≠B:=λa=>c (by rw[a];exact .head _);show iD u az ((k.set j n).set B g)=(iD u az<|k.set B g).set j n;rw[Fy _ _ f,b λd=>c<|.tail _ d]
 have h:∀{u:List Nat}{k:aP}{j:Nat}{n:Option ak},j∉u->kb u (k.set j n)=(kb u k).set j n:=by
  intro u;induction u with
  |nil=>intro k j n X;rfl
  |cons B u b=>
   intro k j n c;have f:j≠B:=λa=>c (by rw[a];exact .head _);show kb u (match (k.set j n)[B]? with|some (Z _)=>(k.set j n).set B (Z .cL)|_=>k.set j n)=(kb u (match k[B]? with|some (Z _)=>k.set B (Z .cL)|_=>k)).set j n;rw[mL f];cases k[B]? with
   |none=>exact b λd=>c (.tail _ d)
   |some o=>
    cases o with
    |none=>exact b λd=>c (.tail _ d)
    |some p=>
     show kb u ((k.set j n).set B<|Z .cL)=_;rw[Fy _ _ f];exact b λd=>c (.tail _ d)
 intro SX;induction SX with
 |nil=>intro az k X X;cases az<;>rfl
 |cons j u b=>
  intro az k i ao;have e:=iH.mp ao;cases az with
  |nil=>cases i
  |cons g az=>
   have l:u.length=az.length:=by simpa using i
   show iD u az ((kb u (match k[j]? with|some (Z _)=>k.set j (Z .cL)|_=>k)).set j g)=iD u az (k.set j g);split
   ·rw[h e.1,wM,<-h e.1,b l e.2]
   ·rw[<-h e.1,b l e.2]
theorem z3{h:ax}{k:aP}{u:aS}{L:List af}(c:bf h k u L):∀{own:List aC},bf h (replicate own.length Y++k) (own.map (λ_=>Y)++u) L
 |[]=>c
 |f::own=>⟨Y,_,[],L,rfl,rfl,z3 c (own:=own),rfl⟩
theorem xm{h:ax}:∀{s:Nat}{k:aP}{y:aS}{L:List af},bf h k y L->∃SI SU,bf h (k.drop s) (y.drop s) SI/\(SI++SU).Perm L
 |0,k,y,L,c=>⟨L,[],c,by rw[cp]⟩
 |s+1,[],y,L,c=>by
  cases c.1;exact⟨[],L,⟨rfl,rfl⟩,List.Perm.refl _⟩
 |s+1,n::k,y,L,c=>by
  let⟨f,u,O,@SQ,rfl,t,D,rfl⟩:=c;let⟨SI,@SU,a,b⟩:=xm (s:=s) D;exact⟨SI,SU++O,a,by rw[<-b6];exact (gu O b).trans d3⟩
def ba.both(d:ba h L Sr (SI++Sm)):ba h L Sr SI:=d.less (List.Perm.refl _)
theorem bF.snoc:∀{C:List ab}{R:List aj}{p:ab}{v:aj},bF h C R->cD h p v->bF h (C++[p]) (R++[v])
 |[],R,p,v,c,l=>by cases (show R=[] from c);exact⟨v,[],rfl,l,rfl⟩
 |a::C,R,p,v,c,l=>by
  let⟨J,@u,rfl,t,D⟩:=c;exact⟨J,u++[v],rfl,t,D.snoc l⟩
variable{F:jz}
def Dp(ao:SX.Nodup)(c:k3 (cm own.length SX F A cv T1) y h E):
  sY own SX (yz F) (λ_=>wd (n5 own.length SX.length) A) (λ_=>jr cv) (λ_=>k3 T1) y h E:=by
 let⟨k,L,u,@SG,z,f0,f1,o⟩:=c;let⟨@⟨⟨w,n⟩,So⟩,t,D⟩:=bK.mp f1;let⟨@⟨C,bs⟩,f2,f4⟩:=cC.mp D;cases f4;refine⟨k,L,(w,n),So,z,f0,t,λTr Sr SI Sm f8 it ga ge gl lv=>?_⟩;let⟨T,@I,bv,i,Tb⟩:=Az ao f8;have ca:ba h L Sr (I++(T++Sm)):=gl.ku (by
  refine (gu Sm Tb.symm).trans ?_;rw[b6];exact kx)
 have cd:=dn.mp ca.ao;have gt:∀f∈T++Sm,fV Sr f:=λf G=>by
  rcases dt.mp G with G|G
  ·exact bv.chg f G
  ·exact ge f G
 have U:∀{SK:ax}{SU:List af},ba Sr I SK SU->∀d∈T++Sm,∀J,Sr d=Z J->SK d=Z J:=λm d e J a=>m.keep d J a λc=>cd.2.2 d c d e rfl;refine⟨λj M SE P=>M+j=w.length/\∃l az H,bf P az (SX.map λj=>y.getD j Y) H/\az.length=SX.length/\ba Sr I P H/\bF P l SE/\gI own.length A cv T1 (w.drop j) l az=Z (C,bs),
  ⟨w.length,rfl,[],jY SX So,I,i,by rw[jY,bu],ba.perm cd.1<|List.Perm.refl _,rfl,f2⟩,?_⟩;rintro j M SE P ⟨al,l,az,H,ce,g1,Ss,ch,am⟩;by_cases ci:j<w.length
 ·let@⟨g2,g3⟩:=it.go P Ss.tup (λd e=>U Ss d<|c3 _ e) j w[j] (by simp[ci]);rw[kK ci,gI]at am;let⟨@Ts,hd,he⟩:=bK.mp am;let⟨@⟨b,as⟩,hf,Q⟩:=bK.mp he;refine .inr ⟨g2,λcl SK=>(M-1)+(j+1)=w.length/\∃l az H,bf SK az (SX.map λj=>y.getD j Y) H/\az.length=SX.length/\ba Sr I SK H/\bF SK l cl/\gI own.length A cv T1 (w.drop<|j+1) l az=Z (C,bs),λcl SK c=>⟨M-1,⋯,c⟩,λf SK G=>?_⟩;let@⟨q,hm⟩:=g3 f SK G;have hw:=ce.mono q.tupS λd X n a=>q d n a;have co:=Ss.same q;have an:=ch.mono q.tupS.tup;refine⟨replicate own.length Y++az,H,.im w[j],[],Ts,z3 hw,⟨hm,rfl⟩,by rw[cp];exact co.ao,hd,λa1 h0 cr ap cs a2=>⟨λB v g=>?_,?_⟩⟩
  ·
   have lw:own.length<=B:=by
    by_cases ii:B<own.length
    ·rw[jW,ly ⇑ii,gJ]at g;cases a:own[B]? with
     |none=>rw[a]at g;cases g
     |some mb=>rw[a]at g;cases g
    ·lia
   have mo:B<own.length+SX.length:=by
    have:=(fY.mp g).1
    rwa [jW,dj,bu,bu]at this
   have al:B∈n5 own.length SX.length:=cV.mpr ⟨B-own.length,g6.mpr ⋯,⋯⟩;exact (ap.2 B al).trans g
  ·have db:ba Sr I h0 cr:=co.seq (by rw[cp]at a2;exact a2);have an:=an.mono a2.tup.tup;have ds:a1.drop own.length=SX.map λj=>y.getD j Y:=by
    have ms:=cs.len;refine wZ λB=>?_;by_cases g:B<SX.length
    ·have al:B+own.length∈n5 own.length SX.length:=cV.mpr ⟨B,g6.mpr g,rfl⟩;have:=ap.2 _ al;rw[List.getElem?_drop,sk,this,jW,pJ ↥0,bu,Nat.add_sub_cancel]
    ·have bg:a1.length<=own.length+SX.length:=by
      rw[ap.1,jW,dj,bu,bu];exact bq _
     rw[A_ (by rw[kf];lia),A_ (by rw[bu];lia)]
   have dL:a1.length=own.length+SX.length:=by rw[ap.1,jW,dj,bu,bu]
   refine⟨Ts,cr,b,as,cs,db.ao,hf,λm0 bd N be=>?_⟩;have R:=db.seq be;dsimp only at Q ⊢;cases b with
   |false=>
    rw[aT d7]at Q ⊢;let⟨S,@eq,x,bi⟩:=xm (s:=own.length) N;rw[ds]at x;exact⟨⋯,l,as.drop own.length,S,x,by rw[kf,N.len,dL];lia,R.less bi,an.mono be.tup.tup,Q⟩
   |true=>
    rw[aN rfl]at Q ⊢;let⟨@⟨v,ev⟩,io,O⟩:=bK.mp Q;dsimp only at O;split at O
    ·rename_i p;split at O
     ·rename_i na;refine⟨as,bd,.im p,ev,N,R.ao,io,λJ nb S ne x jp bm=>?_⟩;let@⟨kt,rfl⟩:=jp;rw[cp]at bm;have ex:=(an.mono be.tup.tup).mono bm.tup.tup;refine⟨zQ (show SE.length<=100000 by rw[<-ex.length];lia) ∅,?_⟩;let⟨kw,@nl,fd,lc⟩:=xm (s:=own.length) x;rw[ds]at fd;exact⟨⋯,l++[p],ev.drop own.length,kw,fd,by rw[kf,x.len,dL];lia,(R.seq bm).less lc,ex.snoc kt,O⟩
     ·cases O
    ·cases O
 ·have Sq:j=w.length:=⋯
  subst Sq;refine .inl ⟨it.stop P Ss.tup<|λd e=>U Ss d<|c3 _ e,λbn fn=>?_⟩;rw[nP (bq _),gI]at am;cases am;have lf:bf P (kb SX So) y T:=bv.mono Ss.tup λd e=>U Ss d (c5 _ e);let⟨bd,@fr,N,li⟩:=zI lf ce;rw[OX (by rw[g1]) ao]at N;have lm:rU P y Sm n:=by
   cases n with
   |none=>trivial
   |some r=>
    let⟨j,p⟩:=r;let⟨@v,ln,ls⟩:=ga;exact⟨v,ln,ls.mono Ss.tup λd e=>U Ss d<|c3 _ e⟩
  let⟨S,@eq,x,bi⟩:=ym (Sm:=Sm) N lm;have q:cS P (upd P bn<|.lst SE):=(cS.refl P).upd fn;have R:ba h L P S:=(ca.trans Ss gt).less (az:=eq++fr) (by
   rw[<-b6];refine (gu fr bi).trans ?_;rw[b6];refine (fg bd d3).trans ?_;rw[<-b6];refine (gu Sm li).trans ?_;rw[b6];exact kx)
  exact o _ _ S [bn] (x.mono q.tupS λd X n a=>q d n a) ⟨bn,SE,rfl,eF,ch.mono q.tupS.tup,rfl⟩ (R.add fn x.chg)
def ve{TN:a_}{S:List a_}{SO:gj}(b:e.calm=V)(SF:h1 e SO own SX)(ao:SX.Nodup)(Sq:mi e SY TA F)(d:∀a,hl (e.fI (fS e own SX) SO a) (n5 own.length SX.length) SY A)(g:∀a,r5 (e.fI (fS e own SX) SO a) S cv)(i:∀a,b4 (e.fI (fS e own SX) SO a) TN T1)(j:∀f,mm TA e.env f=pure f:=by intro X;rfl):b4 e (.ListComp TN [⟨SY,TA,S,0⟩] SO SD) (cm own.length SX F A cv T1):=
 eb (Hd b SF Sq d g i j) λy h E c=>Dp ao c
end
@[simp] def iV(SR:List Nat):List ak->aP->Nat->List ak
 |p::C,n::k,B=>(if p.dG=V then p else if B∈SR then n.getD .cL else .cL)::iV SR C k (B+1)
 |p::C,[],B=>(if p.dG=V then p else .cL)::iV SR C [] (B+1)
 |[],_,_=>[]
@[simp] def c8(s M:Nat)(SR:List Nat)(N:bo):cX:=λC=>if C.length=s then match N (C.map Z++replicate (M-s) Y) with
 |some (.dX u,k)=>Z (u,iV SR C k 0)
 |some (.aX,k)=>Z (.im .aV,iV SR C k 0)
 |_=>Y else Y
theorem y7{h:ax}:∀{C:List ak}{R:List aj}{L:List af}{M:Nat},dW h C R L->bf h (C.map Z++replicate M Y) (R.map Z++replicate M Y) L
 |[],R,L,M,c=>by
  let@⟨rfl,rfl⟩:=c;show bf h (replicate M Y) (replicate M Y) [];induction M with
  |zero=>exact⟨rfl,rfl⟩
  |succ M a=>exact⟨Y,_,[],[],rfl,rfl,a,rfl⟩
 |p::C,R,L,M,c=>by
  let⟨v,u,SI,@SU,rfl,t,D,rfl⟩:=c;exact⟨Z v,_,SI,SU,rfl,⟨v,rfl,t⟩,y7 D,rfl⟩
theorem zf{h P:ax}{SR:List Nat}(I:fb h P):∀{C:List ak}{R:List aj}{o:List af}{k:aP}{y:aS}{L:List af}{b:Nat},dW h C R o->bf P k y L->(∀(B:Nat) (v:aj),(b+B)∈SR->R[B]?=Z v->y[B]?=Z (Z v))->
  ∃Sm U,dW P (iV SR C k b) R Sm/\(Sm++U).Perm L
 |[],R,o,k,y,L,b,c,z,_=>⟨[],L,by unfold iV;exact⟨c.1,rfl⟩,List.Perm.refl _⟩
 |p::C,R,o,[],y,L,b,c,z,q=>by
  let⟨v,u,O,@SQ,rfl,t,D,rfl⟩:=c;let@⟨rfl,rfl⟩:=z;let⟨Sm,@U,e,g⟩:=zf (k:=[]) (y:=[]) (L:=[]) (b:=b+1) I D ⟨rfl,rfl⟩ λB v r s=>by
   have:=q (B+1) v (by rw[show b+(B+1)=b+1+B by lia];exact r) ⇑s;simp at this
  rw[iV];refine⟨Sm,U,⟨v,u,[],Sm,rfl,?_,e,rfl⟩,g⟩;split
  ·rename_i i;have:=t.mono I λd j=>by rw[t.dG i]at j;cases j
   rw[t.dG i]at this;exact this
  ·exact rfl
 |p::C,R,o,n::k,y,L,b,c,z,q=>by
  let⟨v,u,O,@SQ,rfl,t,D,rfl⟩:=c;let⟨f,m,az,@Sn,rfl,x,A,rfl⟩:=z;let⟨Sm,@U,e,g⟩:=zf (k:=k) (y:=m) (b:=b+1) I D A λB v r s=>by
   have:=q (B+1) v (by rw[show b+(B+1)=b+1+B by lia];exact r) ⇑s;simpa using this
  rw[iV];split
  ·rename_i i;have w:=t.mono I λd j=>by rw[t.dG i]at j;cases j
   rw[t.dG i]at w;refine⟨Sm,U++az,⟨v,u,[],Sm,rfl,w,e,rfl⟩,?_⟩;rw[<-b6];exact (gu az g).trans d3
  ·split
   ·rename_i E;have F:f=Z v:=by
     have:=q 0 v E rfl;simpa using this
    subst F;cases n with
    |none=>
     refine⟨Sm,U++az,⟨v,u,[],Sm,rfl,rfl,e,rfl⟩,?_⟩;rw[<-b6];exact (gu az g).trans d3
    |some a=>
     let⟨@H,G,l⟩:=x;cases G;refine⟨az++Sm,U,⟨v,u,az,Sm,rfl,l,e,rfl⟩,?_⟩;rw[b6];exact fg _ g
   ·refine⟨Sm,U++az,⟨v,u,[],Sm,rfl,rfl,e,rfl⟩,?_⟩;rw[<-b6];exact (gu az g).trans d3
section
variable{S:bl}{l:a8}{Q:Φ}{aw:aC->Option ae}{Sz:a0}
def JM{Tu:aC}{x:af}{SS:List aC}{q:Nat}{N:bo}(L:ft Q f Tu z x fd)(SF:kj SS SA (c9 z))(t:SA.length=s)(I:∀j∈SR,j<s)(w:∀(S7:ae) (O:bp) (S2:List dU) (m:av) (h:ax) (Sn:fA),d_ q (O.deeper<|ib Tu (c9 z) m.heap.objs.size x S7)->hE (h7 hK S l Q aw Sz SS Tu (c9 z) x S7 O S2 m h Sn).nJ SR (fy z) N):
  gG S l Q aw Sz hK (q+1) x fd SA (jA s<|c8 s SS.length SR N):=by
 refine L.ok SF (λR h E Sn c=>c.1.trans t.symm) (λS7 O S2 m h R E Sn y c=>⟨_,w S7 O S2 m h Sn y,?_⟩);let@⟨k,⟨C,g,u,@G,i,ao,b,o⟩⟩:=c;have D:C.length=s:=i.length.trans k;unfold c8 at b;rw[aN D]at b;have z:=y7 (M:=SS.length-s) i;have Sl:start SS R=R.map Z++replicate (SS.length-s) Y:=by unfold start;rw[k]
 rw[Sl];have fin:∀{d:aS}{P:ax}{SW:List af}{SG:aP}{v:aj}{Sm:List af},iV SR C SG 0=G->c0 SR (R.map Z++replicate (SS.length-s) Y) d->bf P SG d SW->ct P u v Sm->ba h g P (SW++Sm)->E v P:=λ{d P SW SG v Sm} F Tn e A Ss=>by
  let⟨b0,@U,n,H⟩:=zf (SR:=SR) (b:=0) Ss.tup i e λB v p r=>by
   rw[wX]at p;rw[Tn.2 B p,ly (by rw[bu];exact (fY.mp r).1),gJ,r];rfl
  rw[F]at n;refine o v P Sm b0 A n (Ss.less (az:=U) ?_);rw[b6];exact (fg Sm H).trans d3
 split at b
 ·rename_i Tg SG a;cases b;exact⟨_,g,.dX u,SG,z,ao,a,λv d P SW Sm Tn e A Ss=>fin rfl Tn e A Ss⟩
 ·rename_i SG a;cases b;exact⟨_,g,.aX,SG,z,ao,a,λd P SW Tn e Ss=>fin rfl Tn e ⟨rfl,rfl⟩ (by rw[cp];exact Ss)⟩
 ·cases b
end
def bZ(h:ax)(p:ak)(E:cu):Prop:=(∀v P Sm,cS h P->ct P p v Sm->Sm.Nodup->(∀d∈Sm,h d=Y)->E v P)
def bZ.EP{p:ab}(o:bZ h (.im p) E)(m:cS h P)(c:cD P p v):E v P:=o v P [] m ⟨c,rfl⟩ jX (λd a=>nomatch a)
def bZ.i{h:ax}{p:ab}{E:cu}{v:aj}(o:bZ h (.im p) E)(c:cD h p v):E v h:=o.EP (cS.refl h) c
def bZ.l{r:af}(o:bZ h (.lst C) E)(a:h r=Y)(c:bF h C w):E (.ref r) (upd h r<|.lst w):=by
 have m:cS h (upd h r<|.lst w):=(cS.refl h).upd a;exact o _ _ [r] m ⟨r,w,rfl,eF,c.mono m.tupS.tup,rfl⟩ (fk _ _) λd b=>by rw[cO.mp b];exact a
def bZ.t{h:ax}{C:List ab}{w:List aj}{E:cu}{r:af}(o:bZ h (.im<|.tup C) E)(a:h r=Y)(c:bF h C w):E (.ref r) (upd h r<|.tup w):=by
 have m:cS h (upd h r<|.tup w):=(cS.refl h).upd a;exact o.EP m ⟨r,w,rfl,eF,c.mono m.tupS.tup⟩
section
variable{e:aK}
def dZ.imp{x:ae->ae->fx ae}{u:b0}(c:dZ e x u)(j:∀f A h E,Tg f A h E->u f A h E):dZ e x Tg:=λG m y h f A v J E i a b d=>c G m y h f A v J E i a b (j f A h E d)
def ey.imp{x:ae}{u Tg:List aj->ax->cu->Prop}(c:ey e x u)(j:∀w h E,Tg w h E->u w h E):ey e x Tg:=λG m y h w SP E i a b=>c G m y h w SP E i a (j w h E b)
def iF.imp{u:b0}(c:iF e u)(j:∀f A h E,Tg f A h E->u f A h E):iF e Tg:=λa b G m y h f A v J E i d g k=>c a b G m y h f A v J E i d g (j f A h E k)
def e9.i{h:ax}{p:ab}{v:aj}(c:e9 h (.im p) v):cD h p v:=c.elim λ_ l=>l.1
end
abbrev fZ:=ak->ak->Option ak
@[simp] def i6(az:Int->Int->Bool)(N:Int->Int->ab):fZ:=λd b=>match d,b with
 |.im (.int j),.im (.int B)=>if az j B=V then Z (.im<|N j B) else Y
 |_,_=>Y
def Ek{az:Int->Int->Bool}{N:Int->Int->ab}{d b:ak}(c:i6 az N d b=Z p):∃j B,d=.im (.int j)/\b=.im (.int B)/\az j B=V/\p=.im (N j B):=by
 unfold i6 at c;split at c
 ·rename_i j B;split at c
  ·rename_i a;cases c;exact⟨j,B,rfl,rfl,a,rfl⟩
  ·cases c
 ·cases c
section
variable{e:aK}
variable{x:ae->ae->fx ae}{N:Int->Int->aj}{c:Int->Int->ab}
def uh{az:Int->Int->Prop}{SQ:Int->Int->Bool}(n:dZ e x (o5 az N))(b:∀j B,SQ j B=V->az j B)(d:∀h j B,cD h (c j B)<|N j B):eX e x (i6 SQ c):=
 n.imp λf A h E ⟨Te,Tf,p,g,k,a,o⟩=>by
  let⟨j,@B,rfl,rfl,l,rfl⟩:=Ek a;exact⟨j,B,g.i,k.i,b j B l,bZ.i o<|d h j B⟩
def ug(n:dZ e x (mG N))(b:∀h j B,cD h (c j B)<|N j B):eX e x (i6 (λ_ X=>V) c):=
 n.imp λf A h E ⟨Te,Tf,p,d,g,a,o⟩=>by
  let⟨j,@B,rfl,rfl,k,rfl⟩:=Ek a;exact⟨j,B,d.i,g.i,bZ.i o<|b h j B⟩
@[simp] def rr:fZ:=i6 (λ_ X=>V) λj B=>.int (j-B)
def hk(j B:Int):Bool:=(!(decide (bk.Int.intBits j>tG)&&decide (bk.Int.intBits B>tG)&&bk.Int.intTooBig (bk.Int.intBits j+bk.Int.intBits B)))
@[simp] def iR:fZ:=i6 hk λj B=>.int (j*B)
@[simp] def mI:fZ:=i6 (λ_ B=>decide (0<B/\B<1073741824)) λj B=>.int (j/B)
@[simp] def hB:fZ:=i6 (λ_ B=>decide (0<B)) λj B=>.int (j%B)
@[simp] def qM:fZ:=i6 (λj B=>decide (0<=B/\B<=1000000/\j.natAbs<2^64)) λj B=>.int (j^B.toNat)
@[simp] def fF:fZ:=i6 (λ_ X=>V) λj B=>.au (decide (j<=B))
@[simp] def pG:fZ:=i6 (λ_ X=>V) λj B=>.au (decide (B<j))
@[simp] def E_:fZ:=i6 (λ_ X=>V) λj B=>.au (decide (B<=j))
def uV:eX e (fU .Sub) rr:=ug Qm λ_ X X=>rfl
def kE:eX e (fU .Mult) iR:=uh G1 (λj B c=>by unfold hk at c;unfold IntMulOk;rw[l7]at c;rw[c];exact d7) λ_ X X=>rfl
def qO:eX e (fU .FloorDiv) mI:=uh Mc (λj B c=>show 0<B/\B<1073741824 from gg c) λ_ X X=>rfl
def iG:eX e (fU .Mod) hB:=uh Nt (λj B c=>gg c) λ_ X X=>rfl
def uF:eX e (fU .Pow) qM:=uh IA (λj B c=>show 0<=B/\B<=1000000/\j.natAbs<2^64 from gg c) λ_ X X=>rfl
def l5:eX e (d6 .LtE) fF:=ug OM λ_ X X=>rfl
def yY:eX e (d6 .Gt) pG:=ug N0 λ_ X X=>rfl
def Jx:eX e (d6 .GtE) E_:=ug KG λ_ X X=>rfl
def N_:dZ e (fU .Add) (λf A h E=>∃d b SE,f=.ref d/\A=.ref b/\ck e.K h d []/\ck e.K h b SE/\E (.ref b) h):=by
 intro G m y h f A v J E i p q c;let⟨d,b,@SE,rfl,rfl,r,t,o⟩:=c;cases p;cases q;let⟨@Sw,u,w,X⟩:=i.tuple r;let⟨@D,F,Tz,X⟩:=i.tuple t;have a:Sw=[]:=u.uc.mpr rfl;subst a;let⟨@⟨cls,x,data,aH⟩,g,j,⟨@s,hd⟩⟩:=id w;let⟨@⟨H,z,data2,B⟩,k,l,⟨@C,n⟩⟩:=id Tz;simp only at j hd l n;subst j hd l n;exact xS ⟨_,g,rfl⟩ ⟨_,k,rfl⟩ wA vY wi vN (vL _ _) (tuple_addW0 d b _ _ s C x z aH B rfl) ⟨g,k,.ref b,h,i,rfl,o⟩
@[simp] def du:fZ:=λd b=>match d,b with
 |.im (.int j),.im (.int B)=>Z (.im<|.int<|j+B)
 |.im (.tup f),.im (.tup A)=>if f.length+A.length<=100000 then Z (.im<|.tup<|f++A) else Y
 |.lst f,.lst A=>if f.length+A.length<=100000 then Z (.lst<|f++A) else Y
 |.im (.str f),.im (.str A)=>if f.length+A.length<=100000 then Z (.im<|.str<|f++A) else Y
 |_,_=>Y
theorem bF.app:∀{d b:List ab}{f A:List aj},bF h d f->bF h b A->bF h (d++b) (f++A)
 |[],b,f,A,c,q=>by cases (show f=[] from c);exact q
 |p::d,b,f,A,c,q=>by
  let⟨v,@u,rfl,t,D⟩:=c;exact⟨v,u++A,rfl,t,D.app q⟩
def bF.nil{h:ax}{d:List ab}(c:bF h d []):d=[]:=by
 cases d with
 |nil=>rfl
 |cons p d=>let⟨X,@X,a,X⟩:=c;cases a
def e7:eX e (fU .Add) du:=by
 refine (P_.or<|N_.or<|Ih.or<|PH.or LK).imp λf A h E y=>?_;let⟨Te,Tf,@p,n,q,a,o⟩:=y;unfold du at a;split at a
 ·cases a;exact .inl ⟨_,_,n.i,q.i,bZ.i o rfl⟩
 ·rename_i d b;split at a
  ·rename_i g;cases a;let⟨r,@w,rfl,t,D⟩:=n.i;let⟨k,@SE,rfl,m,c⟩:=q.i;refine .inr ?_;by_cases v:w=[]
   ·subst v;cases D.nil;exact .inl ⟨r,k,SE,rfl,rfl,ck.of t,ck.of m,bZ.i o ⟨k,SE,rfl,m,c⟩⟩
   ·refine .inr (.inl ⟨r,k,w,SE,rfl,rfl,ck.of t,ck.of m,v,ma (by rw[<-D.length,<-c.length];exact g),λx=>?_,λx s u=>bZ.t o u<|D.app c⟩);subst x;cases c.nil;rw[cp]at o;exact bZ.i o ⟨r,w,rfl,t,D⟩
  ·cases a
 ·rename_i d b;split at a
  ·rename_i g;cases a;let⟨X,r,@w,rfl,t,D,X⟩:=n;let⟨X,k,@SE,rfl,m,c,X⟩:=q;exact .inr (.inr (.inr (.inl ⟨r,k,w,SE,rfl,rfl,t,m,ma (by rw[<-D.length,<-c.length];exact g),λs u=>bZ.l o u<|D.app c⟩)))
  ·cases a
 ·rename_i d b;split at a
  ·rename_i g;cases a;exact .inr (.inr<|.inr<|.inr ⟨d,b,n.i,q.i,ma g,bZ.i o rfl⟩)
  ·cases a
 ·cases a
def Kb(s:Nat){O:bp}{f A:ab}{J v:ae}(k:ab.bI s f=V)(a6:ab.bI s A=V)(Q:O.units+s+2<b7)(l:dk m.heap f J)(c:dk m.heap A v):SeqAt.RcAt O m J v (cq f A):=by
 cases f with
 |aV=>
  cases (show J=.none from l);cases A with
  |aV=>cases (show v=.none from c);exact MD
  |au b=>cases (show v=.bool b from c);exact NU b
  |int B=>let⟨@I,rfl⟩:=c;exact O8 B I
  |str h=>let⟨@I,rfl⟩:=c;exact JS h I
  |tup C=>let⟨d,n,SM,@M,rfl,t,D,i,X⟩:=c;exact Qb ⟨n,t,D,M,i⟩ ⋯
  |fn d=>cases s<;>cases a6
  |aO d=>cases s<;>cases a6
  |fd=>cases s<;>cases a6
 |au b=>
  cases (show J=.bool b from l);cases A with
  |aV=>cases (show v=.none from c);exact Rd b
  |au g=>cases (show v=.bool g from c);exact Ru b g
  |int B=>let⟨@I,rfl⟩:=c;exact HP b B I
  |str h=>let⟨@I,rfl⟩:=c;exact My b h I
  |tup C=>let⟨d,n,SM,@M,rfl,t,D,i,X⟩:=c;exact Nv b ⟨n,t,D,M,i⟩ ⋯
  |fn d=>cases s<;>cases a6
  |aO d=>cases s<;>cases a6
  |fd=>cases s<;>cases a6
 |int j=>
  let⟨@e,rfl⟩:=l;cases A with
  |aV=>cases (show v=.none from c);exact Nx j e
  |au g=>cases (show v=.bool g from c);exact JT j e g
  |int B=>let⟨@I,rfl⟩:=c;exact Nj j e B I
  |str h=>let⟨@I,rfl⟩:=c;exact J1 j e h I
  |tup C=>let⟨d,n,SM,@M,rfl,t,D,i,X⟩:=c;exact L7 j e ⟨n,t,D,M,i⟩ ⋯
  |fn d=>cases s<;>cases a6
  |aO d=>cases s<;>cases a6
  |fd=>cases s<;>cases a6
 |str j=>
  let⟨@e,rfl⟩:=l;cases A with
  |aV=>cases (show v=.none from c);exact Oc j e
  |au g=>cases (show v=.bool g from c);exact Jz j e g
  |int B=>let⟨@I,rfl⟩:=c;exact JX j e B I
  |str h=>let⟨@I,rfl⟩:=c;exact NW j e h I
  |tup C=>let⟨d,n,SM,@M,rfl,t,D,i,X⟩:=c;exact NX j e ⟨n,t,D,M,i⟩ ⋯
  |fn d=>cases s<;>cases a6
  |aO d=>cases s<;>cases a6
  |fd=>cases s<;>cases a6
 |fn d=>cases s<;>cases k
 |aO d=>cases s<;>cases k
 |fd=>cases s<;>cases k
 |tup C=>
  cases s with
  |zero=>cases k
  |succ s=>
  let⟨d,n,SM,@M,rfl,t,D,i,q⟩:=l;have Ti:m.heap.IsTuple d SM:=⟨n,t,D,M,i⟩;cases A with
  |aV=>cases (show v=.none from c);exact Nw Ti ⋯
  |au g=>cases (show v=.bool g from c);exact L1 g Ti ⋯
  |int B=>let⟨@I,rfl⟩:=c;exact Rp B I Ti ⋯
  |str h=>let⟨@I,rfl⟩:=c;exact LR h I Ti ⋯
  |fn d=>cases a6
  |aO d=>cases a6
  |fd=>cases a6
  |tup Sl=>
   let⟨b,Th,p,@x,rfl,y,z,E,r⟩:=c;have TB:m.heap.IsTuple b p:=⟨Th,y,z,x,E⟩;have bg:=q.length;have bx:=r.length;have F:SM.toList.length=SM.size:=by simp
   have G:p.toList.length=p.size:=by simp
   rw[F]at bg;rw[G]at bx;have o:=Bi (A:=O) (e:=λB=>cq (C.getD B .aV)<|Sl.getD B .aV) Ti TB ⋯ λB H L=>by
    let⟨@Te,u,N⟩:=q.get (B:=B) (v:=SM[B]) (by rw[hr];simp[H]);let⟨@Tf,w,P⟩:=r.get (B:=B) (v:=p[B]) (by rw[hr];simp[L]);rw[dg,u,dg,w];exact iU s (jv k u) (jv a6 w) (by show O.units+1+s+1<b7;lia) N P
   rw[<-bg,<-bx,qn (C:=C) (Sl:=Sl) (λB f A d b=>by rw[dg,d,dg,b];rfl)]at o;rw[cq];exact o
@[simp] def d4:fZ:=λd b=>match d,b with
 |.im f,.im A=>if (ab.bI 8 f&&ab.bI 8 A)=V then Z (.im<|.au<|cq f A) else Y
 |.lst f,.lst A=>if (ab.di 8 f&&ab.di 8 A)=V then Z (.im<|.au<|fN f A) else Y
 |_,_=>Y
theorem y4:∀{f A:List ab},f.length≠A.length->fN f A=aq
 |[],[],c=>absurd rfl c
 |[],_::_,_=>rfl
 |_::_,[],_=>rfl
 |d::f,b::A,c=>by
  rw[fN,y4 (λa=>c (by rw[dA,dA,a])),BH]
def oG{G:List (af×aW)}(i:aG e G y h m){d:af}{w:List aj}{C:List ab}(t:h d=Z (.lst w))(D:bF h C w):∃Sw:List ae,m.heap.IsList d Sw.toArray/\d2 m.heap C Sw/\Sw.length=C.length:=by
 let@⟨z,⟨Sw,@s,b,a⟩⟩:=i.aR d _ t;have:=D.fa i.aR b;exact⟨Sw,⟨_,a,rfl,s,rfl⟩,this,this.length.symm⟩
def hx(U:e.A.units+20<b7):eX e (d6 .Eq) d4:=by
 intro G m y h f A v J E i s u M;let⟨Te,Tf,@p,g,k,a,o⟩:=M;unfold d4 at a;split at a
 ·rename_i d b;split at a
  ·rename_i c;cases a;rw[cG]at c;exact Kb 8 c.1 c.2 ⋯ (g.i.fa i.aR s) (k.i.fa i.aR u) e.prog e.w _ _ ⟨.au _,h,i,rfl,bZ.i o rfl⟩
  ·cases a
 ·rename_i d b;split at a
  ·rename_i c;cases a;rw[cG]at c;let⟨X,r,@w,rfl,t,D,X⟩:=g;let⟨X,al,@SE,rfl,N,P,X⟩:=k;cases s;cases u;let⟨@Q,bg,R,q⟩:=oG i t D;let⟨@S,bx,T,x⟩:=oG i N P;by_cases n:d.length=b.length
   ·have:=L4 (A:=e.A) (e:=λB=>cq (d.getD B .aV)<|b.getD B .aV) bg bx (by rw[cJ,cJ,q,x];exact n) ⋯ λB z F=>by
     let⟨@Te,H,g⟩:=R.get (B:=B) (v:=Q.toArray[B]) (by simp at z;simp[z]);let⟨@Tf,I,k⟩:=T.get (B:=B) (v:=S.toArray[B]) (by simp at F;simp[F]);rw[dg,H,dg,I];exact iU 8 (jv c.1 H) (jv c.2 I) (by show e.A.units+1+8+1<b7;lia) g k
    refine this e.prog e.w _ _ ⟨.au _,h,i,rfl,?_⟩;have L:=qn (C:=d) (Sl:=b) (a:=λB=>cq (d.getD B .aV)<|b.getD B .aV) (λB f A d b=>by rw[dg,d,dg,b];rfl);rw[<-n,x7,jO,zV]at L;rw[cJ,q,L];exact bZ.i o rfl
   ·refine LA (A:=e.A) bg bx (by rw[cJ,cJ,q,x];simpa using n) ⋯ e.prog e.w _ _ ⟨.au _,h,i,rfl,?_⟩;rw[y4 n]at o;exact bZ.i o rfl
  ·cases a
 ·cases a
end
section
variable{e:aK}
def N7(s:Nat){O:bp}{f A:ab}{J v:ae}(k:ab.bI s f=V)(a6:ab.bI s A=V)(Q:O.units+s+2<b7)(l:dk m.heap f J)(c:dk m.heap A v):SeqAt.RcNeAt O m J v (!cq f A):=by
 cases f with
 |aV=>
  cases (show J=.none from l);cases A with
  |aV=>cases (show v=.none from c);exact G_
  |au b=>cases (show v=.bool b from c);exact Oe b
  |int B=>let⟨@I,rfl⟩:=c;exact Lk B I
  |str h=>let⟨@I,rfl⟩:=c;exact JQ h I
  |tup C=>let⟨d,n,SM,@M,rfl,t,D,i,X⟩:=c;exact G8 ⟨n,t,D,M,i⟩ ⋯
  |fn d=>cases s<;>cases a6
  |aO d=>cases s<;>cases a6
  |fd=>cases s<;>cases a6
 |au b=>
  cases (show J=.bool b from l);cases A with
  |aV=>cases (show v=.none from c);exact RQ b
  |au g=>cases (show v=.bool g from c);exact Pd b g
  |int B=>let⟨@I,rfl⟩:=c;exact Qv b B I
  |str h=>let⟨@I,rfl⟩:=c;exact MY b h I
  |tup C=>let⟨d,n,SM,@M,rfl,t,D,i,X⟩:=c;exact HZ b ⟨n,t,D,M,i⟩ ⋯
  |fn d=>cases s<;>cases a6
  |aO d=>cases s<;>cases a6
  |fd=>cases s<;>cases a6
 |int j=>
  let⟨@e,rfl⟩:=l;cases A with
  |aV=>cases (show v=.none from c);exact Mj j e
  |au g=>cases (show v=.bool g from c);exact M0 j e g
  |int B=>let⟨@I,rfl⟩:=c;exact Hh j e B I
  |str h=>let⟨@I,rfl⟩:=c;exact I8 j e h I
  |tup C=>let⟨d,n,SM,@M,rfl,t,D,i,X⟩:=c;exact Oq j e ⟨n,t,D,M,i⟩ ⋯
  |fn d=>cases s<;>cases a6
  |aO d=>cases s<;>cases a6
  |fd=>cases s<;>cases a6
 |str j=>
  let⟨@e,rfl⟩:=l;cases A with
  |aV=>cases (show v=.none from c);exact Ls j e
  |au g=>cases (show v=.bool g from c);exact Oy j e g
  |int B=>let⟨@I,rfl⟩:=c;exact Jf j e B I
  |str h=>let⟨@I,rfl⟩:=c;exact Na j e h I
  |tup C=>let⟨d,n,SM,@M,rfl,t,D,i,X⟩:=c;exact Pn j e ⟨n,t,D,M,i⟩ ⋯
  |fn d=>cases s<;>cases a6
  |aO d=>cases s<;>cases a6
  |fd=>cases s<;>cases a6
 |fn d=>cases s<;>cases k
 |aO d=>cases s<;>cases k
 |fd=>cases s<;>cases k
 |tup C=>
  cases s with
  |zero=>cases k
  |succ s=>
  let⟨d,n,SM,@M,rfl,t,D,i,q⟩:=l;have Ti:m.heap.IsTuple d SM:=⟨n,t,D,M,i⟩;cases A with
  |aV=>cases (show v=.none from c);exact Qc Ti ⋯
  |au g=>cases (show v=.bool g from c);exact Pl g Ti ⋯
  |int B=>let⟨@I,rfl⟩:=c;exact Iw B I Ti ⋯
  |str h=>let⟨@I,rfl⟩:=c;exact NO h I Ti ⋯
  |fn d=>cases a6
  |aO d=>cases a6
  |fd=>cases a6
  |tup Sl=>
   let⟨b,Th,p,@x,rfl,y,z,E,r⟩:=c;have TB:m.heap.IsTuple b p:=⟨Th,y,z,x,E⟩;have bg:=q.length;have bx:=r.length;have F:SM.toList.length=SM.size:=by simp
   have G:p.toList.length=p.size:=by simp
   rw[F]at bg;rw[G]at bx;have o:=MB (A:=O) (e:=λB=>cq (C.getD B .aV)<|Sl.getD B .aV) Ti TB ⋯ λB H L=>by
    let⟨@Te,u,N⟩:=q.get (B:=B) (v:=SM[B]) (by rw[hr];simp[H]);let⟨@Tf,w,P⟩:=r.get (B:=B) (v:=p[B]) (by rw[hr];simp[L]);rw[dg,u,dg,w];exact iU s (jv k u) (jv a6 w) (by show O.units+1+s+1<b7;lia) N P
   rw[<-bg,<-bx,qn (C:=C) (Sl:=Sl) (λB f A d b=>by rw[dg,d,dg,b];rfl)]at o;rw[cq];exact o
@[simp] def iS:fZ:=λd b=>match d,b with
 |.im f,.im A=>if (ab.bI 8 f&&ab.bI 8 A)=V then Z (.im<|.au<|!cq f A) else Y
 |.lst f,.lst A=>if (ab.di 8 f&&ab.di 8 A)=V then Z (.im<|.au<|!fN f A) else Y
 |_,_=>Y
def pz(U:e.A.units+20<b7):eX e (d6 .NotEq) iS:=by
 intro G m y h f A v J E i s u M;let⟨Te,Tf,@p,g,k,a,o⟩:=M;unfold iS at a;split at a
 ·rename_i d b;split at a
  ·rename_i c;cases a;rw[cG]at c;exact N7 8 c.1 c.2 ⋯ (g.i.fa i.aR s) (k.i.fa i.aR u) e.prog e.w _ _ ⟨.au _,h,i,rfl,bZ.i o rfl⟩
  ·cases a
 ·rename_i d b;split at a
  ·rename_i c;cases a;rw[cG]at c;let⟨X,r,@w,rfl,t,D,X⟩:=g;let⟨X,al,@SE,rfl,N,P,X⟩:=k;cases s;cases u;let⟨@Q,bg,R,q⟩:=oG i t D;let⟨@S,bx,T,x⟩:=oG i N P;by_cases n:d.length=b.length
   ·have:=JC (A:=e.A) (e:=λB=>cq (d.getD B .aV)<|b.getD B .aV) bg bx (by rw[cJ,cJ,q,x];exact n) ⋯ λB z F=>by
     let⟨@Te,H,g⟩:=R.get (B:=B) (v:=Q.toArray[B]) (by simp at z;simp[z]);let⟨@Tf,I,k⟩:=T.get (B:=B) (v:=S.toArray[B]) (by simp at F;simp[F]);rw[dg,H,dg,I];exact iU 8 (jv c.1 H) (jv c.2 I) (by show e.A.units+1+8+1<b7;lia) g k
    refine this e.prog e.w _ _ ⟨.au _,h,i,rfl,?_⟩;have L:=qn (C:=d) (Sl:=b) (a:=λB=>cq (d.getD B .aV)<|b.getD B .aV) (λB f A d b=>by rw[dg,d,dg,b];rfl);rw[<-n,x7,jO,zV]at L;rw[cJ,q,L];exact bZ.i o rfl
   ·refine Px (A:=e.A) bg bx (by rw[cJ,cJ,q,x];simpa using n) ⋯ e.prog e.w _ _ ⟨.au _,h,i,rfl,?_⟩;rw[y4 n]at o;exact bZ.i o rfl
  ·cases a
 ·cases a
@[simp] def kD(s:Bool):fZ:=λd b=>match d,b with
 |.im f,.im .aV=>Z (.im<|.au<|s != decide (f=.aV))
 |.im (.au f),.im (.au A)=>Z (.im<|.au<|s != (f==A))
 |_,_=>Y
def Kj{p:ab}(c:cD h p v):decide (v=.aV)=decide (p=.aV):=by
 cases p with
 |aV=>cases (show v=.aV from c);rfl
 |au b=>cases (show v=.au b from c);rfl
 |int b=>cases (show v=.int b from c);rfl
 |str b=>cases (show v=.str b from c);rfl
 |fn b=>cases (show v=.ref b from c);rfl
 |tup C=>let⟨d,@w,rfl,X⟩:=c;rfl
 |aO C=>let⟨d,w,@n,rfl,X⟩:=c;rfl
 |fd M=>let⟨d,n,@B,rfl,X⟩:=c;rfl
def Rc:dZ e (d6 .IsNot) (λf A h E=>∃d b,f=.au d/\A=.au b/\E (.au<|!(d==b)) h):=by
 intro G m y h f A v J E i a c g;let⟨d,@b,j,k,o⟩:=g;subst j k;cases a;cases c;refine wpAny_isNot_plain (by cases d<;>cases b<;>rfl) ⟨.au<|!(d==b),h,i,?_,o⟩;cases d<;>cases b<;>rfl
def nX:eX e (d6 .IsNot) (kD V):=by
 refine (Jh.or Rc).imp λf A h E g=>?_;let⟨Te,Tf,@p,b,c,a,o⟩:=g;unfold kD at a;split at a
 ·rename_i d;cases a;refine .inl ⟨c.i,?_⟩;rw[Kj b.i];refine bZ.i o ?_;show _=_;rw[AO]
 ·cases a;refine .inr ⟨_,_,b.i,c.i,bZ.i o ?_⟩;show _=_;rw[AO]
 ·cases a
def d1{SV:Type}[DecidableEq SV](Sx:List (SV×ab))(q:SV):Option ab:=((Sx.find? λr=>decide (r.1=q)).map (·.2))
theorem m6{SV:Type}[DecidableEq SV]{h:ax}{q:SV}:∀{Sx:List (SV×ab)}{B:List (SV×aj)},eG h Sx B->(∀p,d1 Sx q=Z p->∃v,hR B q=Z v/\cD h p v)/\(d1 Sx q=Y->hR B q=Y)
 |_,_,.nil=>⟨(λp a=>by cases a),(λ_=>rfl)⟩
 |_,_,@d9.cons _ _ _ r o _ _ c I=>by
  let@⟨t,D⟩:=m6 (q:=q) I;by_cases a:r.1=q
  ·have b:o.1=q:=c.1.symm.trans a;refine⟨λp hd=>?_,λd=>?_⟩
   ·have:∀u,d1 (r::u) q=Z r.2:=λu=>by simp[d1,jV,a]
    rw[this]at hd;cases hd;exact⟨o.2,sU b,c.2⟩
   ·have:∀u,d1 (r::u) q=Z r.2:=λu=>by simp[d1,jV,a]
    rw[this]at d;cases d
  ·have b:¬ o.1=q:=λe=>a (c.1.trans e);have:∀u,d1 (r::u) q=d1 u q:=λu=>by simp[d1,jV,a]
   rw[this,uS b];exact⟨t,D⟩
@[simp] def bD:fZ:=λd b=>match d,b with
 |.im (.tup C),.im (.int j)=>(dx C j).map .im
 |.lst C,.im (.int j)=>(dx C j).map .im
 |.dr C,.im (.int j)=>(dx C j).map .im
 |.aF Sx,.im (.tup q)=>if ab.keys 7 q=V then (d1 Sx q).map .im else Y
 |.dC Sx,.im (.int j)=>(d1 Sx<|.inl j).map .im
 |.dC Sx,.im (.str j)=>(d1 Sx<|.inr j).map .im
 |.k0 Sx,.im (.tup q)=>if ab.keys 7 q=V then (d1 Sx q).map .im else Y
 |_,_=>Y
def Qt(b:e.A.units+20<b7):iF e (λf A h E=>∃d v,f=.ref d/\gp h d A (Z v)/\E v h):=by
 intro F p G m y h f A v J E i c g ⟨d,j,a,N,o⟩ k;subst a;cases c;exact tail_any (Hi i N) PySem.F.slot_dict_getitem.lookup (ID b i N g λq r l n=>⟨j,h,l,n,o⟩) k
def y3{j:Int}{p:ab}(c:bF h C w)(a:dx C j=Z p):∃v,dx w j=Z v/\cD h p v:=by
 unfold dx at a ⊢;rw[<-c.length];let⟨@B,b,d⟩:=bK.mp a;let⟨@v,e,f⟩:=c.get d;exact⟨v,by rw[b];exact e,f⟩
def NH(z:e.A.units+20<b7):iF e (λf A h E=>∃Te Tf p,e9 h Te f/\e9 h Tf A/\bD Te Tf=Z p/\∀v P Sm,cS h P->ct P p v Sm->Sm.Nodup->(∀d∈Sm,h d=Y)->E v P):=by
 refine (P1.or<|MP.or<|Qt z).imp λf A h E C=>?_;let⟨Te,Tf,@p,u,x,a,o⟩:=C;unfold bD at a;split at a
 ·let⟨@s,c,g⟩:=cC.mp a;cases g;let⟨r,@w,rfl,t,D⟩:=u.i;let⟨@v,l,m⟩:=y3 D c;exact .inr (.inl ⟨r,w,_,v,rfl,x.i,ck.of t,l,bZ.i o m⟩)
 ·let⟨@s,c,g⟩:=cC.mp a;cases g;let⟨X,r,@w,rfl,t,D,X⟩:=u;let⟨@v,l,m⟩:=y3 D c;exact .inl ⟨r,w,_,v,rfl,x.i,c2.of t,l,bZ.i o m⟩
 ·let⟨@s,c,g⟩:=cC.mp a;cases g;let⟨X,r,w,@n,rfl,t,D,X⟩:=u;let⟨@v,l,m⟩:=y3 D c;exact .inl ⟨r,w,_,v,rfl,x.i,.inl<|.inr ⟨n,t⟩,l,bZ.i o m⟩
 ·rename_i Sx q;split at a
  ·rename_i y;let⟨@s,c,g⟩:=cC.mp a;cases g;let⟨X,r,@B,rfl,t,D,X⟩:=u;let⟨@v,l,m⟩:=(m6 D).1 s c;let⟨b,@w,rfl,S1,S6⟩:=x.i;exact .inr (.inr ⟨r,v,rfl,by rw[<-l];exact gp.t t ⟨y,b,w,rfl,S1,S6⟩,bZ.i o m⟩)
  ·cases a
 ·rename_i Sx j;let⟨@s,c,g⟩:=cC.mp a;cases g;let⟨X,r,@B,rfl,t,D,X⟩:=u;let⟨@v,l,m⟩:=(m6 D).1 s c;refine .inr (.inr ⟨r,v,rfl,?_,bZ.i o m⟩);rw[show A=b3 (.inl j) from x.i,<-l];exact gp.k t
 ·rename_i Sx j;let⟨@s,c,g⟩:=cC.mp a;cases g;let⟨X,r,@B,rfl,t,D,X⟩:=u;let⟨@v,l,m⟩:=(m6 D).1 s c;refine .inr (.inr ⟨r,v,rfl,?_,bZ.i o m⟩);rw[show A=b3 (.inr j) from x.i,<-l];exact gp.k t
 ·rename_i Sx q;split at a
  ·rename_i y;let⟨@s,c,g⟩:=cC.mp a;cases g;let⟨X,r,B,@bN,rfl,t,D,X⟩:=u;let⟨@v,l,m⟩:=(m6 D).1 s c;let⟨b,@w,rfl,S1,S6⟩:=x.i;exact .inr (.inr ⟨r,v,rfl,.inr ⟨B,q,b,.inr ⟨bN,t⟩,rfl,⟨y,b,w,rfl,S1,S6⟩,l.symm⟩,bZ.i o m⟩)
  ·cases a
 ·cases a
end
end L2
namespace cI
open Spec PyProof.Rows
section
variable{Su:bl}{l:a8}{O:bp}{Sn:ae->av->Prop}{m:av}
def OL{I aH:af}{Sw:Array ae}{bY k:ae}{Sp Sq:Option Int}{E:ae->av->Prop}(r:oi m.heap I Sw)(a:m.heap.IsSliceOf aH bY k .none)(bI:j6 bY Sp)(b:j6 k Sq)(c:b_ Sw.size 0 Sp=0)(t:b_ Sw.size Sw.size Sq=Sw.size)(o:E (.ref I) m):wpAny (aQ Su l) O (mU (.ref I)<|.ref aH) E Sn m:=by
 let⟨@Sy,d,e,hd⟩:=id a;have ty:m.TypeIs (.ref aH) "slice" := ⟨Sy,d,e⟩;unfold mU;try with_reducible refine fX ?_
 first|refine aD (a7 ?_)|skip
 refine aD (AF r.typeIs ∅ ?_);refine aD (lU (name:=aC.ofString "__getitem__") r.typeIs oD<|i_ oD r.typeIs EG ?_<|BW _ _);show wpAny _ _ (bk.Tuple.tupleItemsOf (.ref I) >>= _) _ _ m;refine aD (Bn r ?_);refine aD (wpAny_typeOf ty ?_);rw[aN ∅];refine aD (Dq a bI b ?_);rw[c,t];show wpAny _ _ (if (((0:Nat):Int)==0&&(1:Int)==1&&(Sw.size-0)==Sw.size)=V then _ else _) _ _ m;rw[aN ↥0];refine aD (m:=bk.Tuple.tupleIsExact _) (aD<|wpAny_typeOf r.typeIs<|a7 ?_);show wpAny _ _ (if (ae.type "tuple" == ae.type "tuple")=V then _ else _) _ _ m;rw[aN ∅];exact aD (lM<|a7 ⟨_,rfl,a7 o⟩)
end
end cI
namespace L2
open Spec PyProof.Rows
section
variable{e:aK}
@[simp] def nz(N:aE ak):aE ak:=λk=>(N k).bind λr=>match r.1 with
 |.im (.int j)=>Z (.im<|.int<|-j,r.2)
 |_=>Y
variable{N:aE ak}{SD:cn}
def ow{d:a_}(c:b4 e d N):b4 e (.UnaryOp .USub d SD) (nz N):=by
 refine eb (OP K_ c) λy h E a=>?_;let⟨k,L,u,@SG,z,ao,b,o⟩:=a;let⟨@⟨f,So⟩,t,D⟩:=bK.mp b;refine⟨k,L,f,So,z,ao,t,λv Sr SI Sm g i l=>?_⟩;dsimp only at D;split at D
 ·rename_i j;cases D;exact⟨j,i.1,o _ Sr SI [] g ⟨rfl,rfl⟩ (by rw[cp];exact l.both)⟩
 ·cases D
def K6(N:aE (Option Int)):cQ:=(λy h E=>∃k L H SG,bf h k y L/\L.Nodup/\N k=Z (H,SG)/\∀P SW,bf P SG y SW->ba h L P SW->E H P)
def sA(e:aK)(a:Option a_)(N:aE (Option Int)):Prop:=(∀ ⦃r⦄,As e a (K6 N) r)
def A7{a:Option a_}{I S4:cQ}(c:oc e a I)(j:∀y h E,S4 y h E->I y h E):oc e a S4:=λG m y h E i b=>c G m y h E i (j y h E b)
def gK:aE (Option Int):=(λk=>Z (Y,k))
@[simp] def gy(N:aE ak):aE (Option Int):=λk=>(N k).bind λr=>match r.1 with
 |.im (.int j)=>Z (Z j,r.2)
 |_=>Y
def mq:sA e Y gK:=by
 refine A7 NM λy h E a=>?_;let⟨k,L,u,@SG,z,ao,b,o⟩:=a;cases b;exact o h L z (ba.perm ao<|List.Perm.refl _)
variable{a:a_}
def j3(c:b4 e a N):sA e (Z a) (gy N):=by
 refine A7 (Mm c) λy h E b=>?_;let⟨k,L,u,@SG,z,ao,d,o⟩:=b;let⟨@⟨f,So⟩,t,D⟩:=bK.mp d;refine⟨k,L,f,So,z,ao,t,λv Sr SI Sm g i l=>?_⟩;dsimp only at D;split at D
 ·rename_i j;cases D;exact⟨j,i.1,o Sr SI g l.both⟩
 ·cases D
def fj{S0:Type}(w:List S0)(Sp Sq:Option Int):List S0:=((w.drop<|cI.b_ w.length 0 Sp).take (cI.b_ w.length w.length Sq-cI.b_ w.length 0 Sp))
variable{h:ax}
theorem bF.drop:∀{C:List ab}{w:List aj} (s:Nat),bF h C w->bF h (C.drop s) (w.drop s)
 |C,w,0,c=>c
 |[],w,s+1,c=>by cases (show w=[] from c);exact rfl
 |p::C,w,s+1,c=>by
  let⟨v,@u,rfl,t,D⟩:=c;exact D.drop s
theorem bF.take:∀{C:List ab}{w:List aj} (s:Nat),bF h C w->bF h (C.take s) (w.take s)
 |C,w,0,c=>rfl
 |[],w,s+1,c=>by cases (show w=[] from c);exact rfl
 |p::C,w,s+1,c=>by
  let⟨v,@u,rfl,t,D⟩:=c;exact⟨v,_,rfl,t,D.take s⟩
def bF.cut{C:List ab}{w:List aj}(Sp Sq:Option Int)(c:bF h C w):bF h (fj C Sp Sq) (mj w Sp Sq):=by
 unfold fj mj;rw[c.length];exact (c.drop _).take _
@[simp] def kg(p:ak)(Sp Sq:Option Int):Option ak:=match p with
 |.im (.tup C)=>Z (.im<|.tup<|fj C Sp Sq)
 |.lst C=>Z (.lst<|fj C Sp Sq)
 |.dr C=>Z (.lst<|fj C Sp Sq)
 |_=>Y
def G4(Q:Φ):aj->Option Int->Option Int->ax->cu->Prop:=(λf Sp Sq h E=>∃d w,f=.ref d/\ck Q h d w/\cI.b_ w.length 0 Sp=0/\cI.b_ w.length w.length Sq=w.length/\E (.ref d) h)
def Qa:qJ e (λf Sp Sq h E=>∃p u,e9 h p f/\kg p Sp Sq=Z u/\bZ h u E):=by
 have all:qJ e (G4 e.K):=by
  intro G m y h f v bY k Sp Sq aH E i b g bI q c;let⟨d,@w,rfl,J,L,t,o⟩:=c;cases b;let⟨@Sw,u,B,N⟩:=i.tuple J;have F:Sw.toArray.size=w.length:=by rw[cJ];exact u.length.symm
  exact⟨"tuple",_,oD.lookup,B.typeIs,cI.OL B g bI q (by rw[F];exact L) (by rw[F];exact t) ⟨.ref d,h,i,rfl,o⟩⟩
 intro G m y h f v bY k Sp Sq aH E i b g bI q M;let⟨p,@u,A,a,o⟩:=M;unfold kg at a;split at a
 ·rename_i C;cases a;let⟨r,@w,rfl,t,D⟩:=A.i;by_cases x:cI.b_ w.length 0 Sp=0/\cI.b_ w.length w.length Sq=w.length
  ·refine all G m y h _ v bY k Sp Sq aH E i b g bI q ⟨r,w,rfl,ck.of t,x.1,x.2,bZ.i o ⟨r,w,rfl,t,?_⟩⟩;have:fj C Sp Sq=C:=by
    unfold fj;rw[D.length,x.1,x.2,vx,wD,<-D.length,GJ]
   rw[this];exact D
  ·exact Hx G m y h _ v bY k Sp Sq aH E i b g bI q ⟨r,w,rfl,ck.of t,x,λs z=>bZ.t o z<|D.cut Sp Sq⟩
 ·cases a;let⟨X,r,@w,rfl,t,D,X⟩:=A;exact C2 G m y h _ v bY k Sp Sq aH E i b g bI q ⟨r,w,rfl,c2.of t,λs z=>bZ.l o z<|D.cut Sp Sq⟩
 ·cases a;let⟨X,r,w,@n,rfl,t,D,X⟩:=A;exact C2 G m y h _ v bY k Sp Sq aH E i b g bI q ⟨r,w,rfl,.inl<|.inr ⟨n,t⟩,λs z=>bZ.l o z<|D.cut Sp Sq⟩
 ·cases a
@[simp] def f6(N:aE bC)(H c:aE (Option Int)):aE ak:=λk=>(N k).bind λr=>(H r.2).bind λo=>(c o.2).bind λu=>(dF u.2 r.1).bind λp=>(kg p o.1 u.1).map λa=>(a,u.2)
def k_{Sp Sq:Option a_}{N:aE bC}{m rZ:aE (Option Int)}{Tz:cn}(r:dv e a N)(s:sA e Sp m)(w:sA e Sq rZ):b4 e (.Subscript a (.Slice Sp Sq Y Tz) SD) (f6 N m rZ):=by
 refine eb (RK Qa r s w) λy h E x=>?_;let⟨k,L,u,@SG,z,ao,A,o⟩:=x;let⟨@⟨f,So⟩,t,D⟩:=bK.mp A;let⟨@⟨H,S3⟩,B,C⟩:=bK.mp D;let⟨@⟨J,Ts⟩,F,G⟩:=bK.mp C;let⟨@p,I,M⟩:=bK.mp G;let⟨@bd,O,P⟩:=cC.mp M;cases P;refine⟨k,L,f,So,z,ao,t,λv Sr SI Sm Q S5 b=>⟨So,SI,H,S3,Q,(dn.mp b.ao).1,B,λSK SU R q=>⟨S3,SU,J,Ts,R,q.ao,F,λS T g U=>?_⟩⟩⟩;have i:=q.seq U;have Tj:iu S y f v Sm:=S5.mono i.tup λd al n a=>i.keep d n a λc=>(dn.mp b.ao).2.2 d c d al rfl;have am:=b.trans i S5.chg;exact⟨p,_,Tj.read g I,O,λl an ap j as a1 a2=>o l an T ap (g.mono j.tupS λd X n a=>j d n a) as<|am.new j a1 a2 g.chg⟩
abbrev hz:=List ak->Option ak
@[simp] def cH:hz:=λC=>match C with
 |[.im (.tup f)]=>Z (.im<|.int f.length)
 |[.lst f]=>Z (.im<|.int f.length)
 |[.dr f]=>Z (.im<|.int f.length)
 |[.hp f]=>Z (.im<|.int f.length)
 |[.dC f]=>Z (.im<|.int f.length)
 |[.im (.str f)]=>if f.length<=100000 then Z (.im<|.int f.length) else Y
 |_=>Y
variable{R:List aj}
def fR{p:ak}(c:md h [p] R):∃v,R=[v]/\e9 h p v:=by
 let⟨v,@u,rfl,t,D⟩:=c;cases (show u=[] from D);exact⟨v,rfl,t⟩
def AW{p a:ak}(c:md h [p,a] R):∃v J,R=[v,J]/\e9 h p v/\e9 h a J:=by
 let⟨v,@u,rfl,t,D⟩:=c;let⟨@J,rfl,b⟩:=fR D;exact⟨v,J,rfl,t,b⟩
def eG.length{SV:Type}{H:List (SV×ab)}{M:List (SV×aj)}(c:eG h H M):H.length=M.length:=d9.length c
def gc:gH e (.builtin "len") cH:=by
 refine (L9.or<|Oi.or Ha).imp λw h E d=>?_;let⟨C,@p,b,a,o⟩:=d;unfold cH at a;split at a
 ·cases a;let⟨@v,rfl,c⟩:=fR b;let⟨r,@w,rfl,t,D⟩:=c.i;exact .inl ⟨r,w,rfl,.inr<|ck.of t,by rw[<-D.length];exact bZ.i o rfl⟩
 ·cases a;let⟨@v,rfl,⟨X,r,@w,rfl,t,D,X⟩⟩:=fR b;exact .inl ⟨r,w,rfl,.inl<|c2.of t,by rw[<-D.length];exact bZ.i o rfl⟩
 ·cases a;let⟨@v,rfl,⟨X,r,w,@n,rfl,t,D,X⟩⟩:=fR b;exact .inl ⟨r,w,rfl,.inl<|.inl<|.inr ⟨n,t⟩,by rw[<-D.length];exact bZ.i o rfl⟩
 ·cases a;let⟨@v,rfl,⟨X,r,w,@U,rfl,t,D,X⟩⟩:=fR b;exact .inl ⟨r,w,rfl,.inl<|c2.of t,by rw[<-D.length];exact bZ.i o rfl⟩
 ·cases a;let⟨@v,rfl,⟨X,r,@B,rfl,t,D,X⟩⟩:=fR b;exact .inr (.inr ⟨r,B,rfl,t,by rw[<-D.length];exact bZ.i o rfl⟩)
 ·split at a
  ·rename_i f;cases a;let⟨@v,rfl,c⟩:=fR b;cases (show v=_ from c.i);exact .inr (.inl ⟨_,rfl,ma f,bZ.i o rfl⟩)
  ·cases a
 ·cases a
@[simp] def k4:hz:=λC=>match C with
 |[p]=>(h_ p).map λf=>.im (.tup f)
 |_=>Y
@[simp] def wu:hz:=λC=>match C with
 |[p]=>(h_ p).map .lst
 |_=>Y
def rd:gH e (.type "tuple") k4:=by
 refine ND.imp λw h E g=>?_;let⟨C,@p,k,a,o⟩:=g;unfold k4 at a;split at a
 ·let⟨@f,b,l⟩:=cC.mp a;cases l;let⟨@v,rfl,c⟩:=fR k;unfold h_ at b;split at b
  ·cases b;let⟨r,@w,rfl,t,D⟩:=c.i;exact⟨r,w,rfl,.inr ⟨ck.of t,bZ.i o ⟨r,w,rfl,t,D⟩⟩⟩
  ·cases b;let⟨X,r,@w,rfl,t,D,X⟩:=c;exact⟨r,w,rfl,.inl ⟨c2.of t,λH d=>bZ.t o d D⟩⟩
  ·cases b;let⟨X,r,w,@n,rfl,t,D,X⟩:=c;exact⟨r,w,rfl,.inl ⟨.inl<|.inr ⟨n,t⟩,λH d=>bZ.t o d D⟩⟩
  ·cases b
 ·cases a
def QH:gH e (.type "list") wu:=by
 refine QJ.imp λw h E g=>?_;let⟨C,@p,k,a,o⟩:=g;unfold wu at a;split at a
 ·let⟨@f,b,m⟩:=cC.mp a;cases m;let⟨@v,rfl,c⟩:=fR k;unfold h_ at b;split at b
  ·cases b;let⟨r,@w,rfl,t,D⟩:=c.i;exact⟨r,w,rfl,.inr<|ck.of t,λH d=>bZ.l o d D⟩
  ·cases b;let⟨X,r,@w,rfl,t,D,X⟩:=c;exact⟨r,w,rfl,.inl<|c2.of t,λH d=>bZ.l o d D⟩
  ·cases b;let⟨X,r,w,@n,rfl,t,D,X⟩:=c;exact⟨r,w,rfl,.inl<|.inl<|.inr ⟨n,t⟩,λH d=>bZ.l o d D⟩
  ·cases b
 ·cases a
@[simp] def vInt:hz:=λC=>match C with
 |[.im (.int j)]=>Z (.im<|.int j)
 |[.im (.au b)]=>Z (.im<|.int<|if b then 1 else 0)
 |_=>Y
def MA:gH e (.type "int") vInt:=by
 refine O2.imp λw h E d=>?_;let⟨C,@p,b,a,o⟩:=d;unfold vInt at a;split at a
 ·cases a;let⟨@v,rfl,c⟩:=fR b;cases (show v=_ from c.i);exact .inl ⟨_,rfl,bZ.i o rfl⟩
 ·cases a;let⟨@v,rfl,c⟩:=fR b;cases (show v=_ from c.i);exact .inr ⟨_,rfl,bZ.i o rfl⟩
 ·cases a
@[simp] def yq:hz:=λC=>match C with
 |[.im (.int j),.im<|.int B]=>Z (.im<|.int<|if B>j then B else j)
 |_=>Y
@[simp] def vX:hz:=λC=>match C with
 |[.im (.int j),.im<|.int B]=>Z (.im<|.int<|if B<j then B else j)
 |_=>Y
def Lu(b:e.calm=V):gH e (.builtin "max") yq:=by
 refine (K8 b).imp λw h E d=>?_;let⟨C,@p,f,a,o⟩:=d;unfold yq at a;split at a
 ·cases a;let⟨v,@J,rfl,c,q⟩:=AW f;cases (show v=_ from c.i);cases (show J=_ from q.i);exact⟨_,_,rfl,bZ.i o rfl⟩
 ·cases a
def Oz(b:e.calm=V):gH e (.builtin "min") vX:=by
 refine (Ml b).imp λw h E d=>?_;let⟨C,@p,f,a,o⟩:=d;unfold vX at a;split at a
 ·cases a;let⟨v,@J,rfl,c,q⟩:=AW f;cases (show v=_ from c.i);cases (show J=_ from q.i);exact⟨_,_,rfl,bZ.i o rfl⟩
 ·cases a
@[simp] def ka:List ab->Option (List Bool)
 |[]=>Z []
 |.au b::C=>(ka C).map λu=>b::u
 |_::_=>Y
theorem B2{h:ax}:∀{C:List ab}{w:List aj}{bs:List Bool},bF h C w->ka C=Z bs->w=bs.map aj.au
 |[],w,bs,c,a=>by cases a;exact c
 |.au b::C,w,bs,c,a=>by
  let⟨v,@u,rfl,t,D⟩:=c;rw[ka]at a;let⟨@r,d,e⟩:=cC.mp a;cases e;cases (show v=.au b from t);rw[B2 D d];rfl
 |.aV::_,_,_,_,a=>by cases a
 |.int _::_,_,_,_,a=>by cases a
 |.str _::_,_,_,_,a=>by cases a
 |.tup _::_,_,_,_,a=>by cases a
 |.fn _::_,_,_,_,a=>by cases a
 |.aO _::_,_,_,_,a=>by cases a
 |.fd _::_,_,_,_,a=>by cases a
@[simp] def h8:hz:=λC=>match C with
 |[.lst f]=>(ka f).map λbs=>.im (.au<|bs.all id)
 |_=>Y
def lH(b:e.calm=V):gH e (.builtin "all") h8:=by
 refine (QY b).imp λw h E c=>?_;let⟨C,@p,d,a,o⟩:=c;unfold h8 at a;split at a
 ·let⟨@f,g,k⟩:=cC.mp a;cases k;let⟨@v,rfl,⟨X,r,@w,rfl,t,D,X⟩⟩:=fR d;rw[B2 D g]at t;exact⟨r,f,rfl,t,bZ.i o rfl⟩
 ·cases a
end
section
variable{e:aK}
def xP:ak->Option Nat
 |.im (.int _)=>Z 0
 |.im (.au _)=>Z 1
 |.im (.str _)=>Z 2
 |.im (.tup _)=>Z 3
 |.im .aV=>Z 4
 |.lst _=>Z 4
 |.im (.aO _)=>Z 4
 |.im (.fd _)=>Z 4
 |.aF _=>Z 4
 |.dC _=>Z 4
 |_=>Y
@[simp] def xA(F:String)(p:ak):Option Bool:=
 (xP p).bind λq=>if F = "int" then Z (q==0 || q==1) else if F = "bool" then Z (q==1) else if F = "str" then Z (q==2) else if F = "tuple" then Z (q==3) else Y
variable{F:String}{b:Bool}
def Lm{p:ak}(c:xA F p=Z b):∃q,xP p=Z q/\((F = "int" /\ b=(q==0 || q==1))\/(F = "bool" /\ b=(q==1))\/(F = "str" /\ b=(q==2))\/(F = "tuple" /\ b=(q==3))):=by
 let⟨@q,a,c⟩:=bK.mp c;refine⟨q,a,?_⟩;by_cases t:F = "int"
 ·rw[aN t]at c;cases c;exact .inl ⟨t,rfl⟩
 rw[aT t]at c;by_cases D:F = "bool"
 ·rw[aN D]at c;cases c;exact .inr (.inl ⟨D,rfl⟩)
 rw[aT D]at c;by_cases d:F = "str"
 ·rw[aN d]at c;cases c;exact .inr (.inr<|.inl ⟨d,rfl⟩)
 rw[aT d]at c;by_cases e:F = "tuple"
 ·rw[aN e]at c;cases c;exact .inr (.inr<|.inr ⟨e,rfl⟩)
 rw[aT e]at c;cases c
def nu{O SQ az k S:Prop}(c:O\/SQ\/az\/k)(d:O->S)(b:SQ->S)(g:az->S)(p:k->S):S:=c.elim d λc=>c.elim b λc=>c.elim g p
variable{G:List (af×aW)}{h:ax}{m:av}
def Ce{y:aS}(i:aG e G y h m){d:af}(c:(∃q,h d=Z (.aF q))\/∃q,h d=Z (.dC q)):∃n,m.heap.get? d=Z n/\n.cls=.type "dict" := by
 rcases c with ⟨q,c⟩|⟨q,c⟩
 ·let@⟨_,_,⟨@w,_,⟨n,Sl,@U,t,D,_⟩⟩⟩:=(show eC e.prog e.w h m.heap d (.aF q) from i.aR d _ c);exact⟨n,t,D.1⟩
 ·let@⟨_,_,⟨@R,_,⟨n,Sl,@U,t,D,_⟩⟩⟩:=(show eC e.prog e.w h m.heap d (.dC q) from i.aR d _ c);exact⟨n,t,D.1⟩
def II{y:aS}(i:aG e G y h m){d:af}{r:aW}{Sx:List (List ab×aj)}(c:h d=Z (.dq r<|.aF Sx)):∃n,m.heap.get? d=Z n/\n.cls=.type "dict" := by
 let@⟨_,_,_,⟨@w,_,⟨n,Sl,@U,t,D,_⟩⟩⟩:=(show eC e.prog e.w h m.heap d (.dq r<|.aF Sx) from i.aR d _ c);exact⟨n,t,D.1⟩
def Nd:ey e (.builtin "isinstance") (λw h E=>∃f F p b,w=[f,.ty F]/\e9 h p f/\xA F p=Z b/\E (.au b) h):=by
 intro G m y h w SP E i u c;let⟨f,F,p,@b,rfl,k,Sq,o⟩:=c;have gx:=u;cases u with
 |cons u I=>
  cases I with
  |cons Tg I=>
   cases I;cases Tg;have r:∀{b:Bool},E (.au b) h->ew e G y E (.bool b) {m with toks:=m.toks+1}:=λ{b} o=>⟨.au b,h,i.tok _,rfl,o⟩;let⟨@q,g,v⟩:=Lm Sq;have s:b=aq->E (.au aq) h:=λa=>a ▸ o;have J:∀{d:af},q=4->(∃n,m.heap.get? d=Z n/\n.cls=.type "dict")->wpAny (aQ e.prog e.w) e.A (call (.builtin "isinstance") [.ref d,.type F]) (ew e G y E) e.cj m:=by
    rintro d rfl ⟨n,C,H⟩;refine nu v (λ⟨a,x⟩=>a ▸ IsiPair.dict_int C H (r<|s x)) (λ⟨a,x⟩=>a ▸ IsiPair.dict_bool C H (r<|s x)) (λ⟨a,x⟩=>a ▸ IsiPair.dict_str C H (r<|s x)) λL=>?_;let@⟨a,x⟩:=L;exact a ▸ IsiPair.dict_tuple C H (r<|s x)
   have z:Bf e.K h f F b->wpAny (aQ e.prog e.w) e.A (call (.builtin "isinstance") [_,.type F]) (ew e G y E) e.cj m:=λN=>Kr G m y h _ _ E i gx ⟨f,F,b,rfl,N,o⟩;have M:∀{d:af}{w:List aj},q=4->f=.ref d->c2 e.K h d w->wpAny (aQ e.prog e.w) e.A (call (.builtin "isinstance") [_,.type F]) (ew e G y E) e.cj m:=λ{d w} g a P=>by
    subst g;exact z (.inr<|.inr<|.inr<|.inr ⟨d,w,a,P,nu v (λc=>.inr<|.inl c) (λc=>.inr<|.inr<|.inr<|.inl c) (λc=>.inr<|.inr<|.inl c) λc=>.inr<|.inr<|.inr<|.inr c⟩)
   unfold xP at g;split at g
   ·cases g;exact z (.inl ⟨_,k.i,nu v .inl (λc=>.inr<|.inr<|.inr<|.inl c) (λc=>.inr<|.inr<|.inl c) λc=>.inr<|.inl c⟩)
   ·cases g;exact z (.inr<|.inl ⟨_,k.i,nu v (λc=>.inr<|.inl c) .inl (λc=>.inr<|.inr<|.inr<|.inl c) λc=>.inr<|.inr<|.inl c⟩)
   ·cases g;exact z (.inr<|.inr<|.inl ⟨_,k.i,nu v (λc=>.inr<|.inl c) (λc=>.inr<|.inr<|.inr<|.inl c) .inl λc=>.inr<|.inr<|.inl c⟩)
   ·cases g;let⟨d,@w,a,t,D⟩:=k.i;exact z (.inr<|.inr<|.inr<|.inl ⟨d,w,a,ck.of t,nu v (λc=>.inr<|.inl c) (λc=>.inr<|.inr<|.inr<|.inl c) (λc=>.inr<|.inr<|.inl c) .inl⟩)
   ·cases g;cases (show f=.aV from k.i);cases u;refine nu v (λ⟨a,x⟩=>a ▸ IsiPair.NoneType_int (r<|s x)) (λ⟨a,x⟩=>a ▸ IsiPair.NoneType_bool (r<|s x)) (λ⟨a,x⟩=>a ▸ IsiPair.NoneType_str (r<|s x)) λL=>?_;let@⟨a,x⟩:=L;exact a ▸ IsiPair.NoneType_tuple (r<|s x)
   ·cases g;let⟨X,d,@w,a,t,D,X⟩:=k;exact M rfl a (c2.of t)
   ·cases g;let⟨d,w,@n,a,t,D⟩:=k.i;exact M rfl a (.inl<|.inr ⟨n,t⟩)
   ·cases g;let⟨d,n,@B,rfl,t,X⟩:=k.i;cases u;exact J rfl (II i t)
   ·cases g;let⟨X,d,@w,rfl,t,D,X⟩:=k;cases u;exact J rfl (Ce i<|.inl ⟨_,t⟩)
   ·cases g;let⟨X,d,@w,rfl,t,D,X⟩:=k;cases u;exact J rfl (Ce i<|.inr ⟨_,t⟩)
   ·cases g
@[simp] def kP(F:String)(N:aE bC):aE ak:=λk=>(N k).bind λr=>(dF r.2 r.1).bind λp=>(xA F p).map λb=>(.im<|.au b,r.2)
variable{f:aC}{a:a_}{N:aE bC}{SD:cn}
def mZ{r Tz:cn}(i:dP e "isinstance")(j:e.aw "isinstance" = Y)(l:eB "isinstance" = Z (.builtin "isinstance"))(m:dP e f)(q:e.aw f=Y)(s:eB f=Z (.type F))(c:dv e a N)(w:f ≠ "__name__" := by decide)(hd:(f==("__debug__" : aC))=aq:=by decide)(d:bw [a,.Name f Tz] e.env=(aq,b1 a e.env)::bw [.Name f Tz] e.env:=by rfl)(x:bw [.Name f Tz] e.env=(aq,b1 (.Name f Tz) e.env)::bw [] e.env:=by rfl)(A:(e8 SD<|bw [.Name f Tz] e.env).any (·.1)=aq:=by rfl):b4 e (.Call (.Name "isinstance" r) [a,.Name f Tz] [] SD) (kP F N):=by
 refine eb (sF Nd i j l (l1 c (l1 (DQ (v:=.ty F) m q s rfl w hd) qa x) d) ∅ ∅ d A) λy h E B=>?_;let⟨k,L,u,@SG,z,ao,C,o⟩:=B;let⟨@⟨n,So⟩,t,D⟩:=bK.mp C;let⟨@p,G,H⟩:=bK.mp D;let⟨@b,I,J⟩:=cC.mp H;cases J;exact⟨k,L,n,So,z,ao,t,λv Sr SI Sm g S5 M=>⟨v,F,p,b,rfl,S5.read g G,I,o _ Sr SI [] g ⟨rfl,rfl⟩ (by rw[cp];exact M.both)⟩⟩
@[simp] def pL:ak->Option Bool
 |.im .aV=>Z aq
 |.im (.au b)=>Z b
 |.im (.int j)=>Z (j != 0)
 |.im (.str f)=>if f.length<=100000 then Z ((f.length:Int) != 0) else Y
 |.im (.tup C)=>Z (!C.isEmpty)
 |.lst C=>Z (!C.isEmpty)
 |.dr C=>Z (!C.isEmpty)
 |.dC Sx=>Z (!Sx.isEmpty)
 |_=>Y
def bF.emp{C:List ab}{w:List aj}(c:bF h C w):(!w.isEmpty)=!C.isEmpty:=by
 cases C with
 |nil=>cases (show w=[] from c);rfl
 |cons p C=>let⟨v,@u,rfl,X⟩:=c;rfl
def Ke{p:ak}{v:aj}(c:e9 h p v)(a:pL p=Z b):xq e.K v h b:=by
 unfold pL at a;split at a
 ·cases a;cases (show v=_ from c.i);rfl
 ·cases a;cases (show v=_ from c.i);rfl
 ·cases a;cases (show v=_ from c.i);rfl
 ·split at a
  ·rename_i d;cases a;cases (show v=_ from c.i);exact⟨ma d,rfl⟩
  ·cases a
 ·cases a;let⟨r,@w,rfl,t,D⟩:=c.i;exact .inr (.inl ⟨w,ck.of t,D.emp.symm⟩)
 ·cases a;let⟨X,r,@w,rfl,t,D,X⟩:=c;exact .inl ⟨w,c2.of t,D.emp.symm⟩
 ·cases a;let⟨X,r,w,@n,rfl,t,D,X⟩:=c;exact .inl ⟨w,.inl<|.inr ⟨n,t⟩,D.emp.symm⟩
 ·cases a;let⟨X,r,@B,rfl,t,D,X⟩:=c;refine .inr (.inr ⟨B,t,?_⟩);cases D<;>rfl
 ·cases a
@[simp] def ez(N:aE bC):aE Bool:=λk=>(N k).bind λr=>(dF r.2 r.1).bind λp=>(pL p).map λb=>(b,r.2)
def gw(c:dv e a N)(g:∀d,oE a e.env d=(do let v <-d;standAt a.pos;holding [v] (truthy v)):=by intro X;rfl):gY e a (ez N):=by
 refine tN (Qy c g) λy h E i=>?_;let⟨k,L,b,@SG,z,ao,j,o⟩:=i;let⟨@⟨n,So⟩,t,D⟩:=bK.mp j;let⟨@p,l,m⟩:=bK.mp D;let⟨@u,q,r⟩:=cC.mp m;cases r;exact⟨k,L,n,So,z,ao,t,λv Sr SI Sm f S5 s=>⟨_,Ke (S5.read f l) q,o Sr SI f s.both⟩⟩
variable{I:hT}
def zU{j:Int}(a:dP e f)(b:e.aw f=Z (.int j I))(hd:(f==("__debug__" : aC))=aq:=by decide):b4 e (.Name f SD) (aA<|.int j):=nV (rC (v:=.int j) a b ⟨I,rfl⟩ hd) λ_=>rfl
def jM{j:aC}(a:dP e f)(b:e.aw f=Z (.str j I))(hd:(f==("__debug__" : aC))=aq:=by decide):b4 e (.Name f SD) (aA<|.str j):=nV (rC (v:=.str j) a b ⟨I,rfl⟩ hd) λ_=>rfl
def kv{x:af}(a:dP e f)(b:e.aw f=Z (.ref x))(hd:(f==("__debug__" : aC))=aq:=by decide):b4 e (.Name f SD) (aA<|.fn x):=nV (rC (v:=.ref x) a b rfl hd) λ_=>rfl
end
variable{TM H:cn}{n:a_}{id F:String}{name:aC}{N:aE (List bC)}{j:Nat}{ty:ak->Bool}{Q:Φ}{Th:ff}{d:af}{h:ax}
def ba.chg{L SI:List af}(c:d∈L)(g:fV h d)(ao:SI.Nodup)(e:∀f∈SI,f∈L):ba h L (upd h d Th) SI:=by
 let⟨@n,a,i,j⟩:=g;refine⟨λf J S_ b=>?_,λf b=>.inl<|e f b,ao,fb.of (λf w S_=>?_)<|λf r J S_=>?_,λf J S_=>?_⟩
 ·rw[cP (λk=>b (by rw[k];exact c))];exact S_
 ·rw[cP]
  ·exact S_
  ·rintro rfl;rw[a]at S_;exact i w (Option.some.inj S_)
 ·rw[cP]
  ·exact S_
  ·rintro rfl;rw[a]at S_;exact j r J (Option.some.inj S_)
 ·by_cases b:f=d
  ·subst b;exact⟨Th,eF⟩
  ·exact⟨J,(cP b).trans S_⟩
theorem cD.k6(g:fV h d):oU h (upd h d Th):=(ba.chg (L:=[d]) (SI:=[]) (.head _) g jX<|λf a=>nomatch a).tup.tup
def oQ(e:aK)(id:String)(a5:ak->List ak->Option (ak×ak)):Prop:=(
 xO e id λf R h E=>∃g C u a Sm SF,ct h g f Sm/\dW h C R SF/\(Sm++SF).Nodup/\a5 g C=Z (u,a)/\∀v P b b0,ct P u v b->ct P a f b0->ba h (Sm++SF) P (b++b0)->E v P)
@[simp] def hO:ak->Bool
 |.lst _=>V
 |.hp _=>V
 |_=>aq
@[simp] def gU(ty:ak->Bool)(j:Nat)(a5:ak->List ak->Option (ak×ak))(N:aE (List bC)):aE ak:=λk=>match k[j]? with
 |some (Z a)=>if ty a=V then (N k).bind λr=>(eJ r.1 r.2).bind λo=>match o.2[j]? with
   |some (Z g)=>(a5 g o.1).map λu=>(u.1,o.2.set j<|Z u.2)
   |_=>Y
  else Y
 |_=>Y
def z8{a5:ak->List ak->Option (ak×ak)}{y:aS}{E:cu}(G:∀h g f Sm,ct h g f Sm->ty g=V->mz Q F f h)(c:k3 (gU ty j a5 N) y h E):∃f,y[j]?=Z (Z f)/\mz Q F f h/\gL N y h λR SK=>∃g C u e Sm SF,ct SK g f Sm/\dW SK C R SF/\(Sm++SF).Nodup/\a5 g C=Z (u,e)/\∀v P l b0,ct P u v l->ct P e f b0->ba SK (Sm++SF) P (l++b0)->E v P:=by
 let⟨k,L,u,@SG,z,ao,b,o⟩:=c;unfold gU at b;split at b
 ·rename_i H I;split at b
  ·rename_i J;let⟨f,bs,@bv,m,M,X,X⟩:=z.out I;refine⟨f,m,G h H f _ M J,?_⟩;let⟨@⟨Sy,So⟩,t,D⟩:=bK.mp b;let⟨@⟨C,S3⟩,S,i⟩:=bK.mp D;refine⟨k,L,Sy,So,z,ao,t,λR Sr SI l T S5 al=>?_⟩;let⟨SU,@SF,am,an,Tb⟩:=nv T S5 S;dsimp only at i;split at i
   ·rename_i g ap;let⟨@⟨Tg,e⟩,as,a1⟩:=cC.mp i;cases a1;let⟨ca,Sm,@q,r,a2,s,bd⟩:=am.out ap;rw[m]at r;cases r;have w:ba h L Sr ((Sm++SF)++q):=al.ku (Tb.symm.trans ((gu SF bd.symm).trans (by
     rw[b6];exact d3)))
    have x:=dn.mp w.ao;refine⟨g,C,_,e,Sm,SF,a2,an,x.1,as,λv P O SQ be ix p=>?_⟩;have bi:bf P (S3.set j<|Z .cL) y q:=s.mono p.tup λd bm n a=>p.keep d n a λc=>x.2.2 d c d bm rfl;let⟨A,@U,B,bn⟩:=bi.back ix m;rw[wM]at B;refine o v P A O B be ((w.trans p s.chg).less (az:=U) ?_);rw[b6];refine (fg A d3).trans ?_;rw[<-b6];refine (gu O bn).trans ?_;rw[b6];refine d3.trans ?_;rw[b6];refine d3.trans ?_;rw[b6,b6];refine (fg O ?_);exact d3
   ·cases i
  ·cases b
 ·cases b
section
variable{e:aK}
def ki:∀(h:ax) (g:ak) (f:aj) (Sm:List af),ct h g f Sm->hO g=V->mz Q "list" f h:=by
 intro h g f Sm c a;cases g with
 |lst C=>let⟨d,@w,rfl,t,X⟩:=c;exact .inl ⟨rfl,w,c2.of t⟩
 |hp C=>let⟨d,w,@U,rfl,t,X⟩:=c;exact .inl ⟨rfl,w,c2.of t⟩
 |_=>cases a
def mW{a5:ak->List ak->Option (ak×ak)}{a:a_}{Sl:List a_}(b:∀h g f Sm,ct h g f Sm->ty g=V->mz e.K F f h)(iJ:r7 F)(d:Slot F name id)(i:kY (.builtin id)=pure (.type "method_descriptor"))(k:oQ e id a5)(l:bE e n (kR j))(m:fl e (a::Sl) N)(o:se n name e.env (b1 n e.env)=b1 n e.env:=by rfl)(p:((e8 TM<|bw (a::Sl) e.env).all (λf=>!f.1)&&(backToKw TM<|keywordEach [] e.env).all (λf=>f.1.isSome)
   && decide ((a::Sl).length+([]:List rz).length+(if ([]:List rz).isEmpty then 0 else 1)<30))=V:=by rfl)(q:(H.endLine==TM.line)=V:=by rfl)(r:bw (a::Sl) e.env=(aq,b1 a e.env)::bw Sl e.env:=by rfl)(s:(e8 TM<|bw Sl e.env).any (·.1)=aq:=by rfl):
  b4 e (.Call (.Attribute n name H) (a::Sl) [] TM) (gU ty j a5 N):=
 eb (J9 iJ d i k l m o p q r s) λy h E c=>by
  let⟨@f,u,t,D⟩:=z8 b c;exact⟨f,u,t,D⟩
def Fp{a5:ak->List ak->Option (ak×ak)}(a:∀h g f Sm,ct h g f Sm->ty g=V->mz e.K F f h)(iJ:r7 F)(b:Slot F name id)(d:kY (.builtin id)=pure (.type "method_descriptor"))(i:oQ e id a5)(l:bE e n (kR j))(m:se n name e.env (b1 n e.env)=b1 n e.env:=by rfl)(p:(H.endLine==TM.line)=V:=by rfl):
  b4 e (.Call (.Attribute n name H) [] [] TM) (gU ty j a5 ay):=
 eb (Lr iJ b d i l m p) λy h E c=>by
  let⟨@f,q,t,D⟩:=z8 a c;refine⟨f,q,t,?_⟩;let⟨k,L,u,@SG,z,ao,r,o⟩:=D;cases r;exact o [] h L [] z ⟨rfl,rfl⟩ (by rw[cp];exact ba.perm ao (List.Perm.refl _))
@[simp] def lj:ak->List ak->Option (ak×ak):=λg C=>match g,C with
 |.lst w,[.im p]=>if w.length<100000 then Z (.im .aV,.lst<|w++[p]) else Y
 |_,_=>Y
def yj{s:Nat}(c:s<100000):s<sizeLine:=eK c ∅
def ob:oQ e "list.append" lj:=by
 intro G m y h f R v SP E i b c j;let⟨g,C,u,r,Sm,@SF,k,l,ao,a,o⟩:=j;unfold lj at a;split at a
 ·split at a
  ·rename_i n;cases a;let⟨d,@SE,rfl,t,D,rfl⟩:=k;let⟨A,I,s,@w,rfl,@⟨p,rfl⟩,@⟨rfl,rfl⟩,rfl⟩:=l;have g:fV h d:=⟨_,t,(λ_ a=>by cases a),(λ_ X a=>by cases a)⟩;refine HA G m y h _ _ v SP E i b c ⟨d,SE,A,rfl,rfl,t,yj (by rw[<-D.length];exact n),o .aV _ [] [d] ⟨rfl,rfl⟩ ?_ (ba.chg (.head _) g (fk _ _) λf q=>by simpa using q)⟩;exact⟨d,_,rfl,eF,(D.snoc p).mono<|cD.k6 g,rfl⟩
  ·cases a
 ·cases a
@[simp] def qe:ak->List ak->Option (ak×ak):=λg C=>match g,C with
 |.lst w,[]=>(w.getLast?).map λp=>(.im p,.lst w.dropLast)
 |_,_=>Y
def bF.last{C:List ab}{w:List aj}{p:ab}(c:bF h C w)(a:C.getLast?=Z p):∃v,w[w.length-1]?=Z v/\cD h p v/\bF h C.dropLast w.dropLast:=by
 rw[Bh]at a;let⟨@v,b,d⟩:=c.get a;refine⟨v,by rw[<-c.length];exact b,d,?_⟩;rw[Cm,Cm,<-c.length];exact c.take _
def FP:oQ e "list.pop" qe:=by
 intro G m y h f R v SP E i b c j;let⟨g,C,u,z,Sm,@SF,k,l,ao,a,o⟩:=j;unfold qe at a;split at a
 ·let⟨@p,n,q⟩:=cC.mp a;cases q;let⟨d,@SE,rfl,t,D,rfl⟩:=k;let@⟨rfl,rfl⟩:=l;let⟨@A,r,s,w⟩:=D.last n;have g:fV h d:=⟨_,t,(λ_ a=>by cases a),(λ_ X a=>by cases a)⟩;refine Hk G m y h _ _ v SP E i b c ⟨d,SE,A,rfl,rfl,t,r,o A _ [] [d] ⟨s.mono<|cD.k6 g,rfl⟩ ?_ (ba.chg (.head _) g (fk _ _) λf x=>by simpa using x)⟩;exact⟨d,_,rfl,eF,w.mono<|cD.k6 g,rfl⟩
 ·cases a
@[simp] def q2:ak->List ak->Option (ak×ak):=λg C=>match g,C with
 |.lst w,[.im (.int j)]=>if 0<=j/\j<w.length then (w[j.toNat]?).map λp=>(.im p,.lst<|w.eraseIdx j.toNat) else Y
 |_,_=>Y
theorem bF.erase:∀{C:List ab}{w:List aj} (s:Nat),bF h C w->bF h (C.eraseIdx s) (w.eraseIdx s)
 |[],w,s,c=>by cases (show w=[] from c);exact rfl
 |p::C,w,0,c=>by let⟨v,@u,rfl,t,D⟩:=c;exact D
 |p::C,w,s+1,c=>by let⟨v,@u,rfl,t,D⟩:=c;exact⟨v,_,rfl,t,D.erase s⟩
def Lq:oQ e "list.pop" q2:=by
 intro G m y h f R v SP E i b c k;let⟨g,C,u,B,Sm,@SF,l,n,ao,a,o⟩:=k;unfold q2 at a;split at a
 ·rename_i j;split at a
  ·rename_i Sq;let⟨@p,q,r⟩:=cC.mp a;cases r;let⟨d,@SE,rfl,t,D,rfl⟩:=l;let⟨A,I,F,@H,rfl,@⟨s,rfl⟩,@⟨rfl,rfl⟩,rfl⟩:=n;cases (show A=.int j from s);let⟨@A,w,x⟩:=D.get q;have g:fV h d:=⟨_,t,(λ_ a=>by cases a),(λ_ X a=>by cases a)⟩;have J:SE.length<=sizeLine:=(i.aR d _ t).1;have L:=nx;refine GX G m y h _ _ v SP E i b c ⟨d,SE,j,j.toNat,A,rfl,rfl,t,⋯,by have:=D.length;lia,sZ Sq.1 (by rw[<-D.length];exact Sq.2),w,o A _ [] [d] ⟨x.mono<|cD.k6 g,rfl⟩ ?_ (ba.chg (.head _) g (fk _ _) λf z=>by simpa using z)⟩;exact⟨d,_,rfl,eF,(D.erase _).mono<|cD.k6 g,rfl⟩
  ·cases a
 ·cases a
def so(e:aK)(pt:ak->ak->ak->Option ak):Prop:=(
 yn e λn j v h E=>∃g q p a Sm SF,ct h g n Sm/\ct h q j []/\ct h p v SF/\(Sm++SF).Nodup/\pt g q p=Z a/\∀P i,ct P a n i->ba h (Sm++SF) P i->E P)
@[simp] def pN(g q p:ak):Option ak:=match g,q,p with
 |.lst w,.im<|.int j,.im p=>(jG w.length j).map λB=>.lst (w.set B p)
 |_,_,_=>Y
theorem bF.set{h:ax}{p:ab}{v:aj}(l:cD h p v):∀{C:List ab}{w:List aj} (s:Nat),bF h C w->bF h (C.set s p) (w.set s v)
 |[],w,s,c=>by cases (show w=[] from c);exact rfl
 |a::C,w,0,c=>by let⟨J,@u,rfl,t,D⟩:=c;exact⟨v,u,rfl,l,D⟩
 |a::C,w,s+1,c=>by let⟨J,@u,rfl,t,D⟩:=c;exact⟨J,_,rfl,t,bF.set l s D⟩
def BK:so e pN:=by
 intro G m y h n j v b c J E i k l r s;let⟨g,q,p,C,Sm,@SF,u,g4,w,ao,a,o⟩:=s;unfold pN at a;split at a
 ·let⟨@B,x,z⟩:=cC.mp a;cases z;let⟨d,@SE,rfl,t,D,rfl⟩:=u;let@⟨hd,rfl⟩:=w;have g:fV h d:=⟨_,t,(λ_ a=>by cases a),(λ_ X a=>by cases a)⟩;refine Ku G m y h _ _ _ b c J E i k l r ⟨d,SE,_,B,rfl,g4.1,t,by rw[<-D.length];exact x,o _ [d] ?_ (ba.chg (.head _) g (fk _ _) λf A=>by simpa using A)⟩;exact⟨d,_,rfl,eF,(bF.set hd B D).mono<|cD.k6 g,rfl⟩
 ·cases a
@[simp] def jj(j:Nat)(a:aE ak)(pt:ak->ak->ak->Option ak):e1:=λp k=>match k[j]? with
 |some (Z _)=>(a k).bind λr=>if r.1.dG=V then match r.2[j]? with
   |some (Z g)=>(pt g r.1 p).map λb=>r.2.set j (Z b)
   |_=>Y
  else Y
 |_=>Y
def mw{SR:List Nat}{q:a_}{A:aE ak}{pt:ak->ak->ak->Option ak}{SD:cn}(N:bE e n (kR j))(O:b4 e q A)(Q:so e pt)(b:∀v,h5 (.Subscript n q SD) e.env v=(do
   let m <-holding [v] (b1 n e.env)
   let u <-holding [v,m] (b1 q e.env)
   standAt SD
   holding [v,m,u] (tu m u v)
   release [v,m,u] []):=by intro X;rfl):hl e SR (.Subscript n q SD) (jj j A pt):=by
 refine uP (LJ N O Q b) λv y h E R=>?_;let⟨k,L,p,Sm,@SG,z,B,ao,r,o⟩:=R;unfold jj at r;split at r
 ·rename_i ca S;let⟨f,cd,@ce,w,ch,X,X⟩:=z.out S;let⟨@⟨l,So⟩,t,D⟩:=bK.mp r;split at D
  ·rename_i T;refine⟨f,w,k,L,l,So,z,(dn.mp ao).1,t,λci Sr SI cl al g4 s=>?_⟩;obtain rfl:=g4.dG T;rw[cp]at s;have am:=dn.mp ao;dsimp only at D;split at D
   ·rename_i g an;let⟨@ap,as,a1⟩:=cC.mp D;cases a1;let⟨co,C,@F,G,a2,H,bd⟩:=al.out an;rw[w]at G;cases G;have be:ct Sr p v Sm:=B.mono s.tup λd b n a=>s.keep d n a λc=>am.2.2 d c d b rfl;have I:ba h (L++Sm) Sr ((C++Sm)++F):=by
     have bi:ba h (L++Sm) h (L++Sm):=ba.perm ao (List.Perm.refl _);have:=ba.trans (SI:=L) (Sm:=Sm) bi s B.chg;refine this.ku ((gu Sm bd.symm).trans ?_);rw[b6];exact d3
    have J:=dn.mp I.ao;refine⟨g,l,p,ap,C,Sm,a2,g4,be,J.1,as,λP i bm x=>?_⟩;have bn:bf P (So.set j<|Z .cL) y F:=H.mono x.tup λd b n a=>x.keep d n a λc=>J.2.2 d c d b rfl;let⟨bs,@U,M,bv⟩:=bn.back bm w;rw[wM]at M;exact o y P bs c0.refl M ((I.trans x H.chg).less<|bv.trans d3)
   ·cases D
  ·cases D
 ·cases r
end
end L2
namespace L2
open Spec PyProof.Rows PySem.W
section
variable{Su:bl}{l:a8}{O:bp}{Sn:ae->av->Prop}{SV:gd}{it:Array il}{SJ:Nat->Int}{m:av}
def B8{u:Nat}{r:Array Nat}{z:eS}(h:gf SV it #[] z r)(e:dV (u+2) r)(g:n4 SJ r 0 (u+2)){E:Unit->eS->av->Prop}(i:∀b c,dV (u+2) b->jE SJ b (u+2)->kM c=b.map (i1 it)->oB c=Y->E () c m):
  E () (vT z<|(mO z).push (0,u+2,0)) m:=i r _ e (λj B k l=>g j B (hi _) k ⋯) h.a h.f
def QP{s:Nat}{E:Unit->eS->av->Prop}(g:jx s SJ (h2 Su l O SV it) m)(D:2<=s)(k:s<64)(h:∀c d,dV s c->jE SJ c s->kM d=c.map (i1 it)->oB d=Y->E () d m):kasC (aQ Su l) O Sn sortRuns' E (kas_st SV it (range s).toArray) m:=by
 obtain⟨u,rfl⟩:∃u,s=u+2:=⟨s-2,⋯⟩;rw[sortRuns'_eq];refine d0 (nc ?_);dsimp only;have o:(kM<|kas_st SV it<|List.toArray<|range<|u+2).size=u+2:=by
  show ((range<|u+2).toArray.map<|i1 it).size=u+2;simp
 have q:minRun' (u+2) (u+2) 0=u+2:=by
  have a:minRun' (u+1+1) (u+2) 0=u+2:=by rw[minRun'_succ,aN k]
  exact a
 simp only[o,q];refine d0 (nF ?_);show kasC _ _ _ (forIn (0::1::range' 2 u) _ _) _ _ _;refine oj ?_;dsimp only;rw[aT ⋯];simp only[wD,x7,wX];refine d0 (JG (n:=#[]) (r:=(range<|u+2).toArray) g (List.Perm.refl _) ⋯ ⋯ ⟨rfl,rfl,rfl,rfl⟩ λM y e t v i Sr X b=>?_);have b:=DG b;dsimp only;by_cases j:M<u+2
 ·rw[aN j];refine d0 (xb<|lM ?_);refine d0 (P8 g i ⋯ t v b Sr λTz f w SK X x=>?_);rw[aT ∅];refine d0 (nc ?_);rw[show (mO f).back?=Y by rw[SK.p];rfl];dsimp only;refine d0 (t4<|eZ ?_);show kasC _ _ _ (forIn (1::range' 2 u) _ _) _ _ _;refine oj ?_;dsimp only;rw[aN (bq _)];refine eZ ?_;dsimp only;refine d0 (nF ?_);show kasC _ _ _ (forIn (0::1::range' 2 u) _ _) _ _ _;refine oj ?_;refine d0 (nc ?_);rw[aN (show (mO<|vT f<|(mO f).push (0,u+2,0)).size<=1 by rw[SK.p];exact bq 1)];refine eZ ?_;dsimp only;exact eZ (B8 SK w x h)
 ·rw[aT j];obtain rfl:M=u+2:=⋯
  refine d0 (nc ?_);rw[show (mO e).back?=Y by rw[Sr.p];rfl];dsimp only;refine d0 (t4<|eZ ?_);show kasC _ _ _ (forIn (1::range' 2 u) _ _) _ _ _;refine oj ?_;dsimp only;rw[aN (bq _)];refine eZ ?_;dsimp only;refine d0 (nF ?_);show kasC _ _ _ (forIn (0::1::range' 2 u) _ _) _ _ _;refine oj ?_;refine d0 (nc ?_);rw[aN (show (mO<|vT e<|(mO e).push (0,u+2,0)).size<=1 by rw[Sr.p];exact bq 1)];refine eZ ?_;dsimp only;exact eZ (B8 Sr i b h)
end
variable{SN:List Int}{S0:Type}{r:Array Nat}
def Qq(H:List S0)(p:S0):(range H.length).map (λj=>H.getD j p)=H:=by
 apply Gh
 ·simp
 ·intro j t D;simp[List.getD,D]
def xx{H:List S0}{p:S0}(c:dV H.length r):(r.toList.map λj=>H.getD j p).Perm H:=by
 have:=Aq (λj=>H.getD j p) c;rw[Qq]at this;exact this
theorem uf{S0 TG:Type}{L:S0->TG->Prop}:∀{a:List S0}{e:List TG},a.length=e.length->(∀(j:Nat) d b,a[j]?=Z d->e[j]?=Z b->L d b)->d9 L a e
 |[],[],_,_=>.nil
 |d::H,b::M,c,x=>.cons (x 0 d b rfl rfl) (uf ⇑c λj f A t D=>x (j+1) f A ⇑t ⇑D)
 |[],_::_,c,_=>by simp at c
 |_::_,[],c,_=>by simp at c
section
variable{Su:bl}{l:a8}{O:bp}{Sn:ae->av->Prop}{m:av}{R:List ae}
def Bj{SQ:af}{TQ:Nat}{S:PySem.Fin->av->Prop}(SJ:Nat->Int)(SV:gd)(f:m.heap.get? SQ=Z (gh "list" R.toArray TQ))(C:2<=R.length->∀e:a0,(∀b n,b≠SQ->m.heap.get? b=Z n->e.get? b=Z n)->∀E:gd->av->Prop,E SV {m with heap:=e}->wpAny (aQ Su l) O (vw R.toArray) E Sn {m with heap:=e})(F:∀e:a0,(∀b n,b≠SQ->m.heap.get? b=Z n->e.get? b=Z n)->jx R.length SJ (h2 Su l O SV<|R.toArray.zip R.toArray) {m with heap:=e})(up:R.length<64)(G:R.length<=1000)(c:∀(r:Array Nat) (T:a0),dV R.length r->jE SJ r R.length->(∀b n,b≠SQ->m.heap.get? b=Z n->T.get? b=Z n)->(∃a,T.get? SQ=Z (gh "list" (r.toList.map λj=>R.getD j ae.none).toArray a))->
   S (.done<|.ret .none) {m with heap:=T}):wpAny (aQ Su l) O (bk.«list.sort» ⟨[.ref SQ],[]⟩) S Sn m:=by
 have w:R.length<=sizeLine:=ee G ∅;rw[list_sort_plain];have Q:SQ<m.heap.objs.size:=b9 f;refine aD (listItems_at f rfl (aD (GL f rfl ?_ (hsz:=by rw[cJ];exact w) (hsz2:=by show 0<=_;exact hi _))));have o:=CG f (λ_=>#[]);generalize U:(if (#[]:Array ae).size==R.toArray.size then TQ else TQ+1)=x at o;refine aD (seqEpoch_at o rfl (aD (FG (aD<|xo<|fX ?_) ⇑w)));have h:∀b n,b≠SQ->m.heap.get? b=Z n->(((m.heap.update SQ<|aW.mapSeq λ_=>#[]).push<|gh "tuple" R.toArray.toList.toArray 0).push<|gh "list" ([]:List ae).toArray 0).get? b=Z n:=λb n i a=>
  cw _ (cw _<|(kl _ _<|fD i).trans a);have y:(((m.heap.update SQ<|aW.mapSeq λ_=>#[]).push<|gh "tuple" R.toArray.toList.toArray 0).push<|gh "list" ([]:List ae).toArray 0).get? SQ=Z (gh "list" #[] x):=
  cw _ (cw _ o);show wpAny (aQ Su l) O _ S Sn {m with heap:=((m.heap.update SQ<|aW.mapSeq λ_=>#[]).push<|gh "tuple" R.toArray.toList.toArray 0).push (gh "list" ([]:List ae).toArray 0)};generalize ((m.heap.update SQ<|aW.mapSeq λ_=>#[]).push<|gh "tuple" R.toArray.toList.toArray 0).push (gh "list" ([]:List ae).toArray 0)=e at h y ⊢;have fin:∀(z:eS) (r:Array Nat),dV R.length r->jE SJ r R.length->kM z=r.map (i1<|R.toArray.zip R.toArray)->oB z=Y->
   wpAny (aQ Su l) O (do
    let L:=(<-seqEpoch SQ) != x
    bk.List.listUpdate (.ref SQ) λ_=>(kM z).map (·.2)
    if let Z a:=oB z then rule "list.sort.comparison-raised";throw a
    if L then rule "list.sort.modified";raiseError "ValueError" "list modified during sort"
    ret .none) S Sn {m with heap:=e}:=λz r k q s t=>by
  have out:=kat_snds (ks:=R) (vs:=R) rfl s;rw[out,t];refine aD (seqEpoch_at (s:={m with heap:=e}) y rfl (aD (GL (s:={m with heap:=e}) y rfl ?_ (hsz:=hi _) (hsz2:=by
   show (List.toArray<|r.toList.map λj=>R.getD j ae.none).size<=_;rw[cJ,bu,gT,k.size];lia))))
  simp only[bne_self_eq_false,k8,ig];refine a7 (c r _ k q (λb n i a=>(kl _ _<|fD i).trans<|h b n i a) ⟨_,CG y λ_=>_⟩)
 dsimp only;by_cases D:R.toArray.size<2
 ·rw[aN D,aN D];refine aD (a7 ?_);rw[StateT.run_pure];apply aD;apply a7;have v:R.length<2:=by simpa using D
  refine fin (eS.mk' general' (R.toArray.zip R.toArray) #[] 7 Y) (range R.length).toArray (List.Perm.refl _) (λj B al am=>?_) ?_ rfl
  ·have:j=B:=⋯
   subst this;exact jJ _
  ·have:=kas_range (R.toArray.zip R.toArray);rw[show (R.toArray.zip R.toArray).size=R.length by simp]at this;exact this.symm
 ·rw[aT D,aT D];have v:2<=R.length:=by simpa using D
  refine aD (C v e h _ ?_)
  ·have M:=F e h;have A:=kas_range (R.toArray.zip R.toArray);rw[show (R.toArray.zip R.toArray).size=R.length by simp]at A;have run:=QP (Sn:=Sn) (E:=λ_ z Ss=>Ss={m with heap:=e}/\∃r,dV R.length r/\jE SJ r R.length/\kM z=r.map (i1<|R.toArray.zip R.toArray)/\oB z=Y) M
    v up λN an d b g p=>⟨rfl,N,d,b,g,p⟩;unfold kas_st at run;rw[A]at run;refine aD (gW run (λu Ss P=>?_) λ_ X a=>a);let⟨J,z⟩:=u;let@⟨rfl,⟨@r,k,q,s,t⟩⟩:=P;exact fin z r k q s t
end
section
variable{e:aK}{G:List (af×aW)}{y:L2.aS}{h:ax}{m:av}
def Df(be:e.calm=V){d:af}{SE:List aj}{Sw:List ae}{s:Nat}{F:String}{n:aW}{E:cu}(SJ:Nat->Int)(SV:gd)(i:aG e G y h m)(C:bR SE Sw)(R:F = "list" \/ F = "tuple")(a:m.heap.get? d=Z n)(aA:n.cls=.type F)(S:n.data=.seq Sw.toArray s)(bi:SE.length<=1000)(U:2<=Sw.length->∀(c:a0) (bt:Nat),(∀b n,m.heap.get? b=Z n->c.get? b=Z n)->∀(O:bp) (Sn:ae->av->Prop) (E:gd->av->Prop),E SV {m with heap:=c,toks:=bt}->wpAny (aQ e.prog e.w) O (vw Sw.toArray) E Sn {m with heap:=c,toks:=bt})(al:∀(c:a0) (bt:Nat),(∀b n,m.heap.get? b=Z n->c.get? b=Z n)->jx Sw.length SJ (h2 e.prog e.w e.A.in1.in1 SV<|Sw.toArray.zip Sw.toArray) {m with heap:=c,toks:=bt})(up:Sw.length<64)(o:∀(r:Array Nat) H,dV Sw.length r->jE SJ r Sw.length->h H=Y->E (.ref H) (upd h H<|.lst<|r.toList.map λj=>SE.getD j .aV)):
  wpAny (aQ e.prog e.w) e.A (call (.builtin "sorted") [.ref d]) (ew e G y E) e.cj m:=by
 have bm:SE.length=Sw.length:=C.length;have I:Sw.length<=sizeLine:=ee ⋯ (show 1000<=sizeLine by decide);refine y5 kind_sorted F2 BN (Ck _) ?z
 case z=>
  unfold bk.«sorted»;refine aD (m:=checkCount "sorted" 1 1 _) (a7 (aD (wpAny_collect_seq d R a aA S (λT p=>?_) (by rw[cJ];exact I))));show wpAny _ _ (p3 Sw >>= _) _ _ _;refine aD (xo ?_ I);have L:(T.push<|gh "list" Sw.toArray 0).get? T.objs.size=Z (gh "list" Sw.toArray 0):=dH _ rfl;have aZ:∀b n,m.heap.get? b=Z n->(T.push<|gh "list" Sw.toArray 0).get? b=Z n:=λb n a=>cw _ (p b n a);have N:aG e G y h {m with heap:=T}:=i.kept (S4:=m.toks) p;have P:∀b n,m.heap.get? b=Z n->b≠T.objs.size:=λb n a=>dJ (b9<|p b n a);refine aD (fX<|i_ ET ⟨_,L,rfl⟩ D2 ?A<|F6 _)
  case A=>
   refine Bj (m:={m with heap:=T.push (gh "list" Sw.toArray 0)}) SJ SV L (λD c u E am=>U D c m.toks (λb n g=>u b n (P b n g)<|aZ b n g) _ _ E am) (λc u=>al c m.toks λb n g=>u b n (P b n g)<|aZ b n g) up ⋯ λr D x an S6 ⟨ap,as⟩=>⟨_,rfl,a7 ⟨_,rfl,?_⟩⟩;have a1:h T.objs.size=Y:=N.aR.fresh (bq _);have a2:∀b n,T.get? b=Z n->b≠T.objs.size:=λb n a=>dJ (b9 a);refine⟨.ref T.objs.size,upd h T.objs.size<|.lst<|r.toList.map λj=>SE.getD j .aV,?_,rfl,o r _ x an a1⟩;refine N.laid (S4:=m.toks) (λb J a=>S6 b J (a2 b J a)<|cw _ a) (bq _) ⟨?_,_,ap,?_,as⟩
   ·rw[bu,gT,x.size];lia
   ·refine uf ↥0 λj v J t D=>?_;rw[gJ]at t D;cases B:r.toList[j]? with
    |none=>rw[B]at t;cases t
    |some q=>
     rw[B]at t D;cases t;cases D;have Q:q<Sw.length:=g6.mp (x.mem_iff.mp<|jS B);let⟨@J,k,bd⟩:=C.get (j:=q) (f:=SE[q]'⋯) (by simp[show q<SE.length by lia]);rw[fT Q]at k;have k:=Option.some.inj k;simp only[List.getD,fT Q,fT (show q<SE.length by lia),ye];rw[k];exact bd
end
def om(SN:List Int)(j:Nat):Int:=(SN.getD j 0)
def Nq(ao:SN.Nodup):∀j B,j<SN.length->B<SN.length->om SN j=om SN B->j=B:=λj B Sq b a=>by
 unfold om at a;rw[dg,dg,fT Sq,fT b]at a;have d:SN[j]=SN[B]:=a;rcases q6 j B with c|c|c
 ·exact absurd d ((r8.mp ao) j B Sq b c)
 ·exact c
 ·exact absurd d.symm ((r8.mp ao) B j b Sq c)
def O1(a:dV SN.length r)(up:jE (om SN) r SN.length)(ao:SN.Nodup):(r.toList.map λj=>SN.getD j 0).Pairwise (· < ·):=by
 rw[r8];intro j B Sq b f;have c:=a.size;have h:j<SN.length:=by simpa [c] using Sq
 have d:B<SN.length:=by simpa [c] using b
 have ne:=a.ne (Nq ao) f d;have le:=up j B ⋯ d;have N:∀q (e:q<(r.toList.map λj=>SN.getD j 0).length),(r.toList.map λj=>SN.getD j 0)[q]=br (om SN) r q:=λq e=>by
  have g:q<r.size:=by simpa using e
  rw[GB,Br];show _=SN.getD (r.getD q 0) 0;simp[Array.getD,g]
 rw[N j Sq,N B b];lia
section
variable{e:aK}
theorem s6{h:ax}:∀{SN:List Int}{Sw:List ae},bR (SN.map aj.int) Sw->∀(j:Nat),j<SN.length->∃I,Sw[j]?=Z (.int (SN.getD j 0) I)
 |s::u,_,.cons d b,0,c=>by let⟨@I,rfl⟩:=d;exact⟨I,rfl⟩
 |s::u,_,.cons d b,j+1,c=>by
  let⟨@I,a⟩:=s6 (h:=h) b j ⇑c;exact⟨I,by simpa using a⟩
def N5(p:e.calm=V):ey e (.builtin "sorted") (λw h E=>∃(d:af) (SN:List Int),w=[.ref d]/\h d=Z (.lst<|SN.map aj.int)/\SN.Nodup/\SN.length<=63/\
  ∀H (g:List Int),h H=Y->g.Perm SN->g.Pairwise (· < ·)->E (.ref H) (upd h H<|.lst<|g.map aj.int)):=by
 intro G m y h w SP E i u c;let⟨d,@SN,rfl,x,ao,R,o⟩:=c;let⟨@J,rfl,A⟩:=iv u;cases A;let@⟨z,⟨Sw,@s,b,a⟩⟩:=i.aR d _ x;have k:Sw.length=SN.length:=by rw[<-b.length,bu]
 refine Df p (om SN) oneType' i b (.inl rfl) a rfl rfl (by rw[bu];lia) (λD C bt q O Sn E L=>?_) (λC bt q=>?_) ⋯ λr H f l aO=>?_
 ·refine kas_kind (T:=ae.type "int") D (λv M=>?_) ∅ ∅ L;let⟨@j,Sq⟩:=List.getElem?_of_mem M;let⟨@I,n⟩:=s6 (h:=h) b j (by rw[<-k];exact (fY.mp Sq).1);rw[Sq]at n;cases n;exact xG rfl
 ·intro j B az Sq S o;let⟨@I,t⟩:=s6 (h:=h) b j ⋯;let⟨@J,D⟩:=s6 (h:=h) b B ⋯;unfold h2;rw[tg rfl,tg rfl,dg,dg,t,D];show wpAny _ _ (keyLt' oneType' (.int _ I)<|.int _ J) _ _ _;rw[keyLt'_oneType];exact oneLt_int o
 ·rw[k]at f l;have N:(r.toList.map λj=>(SN.map aj.int).getD j .aV)=(r.toList.map λj=>SN.getD j 0).map aj.int:=by
   rw[hI];refine nG λq P=>?_;have Q:q<SN.length:=g6.mp (f.mem_iff.mp P);show (SN.map aj.int).getD q .aV=aj.int (SN.getD q 0);simp[List.getD,Q]
  rw[N];exact o H _ aO (xx f) (O1 f l ao)
end
end L2
namespace L2
open Spec PyProof.Rows
section
variable{e:aK}
def gE:List ab->List ab->List ab
 |f::w,A::SE=>.tup [f,A]::gE w SE
 |_,_=>[]
theorem Gi:∀(w SE:List ab),(gE w SE).length=min w.length SE.length
 |[],SE=>by simp[gE]
 |f::w,[]=>by simp[gE]
 |f::w,A::SE=>by simp[gE,Gi w SE]
theorem BP:∀(w SE:List ab) (j:Nat) (p:ab),(gE w SE)[j]?=Z p->∃f A,w[j]?=Z f/\SE[j]?=Z A/\p=.tup [f,A]
 |[],SE,j,p,c=>by simp[gE]at c
 |f::w,[],j,p,c=>by simp[gE]at c
 |f::w,A::SE,0,p,c=>by simp[gE]at c;exact⟨f,A,rfl,rfl,c.symm⟩
 |f::w,A::SE,j+1,p,c=>by
  let⟨d,b,t,D,a⟩:=BP w SE j p (by simpa [gE] using c);exact⟨d,b,by simpa using t,by simpa using D,a⟩
@[simp] def jH(N:aE (List bC)):jz:=λk=>(N k).bind λr=>(hX r.2 r.1).bind λC=>match C with
 |[.im (.tup f),.im<|.tup A]=>Z ((gE f A,Y),r.2)
 |_=>Y
theorem QB{Q:Φ}{h:ax}{d b:af}{w SE:List aj}{C Sl:List ab}(c:h d=Z (.tup w))(hd:bF h C w)(T:h b=Z (.tup SE))(e:bF h Sl SE):mM (u4 Q d b) h [] (gE C Sl) where
 go:=λP I q j p a=>by
  let⟨f,A,o,r,rfl⟩:=BP C Sl j p a;let⟨v,g,s⟩:=hd.get o;let⟨J,S1,S6⟩:=e.get r;have i:=ck.of (Q:=Q) (I.tup d _ c);have k:=ck.of (Q:=Q) (I.tup b _ T);refine⟨⟨w,SE,v,J,i,k,g,S1⟩,λB D ⟨F,E,G,x,t,u,y,z⟩=>?_⟩;subst t u;have l:=y w i;have n:=z SE k;rw[g]at l;rw[S1]at n;cases l;cases n;have m:cS P (upd P F<|.tup [v,J]):=(cS.refl P).upd x;exact⟨m,F,[v,J],rfl,eF,⟨v,[J],rfl,(s.mono I.tup).mono m.tupS.tup,J,[],rfl,(S6.mono I.tup).mono m.tupS.tup,rfl⟩⟩
 stop:=λP I q=>⟨w,SE,ck.of<|I.tup d _ c,ck.of<|I.tup b _ T,by rw[Gi,<-hd.length,<-e.length];lia⟩
def sl{d b:a_}{N:aE (List bC)}{r SD:cn}{Sl:List a_}{T3:Nat}{SA:cn}(j:dP e "zip")(l:e.aw "zip" = Y)(c:fl e [d,b] N)(m:bw [d,b] e.env=[(aq,b1 d e.env),(aq,b1 b e.env)]:=by rfl)(n:bw [b] e.env=[(aq,b1 b e.env)]:=by rfl):
  mi e (.Tuple Sl T3 SA) (.Call (.Name "zip" r) [d,b] [] SD) (jH N):=by
 refine xE (Rl j l c m n) λy h E ⟨k,L,u,SG,z,ao,p,o⟩=>?_;let⟨⟨Sy,So⟩,t,D⟩:=bK.mp p;let⟨C,q,f⟩:=bK.mp D;refine⟨k,L,Sy,So,z,ao,t,λR Sr SI F g S5 s=>?_⟩;have x:=S5.read g q;split at f
 ·cases f;let⟨v,J,rfl,a,A⟩:=tB x;let⟨d,w,rfl,S1,S6⟩:=a;let⟨b,SE,rfl,i,B⟩:=A;exact⟨d,b,rfl,⟨w,ck.of S1⟩,⟨SE,ck.of i⟩,o _ Sr SI [] g (QB S1 S6 i B) trivial (λd c=>nomatch c) (by rw[cp];exact s.both)⟩
 ·cases f
@[simp] def R9:hz:=λC=>match C with
 |[.im (.int j),.im<|.int B,.im<|.int q]=>Z (.im<|.int<|min (min j B) q)
 |_=>Y
def kq(lt:ab->ab->Bool)(f:ab):List ab->List ab
 |[]=>[f]
 |A::u=>if lt f A=V then f::A::u else A::kq lt f u
def hZ(lt:ab->ab->Bool):List ab->List ab
 |[]=>[]
 |f::u=>kq lt f (hZ lt u)
def ue:ab->ab->Bool
 |.int j,.int B=>decide (j<B)
 |_,_=>aq
def qL:List ab->Option (List Int)
 |[]=>Z []
 |.int j::u=>(qL u).map λm=>j::m
 |_::_=>Y
@[simp] def xr:hz:=λC=>match C with
 |[.lst f]=>(qL f).bind λSN=>if SN.Nodup/\SN.length<=63 then Z (.lst<|hZ ue f) else Y
 |_=>Y
def lZ(f:Int):List Int->List Int
 |[]=>[f]
 |A::u=>if f<A then f::A::u else A::lZ f u
def pK:List Int->List Int
 |[]=>[]
 |f::u=>lZ f (pK u)
theorem Cj(f:Int):∀H:List Int,kq ue (.int f) (H.map .int)=(lZ f H).map .int
 |[]=>rfl
 |A::u=>by
  rw[dK,kq,lZ,ue];by_cases c:f<A
  ·rw[aN ⇑c,aN c];rfl
  ·rw[aT ⇑c,aT c,Cj f u];rfl
theorem Bb:∀H:List Int,hZ ue (H.map .int)=(pK H).map .int
 |[]=>rfl
 |f::u=>by rw[dK,hZ,Bb u,Cj];rfl
theorem xJ(f:Int):∀H:List Int,(lZ f H).Perm (f::H)
 |[]=>List.Perm.refl _
 |A::u=>by
  rw[lZ];split
  ·exact List.Perm.refl _
  ·exact ((xJ f u).cons A).trans (List.Perm.swap f A u)
theorem y0:∀H:List Int,(pK H).Perm H
 |[]=>List.Perm.refl _
 |f::u=>(xJ f _).trans ((y0 u).cons f)
theorem Ad(f:Int):∀H:List Int,H.Pairwise (·<=·)->(lZ f H).Pairwise (·<=·)
 |[],_=>fk _ _
 |A::u,c=>by
  let⟨t,D⟩:=hA.mp c;rw[lZ];split
  ·rename_i d;refine hA.mpr ⟨λb a=>?_,c⟩;rcases bL.mp a with rfl|a
   ·lia
   ·have:=t b a;lia
  ·rename_i d;refine hA.mpr ⟨λb a=>?_,Ad f u D⟩;rcases bL.mp ((xJ f u).mem_iff.mp a) with rfl|a
   ·lia
   ·exact t b a
theorem B_:∀H:List Int,(pK H).Pairwise (·<=·)
 |[]=>List.Pairwise.nil
 |f::u=>Ad f _ (B_ u)
def Jb{H:List Int}(c:H.Nodup):(pK H).Pairwise (· < ·):=by
 have t:=B_ H;have D:(pK H).Nodup:=(y0 H).nodup_iff.mpr c;exact Hp (λd b f A=>⋯) t D
theorem GN:∀{H M:List Int},H.Perm M->H.Pairwise (· < ·)->M.Pairwise (· < ·)->H=M
 |[],M,c,_,_=>c.nil_eq
 |d::H,[],c,_,_=>absurd c.length_eq ↥0
 |d::H,b::M,c,g,h=>by
  have e:=hA.mp g;have f:=hA.mp h;have a:d=b:=by
   rcases bL.mp (c.mem_iff.mp<|.head _) with z|z
   ·exact z
   ·rcases bL.mp (c.mem_iff.mpr<|.head _) with A|A
    ·exact A.symm
    ·have t:=e.1 b A;have D:=f.1 d z;omega
  subst a;rw[GN c.cons_inv e.2 f.2]
theorem BU:∀{f:List ab}{SN:List Int},qL f=Z SN->f=SN.map .int
 |[],SN,c=>by cases c;rfl
 |.int j::u,SN,c=>by
  rw[qL]at c;let⟨m,t,rfl⟩:=cC.mp c;rw[BU t];rfl
 |.aV::_,_,c=>by cases c
 |.au _::_,_,c=>by cases c
 |.str _::_,_,c=>by cases c
 |.tup _::_,_,c=>by cases c
 |.fn _::_,_,c=>by cases c
 |.aO _::_,_,c=>by cases c
 |.fd _::_,_,c=>by cases c
theorem Aw{h:ax}:∀{SN:List Int}{R:List aj},bF h (SN.map .int) R->R=SN.map aj.int
 |[],R,c=>c
 |s::u,R,c=>by
  let⟨v,I,rfl,t,D⟩:=c;cases (show v=.int s from t);rw[Aw D];rfl
theorem Ec{h:ax}:∀SN:List Int,bF h (SN.map .int) (SN.map aj.int)
 |[]=>rfl
 |s::u=>⟨.int s,_,rfl,rfl,Ec u⟩
def Nc(d:e.calm=V)(j:e.A.units+20<b7):gH e (.builtin "sorted") xr:=by
 refine (N5 d).imp λw h E ⟨C,p,g,a,o⟩=>?_;unfold xr at a;split at a
 ·rename_i f;let⟨SN,i,b⟩:=bK.mp a;split at b
  ·rename_i c;cases b;let⟨v,rfl,X,r,w,rfl,t,D,X⟩:=fR g;cases BU i;cases Aw D;refine⟨r,SN,rfl,t,c.1,c.2,λH k aO Tb up=>?_⟩;rw[Bb]at o;rw[GN (Tb.trans (y0 SN).symm) up (Jb c.1)];exact bZ.l o aO (Ec _)
  ·cases b
 ·cases a
def xd(a:e.A.units+20<b7):so e pN:=BK
end
end L2
namespace L2
variable{d c N b:bo}{a:aE ak}{own M s:Nat}{C:List ak}{SR:List Nat}{n:Option (Nat×ak)}{w:List ab}{p:ak}{So k:aP}{g:aE Bool}{SY:e1}{S0:Type}{B j:Int}
@[simp] theorem Sd(p:ab)(k:aP):aA p k=Z (.im p,k):=rfl
@[simp] theorem FK(k:aP):ay k=Z ([],k):=rfl
@[simp] theorem R3(k:aP):eo k=Z (.aX,k):=rfl
@[simp] theorem R4(k:aP):gK k=Z (Y,k):=rfl
@[simp] theorem Si(k:aP):dm k=Z (V,k):=rfl
@[simp] theorem R6(p:ab):(ak.im p).dG=V:=rfl
@[simp] theorem R8(p:List ab):(ak.dr p).dG=V:=rfl
@[simp] theorem RS(p:List ab):(ak.lst p).dG=aq:=rfl
@[simp] theorem RZ(p:List (List ab×ab)):(ak.aF p).dG=aq:=rfl
@[simp] theorem Sb(p:List (ej×ab)):(ak.dC p).dG=aq:=rfl
@[simp] theorem Jr(k:aP)(p:ak):dF k (.bY p)=Z p:=rfl
@[simp] theorem RU(k:aP)(j:Nat):dF k (.aH j)=(k[j]?).getD Y:=rfl
@[simp] theorem Qk(k:aP):hX k []=Z []:=rfl
@[simp] theorem He(k:aP)(n:bC)(Sy:List bC):hX k (n::Sy)=(dF k n).bind λp=>(hX k Sy).map λC=>p::C:=rfl
@[simp] theorem HD(k:aP):eJ [] k=Z ([],k):=rfl
@[simp] theorem HR(p:ak)(Sy:List bC)(k:aP):eJ (.bY p::Sy) k=(eJ Sy k).map λr=>(p::r.1,r.2):=rfl
@[simp] theorem R5(j:Nat)(Sy:List bC)(k:aP):eJ (.aH j::Sy) k=(ed j k).bind λr=>(eJ Sy r.2).map λo=>(r.1::o.1,o.2):=rfl
@[simp] theorem RT:gA []=Z []:=rfl
@[simp] theorem R0(p:ab)(C:List ak):gA (.im p::C)=(gA C).map λu=>p::u:=rfl
@[simp] theorem Sg(b:Bool):nh (.im<|.au b)=Z b:=rfl
def m9(t : -(2^64)<B)(D:B<2^64):hk j B=V:=by
 have:bk.Int.intBits B<=64:=D6 t D;have T:¬ (bk.Int.intBits B>tG):=D4.mpr this;unfold hk;rw[cN T];simp
def IE(t : -(2^64)<j)(D:j<2^64):hk j B=V:=by
 have:bk.Int.intBits j<=64:=D6 t D;have T:¬ (bk.Int.intBits j>tG):=D4.mpr this;unfold hk;rw[cN T];simp
def Gs{w:List S0}(c:w.length<=s):w.take s=w:=wB c
def wb(w:List S0)(q:Nat):fj w (Z (q:Int)) Y=w.drop q:=by
 unfold fj;rw[cI.Ac,cI.FI];by_cases c:q<=w.length
 ·rw[Gf c,Gs (by rw[kf];lia)]
 ·rw[FZ ⋯,C4,DH,nP ⋯]
def HK(w:List S0)(q:Nat):fj w Y (Z (q:Int))=w.take q:=by
 unfold fj;rw[cI.Ac,cI.FI,vx,wD];by_cases c:q<=w.length
 ·rw[Gf c]
 ·rw[FZ ⋯,GJ,Gs ⋯]
def oP{w:List S0}{p:S0}(a:0<=j)(c:w[j.toNat]?=Z p):dx w j=Z p:=by
 unfold dx jG;have Sq:j.toNat<w.length:=(fY.mp c).1;rw[aN a,aN ⋯];exact c
def uT{w:List S0}{p:S0}(c:w.getLast?=Z p):dx w (-1)=Z p:=by
 rw[Bh]at c;have Sq:w.length-1<w.length:=(fY.mp c).1;unfold dx jG;rw[aT ∅,aN ⋯];show w[(-1+(w.length:Int)).toNat]?=Z p;rw[show (-1+(w.length:Int)).toNat=w.length-1 by lia];exact c
def Nl(i:Nat->aP->Prop)(Sm:ak->aP->Prop):∀{w:List ab}{k:aP},i 0 k->
  (∀(j:Nat) (f:ab) (k:aP),w[j]?=Z f->i j k->∃So aO S3,SY (.im f) k=Z So/\b So=Z (aO,S3)/\(((aO=.aX\/aO=.bX)/\i (j+1) S3)\/∃p,aO=.dX p/\Sm p S3))->
  (∃SG,dB SY b w k=Z (.aX,SG)/\i w.length SG)\/∃p SG,dB SY b w k=Z (.dX p,SG)/\Sm p SG:=by
 intro w;induction w generalizing i with
 |nil=>intro k d X;exact .inl ⟨k,rfl,d⟩
 |cons f u e=>
  intro k d c;let⟨So,aO,@S3,t,D,g⟩:=c 0 f k rfl d;rcases g with ⟨h,l⟩|⟨p,rfl,m⟩
  ·have:=e (λj=>i<|j+1) (k:=S3) l λj A SG n o=>c (j+1) A SG ⇑n o;have a:dB SY b (f::u) k=dB SY b u S3:=by
    rw[dB];dsimp only;rw[t];show (b So).bind _=_;rw[D];rcases h with rfl|rfl<;>rfl
   rw[a];exact this
  ·refine .inr ⟨p,S3,?_,m⟩;rw[dB];dsimp only;rw[t];show (b So).bind _=_;rw[D];rfl
def w2(i:Nat->aP->Prop){w:List ab}{k:aP}(a:i 0 k)(c:∀(j:Nat) (f:ab) (k:aP),w[j]?=Z f->i j k->∃So aO S3,SY (.im f) k=Z So/\b So=Z (aO,S3)/\(aO=.aX\/aO=.bX)/\i (j+1) S3):
  ∃SG,dB SY b w k=Z (.aX,SG)/\i w.length SG:=by
 rcases Nl i (λ_ X=>False) a (λj f k d e=>by
  let⟨So,aO,@S3,t,D,g,h⟩:=c j f k d e;exact⟨So,aO,S3,t,D,.inl ⟨g,h⟩⟩) with c|⟨_,_,_,c⟩
 ·exact c
 ·exact c.elim
def oV(i:Nat->aP->Prop)(d:aP->Prop)(step:∀M k,i M k->∃I So,g k=Z (I,So)/\(I=V->∃aO S3,b So=Z (aO,S3)/\(aO=.aX\/aO=.bX)/\∃a,a<M/\i a S3)/\(I=aq->d So)):
  ∀(s M:Nat) (k:aP),i M k->M<s->∃SG,ie g b s k=Z (.aX,SG)/\d SG:=by
 intro s;induction s with
 |zero=>intro M k X c;lia
 |succ s e=>
  intro M k f o;let⟨I,@So,t,D,h⟩:=step M k f;rw[ie];dsimp only;rw[t];cases I with
  |false=>exact⟨So,rfl,h rfl⟩
  |true=>
   let⟨aO,@S3,j,hf,⟨@a,p,l⟩⟩:=D rfl;let⟨@SG,m,n⟩:=e a S3 l ⋯;refine⟨SG,?_,n⟩;simp only[q9,je,j];rcases hf with rfl|rfl<;>exact m
def JE(w:List S0):w.filter (λ_=>V)=w:=List.filter_eq_self.mpr λ_ X=>rfl
def hh(a:N k=Z (.aX,So)):bh N c k=c So:=by unfold bh;rw[a];rfl
def f5(a:N k=Z (.dX p,So)):bh N c k=Z (.dX p,So):=by unfold bh;rw[a];rfl
def uo{N:jz}{S3:aP}{aO:jq}(a:N k=Z ((w,n),So))(c:dB SY b w So=Z (aO,S3)):e4 N SY b k=Z (aO,kI n S3):=by
 unfold e4;rw[a];show (dB SY b w So).map _=_;rw[c];rfl
def Hl{u:ak}(b:C.length=s)(a:N (C.map Z++replicate (M-s) Y)=Z (.dX u,k)):c8 s M SR N C=Z (u,iV SR C k 0):=by
 unfold c8;rw[aN b,a]
def nT{SX:List Nat}{F:jz}{b:aP}{C:List ab}(t:F k=Z ((w,n),So))(D:gI own SY g a w [] (jY SX So)=Z (C,b)):cm own SX F SY g a k=Z (.lst C,kI n<|iD SX b So):=by
 unfold cm;rw[t];show (gI own SY g a w []<|jY SX So).map _=_;rw[D];rfl
def et{N:aE ak}(a:N k=Z (p,So)):cy N k=Z (.dX p,So):=by unfold cy;rw[a];rfl
def yE{j:Nat}{N:aE ak}(a:N k=Z (p,So))(c:j<So.length):bS j N k=Z (.aX,So.set j<|Z p):=by unfold bS;rw[a];show (if j<So.length then _ else _)=_;rw[aN c]
def Dj(a:g k=Z (V,So)):dD g d b k=d So:=by unfold dD;rw[a];rfl
def z6(a:g k=Z (aq,So)):dD g d b k=b So:=by unfold dD;rw[a];rfl
def sR(k:aP){u:ak}{G:List ak}(b:C.length=s)(a:N (C.map Z++replicate (M-s) Y)=Z (.dX u,k))(c:iV SR C k 0=G):c8 s M SR N C=Z (u,G):=by
 rw[Hl b a,c]
theorem kN{S0:Type}{own:Nat}{SY:e1}{g:aE Bool}{a:aE ak}{az:aP}(d:S0->ab)(r:S0->Bool)(x:S0->ab):∀(w:List S0) (b:List ab),(∀f∈w,∃So S3,SY (.im<|d f) (replicate own Y++az)=Z So/\g So=Z (r f,S3)/\(r f=aq->S3.drop own=az)/\(r f=V->∃Ts,a S3=Z (.im<|x f,Ts)/\Ts.drop own=az))->
  b.length+w.length<=100000->gI own SY g a (w.map d) b az=Z (b++(w.filter r).map x,az)
 |[],b,_,_=>by simp[gI]
 |f::u,b,c,i=>by
  let⟨So,@S3,t,D,j,k⟩:=c f (.head _);rw[dA]at i;rw[dK,gI,t];show (g So).bind _=_;rw[D];show (if r f=V then _ else _)=_;cases e:r f with
  |false=>
   rw[aT d7];show gI own SY g a (u.map d) b (S3.drop own)=_;rw[j e,kN d r x u b (λA h=>c A<|.tail _ h) ⋯,zL,e];rfl
  |true=>
   let⟨@Ts,l,m⟩:=k e;rw[aN rfl];show (a S3).bind _=_;rw[l];show (if b.length<100000 then gI own SY g a (u.map d) (b++[x f]) (Ts.drop own) else Y)=_;rw[aN ⋯,m,kN d r x u (b++[x f]) (λA h=>c A<|.tail _ h) (by rw[dj,fi];lia),zL,e];simp
def gm{az:aP}(b:S0->ab)(x:S0->ab)(w:List S0)(c:∀f∈w,∃So S3 Ts,SY (.im<|b f) (replicate own Y++az)=Z So/\g So=Z (V,S3)/\a S3=Z (.im<|x f,Ts)/\Ts.drop own=az)(j:w.length<=100000):gI own SY g a (w.map b) [] az=Z (w.map x,az):=by
 have:=kN (own:=own) (SY:=SY) (g:=g) (a:=a) (az:=az) b (λ_=>V) x w [] (λf d=>by
  let⟨So,S3,@Ts,t,D,e,h⟩:=c f d;exact⟨So,S3,t,D,(λi=>by cases i),(λ_=>⟨Ts,e,h⟩)⟩) (by rw[ju];lia)
 rw[JE]at this;exact this
theorem Cg{S0 TG:Type}(a:S0->ab)(b:TG->ab):∀(w:List S0) (SE:List TG),gE (w.map a) (SE.map b)=(w.zip SE).map λr=>.tup [a r.1,b r.2]
 |[],SE=>by simp[gE]
 |f::w,[]=>by simp[gE]
 |f::w,A::SE=>by simp[gE,Cg a b w SE]
def yh{TG:Type}(x:S0->TG)(w:List S0)(Sp Sq:Option Int):fj (w.map x) Sp Sq=(fj w Sp Sq).map x:=by
 unfold fj;rw[bu,zE,Ew]
end L2
namespace G
open L2
abbrev aJ(j:Int):ak:=.im (.int j)
end G
namespace L2
open Spec PyProof.Rows
section
variable{e:aK}
def rA:ab->Option ej
 |.int j=>Z (.inl j)
 |.str f=>Z (.inr f)
 |_=>Y
@[simp] theorem RW(j:Int):rA (.int j)=Z (.inl j):=rfl
@[simp] theorem RY(f:aC):rA (.str f)=Z (.inr f):=rfl
def E4:ej->ab
 |.inl j=>.int j
 |.inr f=>.str f
@[simp] theorem R2(j:Int):E4 (.inl j)=.int j:=rfl
@[simp] theorem RR(f:aC):E4 (.inr f)=.str f:=rfl
def KZ{h:ax}{p:ab}{v:aj}{q:ej}(c:cD h p v)(a:rA p=Z q):v=b3 q:=by
 cases p with
 |int j=>cases a;exact c
 |str f=>cases a;exact c
 |_=>cases a
def fE{SV:Type}[DecidableEq SV](Sx:List (SV×ab))(q:SV)(p:ab):List (SV×ab):=(
 if (Sx.any λa=>decide (a.1=q))=V then Sx.map (λa=>if a.1=q then (a.1,p) else a) else Sx++[(q,p)])
variable{SV:Type}
def eG.any[DecidableEq SV]{h:ax}{q:SV}{H:List (SV×ab)}{M:List (SV×aj)}(c:eG h H M):(H.any λa=>decide (a.1=q))=(M.any λa=>decide (a.1=q)):=by
 unfold eG at c;induction c with
 |nil=>rfl
 |cons u _ b=>rw[mC,mC,b,u.1]
def eG.upd[DecidableEq SV]{h:ax}{q:SV}{p:ab}{v:aj}(l:cD h p v){H:List (SV×ab)}{M:List (SV×aj)}(c:eG h H M):eG h (H.map λb=>if b.1=q then (b.1,p) else b) (M.map λb=>if b.1=q then (b.1,v) else b):=by
 unfold eG at c;induction c with
 |nil=>exact .nil
 |@cons r o _ _ u _ e=>
  rw[dK,dK];refine .cons ?_ e;by_cases a:r.1=q
  ·have d:o.1=q:=u.1.symm.trans a;rw[aN a,aN d];exact⟨u.1,l⟩
  ·have d:¬ o.1=q:=λf=>a (u.1.trans f);rw[aT a,aT d];exact u
def Qg{S0 TG:Type}{L:S0->TG->Prop}{H:List S0}{M:List TG}{d:S0}{b:TG}(c:d9 L H M)(f:L d b):d9 L (H++[d]) (M++[b]):=by
 induction c with
 |nil=>exact .cons f .nil
 |cons u _ a=>exact .cons u a
def eG.put[DecidableEq SV]{h:ax}{q:SV}{p:ab}{v:aj}(l:cD h p v){H:List (SV×ab)}{M:List (SV×aj)}(c:eG h H M):eG h (fE H q p) (hj M q v):=by
 unfold fE hj;rw[c.any];split
 ·exact c.upd l
 ·exact Qg c ⟨rfl,l⟩
@[simp] def sG:aE ak:=λk=>Z (.aF [],k)
def x4{SD:cn}:b4 e (.Dict [] [] SD) sG:=by
 refine eb MW λy h E ⟨k,L,u,SG,z,ao,c,o⟩ r b=>?_;cases c;have m:cS h (L2.upd h r<|.aF []):=(cS.refl h).upd b;have f:ba h L h (L++[]):=by rw[cp];exact ba.perm ao (List.Perm.refl _)
 exact o _ _ L [r] (z.mono m.tupS λd X n a=>m d n a) ⟨r,[],rfl,eF,.nil,rfl⟩ (f.new m (fk _ _) (λd g=>by rw[cO.mp g];exact b) z.chg)
@[simp] def Se(a b:aE ak):aE ak:=λk=>(a k).bind λr=>(b r.2).bind λo=>match r.1,o.1 with
 |.im q,.im p=>(rA q).map λc=>(.dC [(c,p)],o.2)
 |_,_=>Y
@[simp] def gV(g q p:ak):Option ak:=match g,q,p with
 |.lst w,.im<|.int j,.im p=>(jG w.length j).map λB=>.lst (w.set B p)
 |.dC Sx,.im q,.im p=>(rA q).bind λa=>if Sx.length<100000 then Z (.dC<|fE Sx a p) else Y
 |.aF Sx,.im<|.tup q,.im p=>if ab.keys 7 q=V/\Sx.length<100000 then Z (.aF<|fE Sx q p) else Y
 |_,_,_=>Y
def rQ(F:e.A.units+20<b7):so e gV:=by
 intro G m y h n j v H L J E i l r s M;let⟨g,q,p,N,Sm,@SF,u,g4,x,ao,a,o⟩:=M;unfold gV at a;split at a
 ·exact BK G m y h n j v H L J E i l r s ⟨_,_,_,N,Sm,SF,u,g4,x,ao,a,o⟩
 ·let⟨@R,P,z⟩:=bK.mp a;split at z
  ·rename_i c;cases z;let⟨d,@SE,rfl,t,D,rfl⟩:=u;let@⟨hd,rfl⟩:=x;have g:fV h d:=⟨_,t,(λ_ a=>by cases a),(λ_ X a=>by cases a)⟩;cases l;have Q:=KZ g4.1 P;subst Q;refine C9 F i (nH.k t (by rw[<-D.length];exact yj c)) r s λSs B=>⟨_,B,o _ [d] ?_ (ba.chg (.head _) g (fk _ _) λf C=>by simpa using C)⟩;exact⟨d,_,rfl,eF,(eG.put hd D).mono<|cD.k6 g,rfl⟩
  ·cases z
 ·split at a
  ·rename_i c;cases a;let⟨d,@SE,rfl,t,D,rfl⟩:=u;let@⟨hd,rfl⟩:=x;have g:fV h d:=⟨_,t,(λ_ a=>by cases a),(λ_ X a=>by cases a)⟩;cases l;let⟨b,@w,rfl,S1,S6⟩:=g4.1;refine C9 F i (nH.t t ⟨c.1,b,w,rfl,S1,S6⟩ (by rw[<-D.length];exact yj c.2)) r s λSs B=>⟨_,B,o _ [d] ?_ (ba.chg (.head _) g (fk _ _) λf C=>by simpa using C)⟩;exact⟨d,_,rfl,eF,(eG.put hd D).mono<|cD.k6 g,rfl⟩
  ·cases a
 ·cases a
end
section
variable{e:aK}
def Ds:bC->ak->Option (Nat×ak)
 |.aH j,p=>Z (j,p)
 |.bY _,_=>Y
@[simp] theorem R1(j:Nat)(p:ak):Ds (.aH j) p=Z (j,p):=rfl
@[simp] theorem R_(g p:ak):Ds (.bY g) p=Y:=rfl
def Ju{p:Nat}{g:aC}{B q:cn}{SY TA TN:a_}{S:List a_}{SO:gj}{SD:cn}{own:List aC}{SX:List Nat}{e6:c6}{N:jZ->gn}{TX:jZ->er}{TF:jZ->b2}(u:e.N.Nodup)(w:e.N[p]?=Z g)(z:jP e.env.scope g)(C:e.calm=V)(SF:h1 e SO own SX)(Sq:lJ e SY TA e6)(D:∀j,jf (e.fI (fS e own SX) SO j) SY<|N j)(E:∀j,qw (e.fI (fS e own SX) SO j) S<|TX j)(F:∀j,bE (e.fI (fS e own SX) SO j) TN<|TF j)(I:∀f,mm TA e.env f=pure f:=by intro X;rfl)(J:mg (.ListComp TN [⟨SY,TA,S,0⟩] SO SD) (Z<|.Name g B) q.line e.env=pure V:=by rfl)(L:e.fn g=V\/e.env.scope.names.lookup g=Z .local:=by first|exact .inl rfl|exact .inr rfl|assumption):
  hv e (.Assign [.Name g B] (.ListComp TN [⟨SY,TA,S,0⟩] SO SD) q) (y1 (sY own SX e6 N TX TF)<|we p):=by
 intro G m y h P i c;rw[exec_Assign_Name_used _ _ _ _ J];refine aD (u9<|aD ?_);show wpAny _ e.A (do let _ <-yc (.ListComp TN [⟨SY,TA,S,0⟩] SO SD) SO e.env _ (p3 []) aq (b1 TA e.env) (Z<|h5 (.Name g B) e.env)) _ _ m;refine aD (gW (AG (use:=Z (h5 (.Name g B) e.env)) (f8:=λ_ Ss=>k9 e G P .next Ss) C SF Sq D E F I i c λk az bm Q M R U x s t al r o=>?_) (λ_ Ss am=>a7<|a7 am) λ_ X a=>a);show wpAny _ e.A (h5 (.Name g B) e.env<|.ref k) _ _ Q;refine Cx (wJ R u w z (v:=.ref k) rfl (λan ap as=>?_) L);let⟨@d,a1,l⟩:=as;have a2:az≠d:=by
  rcases l with rfl|l
  ·exact fD s
  ·exact fD (t _ _ l)
 exact⟨M,U.sameBut a1 a2,λT bd=>⟨_,_,ap.turned (it:=az) (S4:=an.toks) (λb n be a=>(bd.2 b be).trans a) x (fD s) (.inr al) t r,o⟩⟩
def p_{SR:List Nat}{j:Nat}{a:aC}{B c:cn}{SY TA TN:a_}{S:List a_}{SO:gj}{SD:cn}{own:List aC}{SX:List Nat}{F:jz}{A:e1}{cv:aE Bool}{T1:aE ak}(d:e.N.Nodup)(g:e.N[j]?=Z a)(i:jP e.env.scope a)(l:e.calm=V)(SF:h1 e SO own SX)(ao:SX.Nodup)(Sq:mi e SY TA F)(m:∀b,hl (e.fI (fS e own SX) SO b) (n5 own.length SX.length) SY A)(n:∀b,r5 (e.fI (fS e own SX) SO b) S cv)(p:∀b,b4 (e.fI (fS e own SX) SO b) TN T1)(q:j∉SR)(r:∀f,mm TA e.env f=pure f:=by intro X;rfl)(s:mg (.ListComp TN [⟨SY,TA,S,0⟩] SO SD) (Z<|.Name a B) c.line e.env=pure V:=by rfl)(w:e.fn a=V\/e.env.scope.names.lookup a=Z .local:=by first|exact .inl rfl|exact .inr rfl|assumption):
  iY e SR (.Assign [.Name a B] (.ListComp TN [⟨SY,TA,S,0⟩] SO SD) c) (bS j<|cm own.length SX F A cv T1):=by
 refine k1 (Ju d g i l SF Sq m n p r s w) λSn y h x=>?_;let⟨k,L,aO,@SG,z,C,E,o⟩:=x;let⟨@⟨u,So⟩,t,D⟩:=bK.mp E;split at D
 ·rename_i G;cases D;refine Dp ao ⟨k,L,u,_,z,C,t,λv Sr SI Sm I J M=>?_⟩;let⟨SU,@b0,O,Tb⟩:=I.put (j:=j) J G;exact o _ Sr SU (c0.set q) O (M.less Tb)
 ·cases D
def vH:ak->ak
 |.lst f=>.im (.aO f)
 |.aF []=>.im (.fd [])
 |p=>p
@[simp] theorem Sa(f:List ab):vH (.lst f)=.im (.aO f):=rfl
@[simp] theorem R7(p:ab):vH (.im p)=.im p:=rfl
@[simp] def nC(N:aE ak):aE ak:=λk=>(N k).map λr=>(vH r.1,r.2)
variable{d:af}{bN:aW}
def NG{h:ax}{J:ff}(S1:h d=Z J)(e:∀w,J≠.tup w)(f:∀r v,J≠.dq r v):fb h (upd h d<|.dq bN J):=fb.of (λb w a=>by
  have:b≠d:=λc=>by subst c;rw[S1]at a;cases a;exact e _ rfl
  rw[cP this];exact a) λb n J a=>by
  have:b≠d:=λc=>by subst c;rw[S1]at a;cases a;exact f _ _ rfl
  rw[cP this];exact a
def A5{G:List (af×aW)}{y:aS}{h Sr:ax}{k:av}{E:cu}{L SI Sm:List af}{So:aP}{J:ff}{p:ak}(q:bf Sr So y SI)(g:ba h L Sr (SI++Sm))(S1:Sr d=Z J)(s:∀w,J≠.tup w)(t:∀r l,J≠.dq r l)(u:Sm=[d])(x:aG e G y (upd Sr d<|.dq bN J) k)(hd:fb Sr (upd Sr d<|.dq bN J)->ct (upd Sr d<|.dq bN J) p (.ref d) [])(o:∀v P SW i,bf P So y SW->ct P p v i->ba h L P (SW++i)->E v P):ew e G y E (.ref d) k:=by
 subst u;have m:=dn.mp g.ao;have z:d∉SI:=λf=>m.2.2 d f d (.head _) rfl;have f7:=NG (bN:=bN) S1 s t;refine⟨.ref d,_,x,rfl,o _ _ SI [] (q.mono f7 λb j n a=>by
   have ne:b≠d:=λf=>by subst f;exact z j
   rw[cP ne];exact a) (hd f7) ?_⟩
 rw[cp];refine⟨λb n a j=>?_,λb j=>g.sub b<|c5 _ j,m.1,g.tup.trans f7,λb n a=>?_⟩
 ·have:b≠d:=λf=>by
   subst f;rcases g.sub b (c3 _<|.head _) with c|c
   ·exact j c
   ·rw[a]at c;cases c
  rw[cP this];exact g.keep b n a j
 ·by_cases f:b=d
  ·exact⟨_,by rw[f];exact eF⟩
  ·let⟨@Th,A⟩:=g.grow b n a;exact⟨Th,by rw[cP f];exact A⟩
variable{a:a_}
def od{N:aE ak}(c:b4 e a N):b4 e a (nC N):=by
 intro G m y h E i H;let⟨k,L,u,@SG,z,ao,P,o⟩:=H;let⟨@⟨gx,So⟩,t,D⟩:=cC.mp P;cases D;refine bP (@c G m y h (λv Sr=>∃SI Sm,bf Sr So y SI/\ct Sr gx v Sm/\ba h L Sr (SI++Sm)) i ⟨k,L,gx,So,z,ao,t,λv Sr SI Sm d b g=>⟨SI,Sm,d,b,g⟩⟩) λJ r H=>?_;let⟨v,@Sr,l,x,⟨SI,@Sm,A,C,F⟩⟩:=H;cases gx with
 |lst f=>
  let⟨d,@w,rfl,S1,S6,I⟩:=C;cases x;let@⟨M,⟨Sw,@s,O,j⟩⟩:=l.aR d _ S1;exact A5 (p:=.im (.aO f)) A F S1 (λ_ a=>by cases a) (λ_ X a=>by cases a) I (l.write (T:=r.heap) (S4:=r.toks) (a:=d) (by rw[S1];trivial) (.inl rfl) (λb J X a=>a) ⟨_,j⟩ ⟨j,M,Sw,s,O,j⟩) (λf7=>⟨⟨d,w,_,rfl,eF,S6.mono f7.tup⟩,rfl⟩) o
 |aF Sx=>
  cases Sx with
  |nil=>
   let⟨d,@B,rfl,S1,S6,I⟩:=C;cases S6;cases x;let@⟨M,Sp,⟨@w,O,⟨n,Sl,@U,j,Q,R,S,al⟩⟩⟩:=l.aR d _ S1;cases O;exact A5 (p:=.im (.fd [])) A F S1 (λ_ a=>by cases a) (λ_ X a=>by cases a) I (l.write (T:=r.heap) (S4:=r.toks) (a:=d) (by rw[S1];trivial) (.inl rfl) (λb J X a=>a) ⟨_,j⟩ ⟨j,M,Sp,[],.nil,n,Sl,U,j,Q,R,S,al⟩) (λ_=>⟨⟨d,_,[],rfl,eF,rfl⟩,rfl⟩) o
  |cons q u=>exact⟨v,Sr,l,x,o v Sr SI Sm A C F⟩
 |_=>exact⟨v,Sr,l,x,o v Sr SI Sm A C F⟩
variable{q:Nat}{x:af}{fd:f3}{SA:List aC}{f:aC}{r SD:cn}{Sl:List a_}
def J7{TK:jn}{TC:cF}{Sn:fA}{t:b2}{I:e_}{C:List ae}{k:List aj}(L:gG e.prog e.w e.K e.aw e.base TK q x fd SA TC)(g:d_ q e.A)(j:bE e (.Name f r) t)(n:Γ e.K (.ref x)=V)(p:gQ e.K fd SA C)(hd:bR k C)(s:uX TK e Sn)(z:g7 e (a::Sl) I)(B:bw (a::Sl) e.env=(aq,b1 a e.env)::bw Sl e.env:=by rfl)(D:(e8 SD<|bw Sl e.env).any (·.1)=aq:=by rfl):
  bE e (.Call (.Name f r) (a::Sl) [] SD) (λy h E=>t y h λv Sr=>v=.ref x/\yg TC k Sn I y Sr E):=by
 intro G m y h E i c;refine pj (bP (j G m y h _ i c) λv F H=>?_);let⟨A,@Sr,b,J,M,N⟩:=H;subst M;cases J;refine yM (h₀:=e.base) b.ok.mod.oq n (bP (z SD G F y Sr _ b N) λSP S ⟨R,SK,d,u,o⟩=>⟨d.jl,?_⟩) B D;exact Eb L g p hd s d u o
@[simp] def o9(j:Nat)(x:af)(s:Nat)(U:cX)(N:aE (List bC)):aE ak:=λk=>match k[j]? with
 |some (Z<|.im<|.fn d)=>if d=x then a3 s U N k else Y
 |_=>Y
def Q2{j s:Nat}{U:cX}{N:aE (List bC)}(L:gG e.prog e.w e.K e.aw e.base hK q x fd SA (jA s U))(g:d_ q e.A)(i:bE e (.Name f r) (kR j))(m:Γ e.K (.ref x)=V)(n:gQ e.K fd SA [])(c:fl e (a::Sl) N)(p:bw (a::Sl) e.env=(aq,b1 a e.env)::bw Sl e.env:=by rfl)(B:(e8 SD<|bw Sl e.env).any (·.1)=aq:=by rfl):
  b4 e (.Call (.Name f r) (a::Sl) [] SD) (o9 j x s U N):=by
 refine eb (J7 L g i m n .nil CA c p B) λy h E C=>?_;let⟨k,F,u,@SG,z,ao,b,o⟩:=C;unfold o9 at b;split at b
 ·rename_i d hd;split at b
  ·rename_i c;subst c;let⟨v,SI,@SU,t,D,G,H⟩:=z.out hd;exact⟨v,t,D.1,CR ⟨k,F,u,SG,z,ao,b,o⟩⟩
  ·cases b
 ·cases b
end
end L2
namespace cI
open Spec PyProof.Rows
end cI
namespace L2
open Spec PyProof.Rows
section
variable{e:aK}
theorem bF.rev{h:ax}:∀{C:List ab}{w:List aj},bF h C w->bF h C.reverse w.reverse
 |[],w,c=>by cases (show w=[] from c);rfl
 |p::C,w,c=>by
  let⟨v,@u,rfl,t,D⟩:=c;rw[w4,w4];exact D.rev.app ⟨v,[],rfl,t,rfl⟩
end
variable{O:bp}{SD:cn}{g d:a_}{TZ Tc:lr}{cv Tq Tx:aE bC}{F x:fZ}{E:ae->av->Prop}{b:Bool}{Tf:ak}{J v:ae}{A:aj}{m:av}{y:aS}{G:List (af×aW)}{f p:ab}{h:ax}
theorem z2{c:a0}:∀(s:Nat) {f A:ab}{v:ae},ab.bI s f=V->ab.bI s A=V->dk c f v->dk c A v->f=A
 |s,.aV,A,v,_,a6,h,e=>by
  cases (show v=.none from h);cases A with
  |aV=>rfl
  |au b=>cases e
  |int B=>let⟨@J,a⟩:=e;cases a
  |str i=>let⟨@J,a⟩:=e;cases a
  |tup C=>let⟨X,X,X,@X,a,X⟩:=e;cases a
  |fn d=>cases s<;>cases a6
  |aO d=>cases s<;>cases a6
  |fd=>cases s<;>cases a6
 |s,.au b,A,v,_,a6,h,e=>by
  cases (show v=.bool b from h);cases A with
  |aV=>cases e
  |au g=>cases e;rfl
  |int B=>let⟨@J,a⟩:=e;cases a
  |str i=>let⟨@J,a⟩:=e;cases a
  |tup C=>let⟨X,X,X,@X,a,X⟩:=e;cases a
  |fn d=>cases s<;>cases a6
  |aO d=>cases s<;>cases a6
  |fd=>cases s<;>cases a6
 |s,.int j,A,v,_,a6,h,e=>by
  let⟨@I,rfl⟩:=h;cases A with
  |aV=>cases e
  |au g=>cases e
  |int B=>let⟨@J,a⟩:=e;injection a with a;rw[a]
  |str i=>let⟨@J,a⟩:=e;cases a
  |tup C=>let⟨X,X,X,@X,a,X⟩:=e;cases a
  |fn d=>cases s<;>cases a6
  |aO d=>cases s<;>cases a6
  |fd=>cases s<;>cases a6
 |s,.str j,A,v,_,a6,h,e=>by
  let⟨@I,rfl⟩:=h;cases A with
  |aV=>cases e
  |au g=>cases e
  |int B=>let⟨@J,a⟩:=e;cases a
  |str i=>let⟨@J,a⟩:=e;injection a with a;rw[a]
  |tup C=>let⟨X,X,X,@X,a,X⟩:=e;cases a
  |fn d=>cases s<;>cases a6
  |aO d=>cases s<;>cases a6
  |fd=>cases s<;>cases a6
 |s+1,.tup C,A,v,m,a6,h,e=>by
  let⟨d,n,SM,@M,rfl,t,D,r,w⟩:=h;cases A with
  |aV=>cases e
  |au g=>cases e
  |int B=>let⟨@J,a⟩:=e;cases a
  |str i=>let⟨@J,a⟩:=e;cases a
  |fn d=>cases a6
  |aO d=>cases a6
  |fd=>cases a6
  |tup Sl=>
   let⟨F,Th,G,@H,a,l,L,k,x⟩:=e;cases a;rw[t]at l;cases l;rw[r]at k;injection k with k _;subst k;have all:∀(C Sl:List ab) (R:List ae),ab.di s C=V->ab.di s Sl=V->d2 c C R->d2 c Sl R->C=Sl:=by
    intro C;induction C with
    |nil=>
     intro Sl R X X d b;cases Sl with
     |nil=>rfl
     |cons a Sl=>let⟨X,@X,o,X⟩:=b;rw[show R=[] from d]at o;cases o
    |cons p C y=>
     intro Sl R S1 S6 d b;let⟨v,@u,rfl,z,E⟩:=d;cases Sl with
     |nil=>cases (show v::u=[] from b)
     |cons a Sl=>
      let⟨N,@Tg,o,dE,cE⟩:=b;cases o;rw[ab.di,cG]at S1 S6;rw[z2 s S1.1 S6.1 z dE,y Sl u S1.2 S6.2 E cE]
   rw[all C Sl _ m a6 w x]
 |0,.tup _,_,_,q,_,_,_=>by cases q
 |s,.fn _,_,_,q,_,_,_=>by cases s<;>cases q
 |s,.aO _,_,_,q,_,_,_=>by cases s<;>cases q
 |s,.fd _,_,_,q,_,_,_=>by cases s<;>cases q
open Classical in
def m5(c:a0)(p:ab)(v:ae):Bool:=(if z:∃f,ab.bI 8 f=V/\dk c f v then cq z.choose p else aq)
def rJ{c:a0}(q:ab.bI 8 f=V)(j:dk c f v):m5 c p v=cq f p:=by
 unfold m5;have a:∃f,ab.bI 8 f=V/\dk c f v:=⟨f,q,j⟩;rw[dif_pos a,z2 8 a.choose_spec.1 q a.choose_spec.2 j]
theorem p0{c:a0}{p:ab}:∀{C:List ab}{R:List ae},ab.di 8 C=V->d2 c C R->R.any (m5 c p)=C.any λf=>cq f p
 |[],R,_,a=>by rw[show R=[] from a];rfl
 |f::C,R,q,a=>by
  let⟨v,@u,rfl,t,D⟩:=a;rw[ab.di,cG]at q;rw[mC,mC,rJ q.1 t,p0 q.2 D]
theorem rp{c:a0}:∀{C:List ab}{R:List ae}{v:ae},ab.di 8 C=V->d2 c C R->v∈R->∃f,ab.bI 8 f=V/\dk c f v
 |[],R,v,_,a,M=>by rw[show R=[] from a]at M;cases M
 |f::C,R,v,q,a,M=>by
  let⟨J,@u,rfl,t,D⟩:=a;rw[ab.di,cG]at q;rcases bL.mp M with rfl|M
  ·exact⟨f,q.1,t⟩
  ·exact rp q.2 D M
section
variable{e:aK}
def eL(p:ab):ak->Option Bool
 |.im (.tup C)=>if (ab.bI 8 p&&ab.di 8 C)=V then Z (C.any λf=>cq f p) else Y
 |.lst C=>if (ab.bI 8 p&&ab.di 8 C)=V then Z (C.any λf=>cq f p) else Y
 |.aF Sx=>match p with
  |.tup q=>if ab.keys 7 q=V then Z (d1 Sx q).isSome else Y
  |_=>Y
 |.dC Sx=>match p with
  |.int j=>Z (d1 Sx<|.inl j).isSome
  |.str f=>Z (d1 Sx<|.inr f).isSome
  |_=>Y
 |_=>Y
@[simp] theorem PV(p:ab)(C:List ab):eL p (.im<|.tup C)=if (ab.bI 8 p&&ab.di 8 C)=V then Z (C.any λf=>cq f p) else Y:=rfl
@[simp] theorem LH(p:ab)(C:List ab):eL p (.lst C)=if (ab.bI 8 p&&ab.di 8 C)=V then Z (C.any λf=>cq f p) else Y:=rfl
@[simp] theorem xU(q:List ab)(Sx:List (List ab×ab)):eL (.tup q) (.aF Sx)=if ab.keys 7 q=V then Z (d1 Sx q).isSome else Y:=rfl
@[simp] def eV:fZ:=λd b=>match d with
 |.im p=>(eL p b).map λu=>.im (.au u)
 |_=>Y
@[simp] def fw:fZ:=λd b=>match d with
 |.im p=>(eL p b).map λu=>.im (.au<|!u)
 |_=>Y
def oz{SV:Type}[DecidableEq SV]{h:ax}{q:SV}{Sx:List (SV×ab)}{B:List (SV×aj)}(c:eG h Sx B):(hR B q).isSome=(d1 Sx q).isSome:=by
 cases a:d1 Sx q with
 |none=>rw[(m6 c).2 a];rfl
 |some p=>let⟨@v,t,X⟩:=(m6 c).1 p a;rw[t];rfl
def Rz{f:aj}(H:e.A.units+20<b7)(i:aG e G y h m)(g:cb f v)(n:cb A J)(s:cD h p f)(u:e9 h Tf A)(a:eL p Tf=Z b)(o:∀Ss,aG e G y h Ss->E (.bool b) Ss):wpAny (aQ e.prog e.w) e.A (d6 .In v J) E e.cj m:=by
 unfold eL at a;split at a
 ·rename_i C;split at a
  ·rename_i c;cases a;rw[cG]at c;let⟨d,@w,rfl,t,D⟩:=u.i;cases n;let⟨@Sw,M,r,X⟩:=i.tuple (ck.of t);have x:=D.fa i.aR M;refine SeqAt.in_tupleAt (m5 m.heap p) (show m.heap.IsTuple d Sw.toArray from r) (λl L=>?_) ?_
   ·let⟨@N,z,F⟩:=rp c.2 x ⇑L;rw[rJ z F];exact iU 8 z c.1 (by show e.A.units+1+8+1<b7;lia) F (s.fa i.aR g)
   ·rw[vl,p0 c.2 x];exact o m i
  ·cases a
 ·rename_i C;split at a
  ·rename_i c;cases a;rw[cG]at c;let⟨X,d,@w,rfl,t,D,X⟩:=u;cases n;let⟨@Sw,r,x,X⟩:=oG i t D;refine SeqAt.in_listAt (m5 m.heap p) r (λl L=>?_) ?_
   ·let⟨@N,z,F⟩:=rp c.2 x ⇑L;rw[rJ z F];exact iU 8 z c.1 (by show e.A.units+1+8+1<b7;lia) F (s.fa i.aR g)
   ·rw[vl,p0 c.2 x];exact o m i
  ·cases a
 ·rename_i Sx;split at a
  ·rename_i q;split at a
   ·rename_i P;cases a;let⟨X,d,@B,rfl,t,D,X⟩:=u;cases n;let⟨b,@SE,rfl,Q,R⟩:=s;rw[<-oz D]at o;exact xe H i (gp.t t ⟨P,b,SE,rfl,Q,R⟩) g o
   ·cases a
  ·cases a
 ·rename_i Sx;split at a
  ·rename_i j;cases a;let⟨X,d,@B,rfl,t,D,X⟩:=u;cases n;rw[<-oz D]at o;cases (show f=b3 (.inl j) from s);exact xe H i (gp.k t) g o
  ·rename_i j;cases a;let⟨X,d,@B,rfl,t,D,X⟩:=u;cases n;rw[<-oz D]at o;cases (show f=b3 (.inr j) from s);exact xe H i (gp.k t) g o
  ·cases a
 ·cases a
def iX(c:e.A.units+20<b7):eX e (d6 .In) eV:=by
 intro G m y h f A v J E i d g k;let⟨Te,Tf,@p,l,n,a,o⟩:=k;unfold eV at a;split at a
 ·let⟨@b,q,r⟩:=cC.mp a;cases r;exact Rz c i d g l.i n q λSs s=>⟨.au b,h,s,rfl,bZ.i o rfl⟩
 ·cases a
def NS{f:aj}(H:e.A.units+20<b7)(i:aG e G y h m)(g:cb f v)(n:cb A J)(s:cD h p f)(u:e9 h Tf A)(a:eL p Tf=Z b)(o:∀Ss,aG e G y h Ss->E (.bool<|!b) Ss):wpAny (aQ e.prog e.w) e.A (d6 .NotIn v J) E e.cj m:=by
 unfold eL at a;split at a
 ·rename_i C;split at a
  ·rename_i c;cases a;rw[cG]at c;let⟨d,@w,rfl,t,D⟩:=u.i;cases n;let⟨@Sw,M,r,X⟩:=i.tuple (ck.of t);have x:=D.fa i.aR M;refine SeqAt.notIn_tupleAt (m5 m.heap p) (show m.heap.IsTuple d Sw.toArray from r) (λl L=>?_) ?_
   ·let⟨@N,z,F⟩:=rp c.2 x ⇑L;rw[rJ z F];exact iU 8 z c.1 (by show e.A.units+1+8+1<b7;lia) F (s.fa i.aR g)
   ·rw[vl,p0 c.2 x];exact o m i
  ·cases a
 ·rename_i C;split at a
  ·rename_i c;cases a;rw[cG]at c;let⟨X,d,@w,rfl,t,D,X⟩:=u;cases n;let⟨@Sw,r,x,X⟩:=oG i t D;refine SeqAt.notIn_listAt (m5 m.heap p) r (λl L=>?_) ?_
   ·let⟨@N,z,F⟩:=rp c.2 x ⇑L;rw[rJ z F];exact iU 8 z c.1 (by show e.A.units+1+8+1<b7;lia) F (s.fa i.aR g)
   ·rw[vl,p0 c.2 x];exact o m i
  ·cases a
 ·rename_i Sx;split at a
  ·rename_i q;split at a
   ·rename_i P;cases a;let⟨X,d,@B,rfl,t,D,X⟩:=u;cases n;let⟨b,@SE,rfl,Q,R⟩:=s;rw[<-oz D]at o;exact vI H i (gp.t t ⟨P,b,SE,rfl,Q,R⟩) g o
   ·cases a
  ·cases a
 ·rename_i Sx;split at a
  ·rename_i j;cases a;let⟨X,d,@B,rfl,t,D,X⟩:=u;cases n;rw[<-oz D]at o;cases (show f=b3 (.inl j) from s);exact vI H i (gp.k t) g o
  ·rename_i j;cases a;let⟨X,d,@B,rfl,t,D,X⟩:=u;cases n;rw[<-oz D]at o;cases (show f=b3 (.inr j) from s);exact vI H i (gp.k t) g o
  ·cases a
 ·cases a
def lp(c:e.A.units+20<b7):eX e (d6 .NotIn) fw:=by
 intro G m y h f A v J E i d g k;let⟨Te,Tf,@p,l,n,a,o⟩:=k;unfold fw at a;split at a
 ·let⟨@b,q,r⟩:=cC.mp a;cases r;exact NS c i d g l.i n q λSs s=>⟨.au<|!b,h,s,rfl,bZ.i o rfl⟩
 ·cases a
@[simp] def hW(x F:fZ)(Tx Tq cv:aE bC):aE ak:=λk=>(Tx k).bind λr=>(Tq r.2).bind λo=>(dF o.2 r.1).bind λTe=>(dF o.2 o.1).bind λTf=>(x Te Tf).bind λp=>(nh p).bind λq=>
 if q=V then (cv o.2).bind λu=>(dF u.2 o.1).bind λa=>(dF u.2 u.1).bind λc=>(F a c).bind λd=>(nh d).map λb=>(.im<|.au b,u.2) else Z (.im<|.au aq,o.2)
def Dz{E:cu}(c:k3 (hW x F Tx Tq cv) y h E):
  yP (λf A h E=>∃Te Tf p,e9 h Te f/\e9 h Tf A/\x Te Tf=Z p/\bZ h p E) (λf A h E=>∃Te Tf p,e9 h Te f/\e9 h Tf A/\F Te Tf=Z p/\bZ h p E) (jT Tx) (jT Tq) (jT cv) y h E:=by
 let⟨k,L,u,@SG,z,ao,e,o⟩:=c;let⟨@⟨S5,So⟩,t,e⟩:=bK.mp e;let⟨@⟨Tp,S3⟩,D,e⟩:=bK.mp e;let⟨@Te,O,e⟩:=bK.mp e;let⟨@Tf,P,e⟩:=bK.mp e;let⟨@p,Q,e⟩:=bK.mp e;let⟨@q,R,j⟩:=bK.mp e;have hd:=rx R;subst hd;refine⟨k,L,S5,So,z,ao,t,λf Sr SI S T H B=>⟨So,SI,Tp,S3,T,(dn.mp B.ao).1,D,λA SK SU b0 m I r=>?_⟩⟩;have U:iu SK y S5 f S:=H.mono r.tup λd g n a=>r.keep d n a λc=>(dn.mp B.ao).2.2 d c d g rfl;refine⟨Te,Tf,_,U.read m O,I.read m P,Q,λv J al i am cr cs=>?_⟩;let@⟨rfl,rfl⟩:=(show v=.au q/\al=[] from am);refine⟨q,rfl,?_⟩;have M:=B.trans r H.chg;rw[b6]at M;have s:=M.new i jX (λd g=>nomatch g) m.chg;have N:bf J S3 y SU:=m.mono i.tupS λd X n a=>i d n a;cases q with
 |false=>
  rw[aT d7]at j ⊢;cases j;exact o _ J SU [] N ⟨rfl,rfl⟩ s
 |true=>
  rw[aN rfl]at j ⊢;let⟨@⟨Tj,Ts⟩,an,S1⟩:=bK.mp j;let⟨@ap,as,S6⟩:=bK.mp S1;let⟨@a1,a2,bd⟩:=bK.mp S6;let⟨@db,be,bi⟩:=bK.mp bd;let⟨@b,bm,bn⟩:=cC.mp bi;cases bn;have bs:=rx bm;subst bs;rw[cp]at s;refine⟨S3,SU,Tj,Ts,N,s.ao,an,λl bv ca ds w cd C=>?_⟩;have ce:=dn.mp r.ao;have ch:iu bv y Tp A b0:=(I.mono i.tupS λd X n a=>i d n a).mono C.tup λd g n a=>C.keep d n a λc=>ce.2.2 d c d g rfl;refine⟨ap,a1,_,ch.read w as,cd.read w a2,be,λv ci cl G co dL eq=>?_⟩;let@⟨rfl,rfl⟩:=(show v=.au b/\cl=[] from co);exact o _ ci ca [] (w.mono G.tupS λd X n a=>G d n a) ⟨rfl,rfl⟩ ((s.seq C).new G jX (λd g=>nomatch g) w.chg)
variable{b:a_}
def Ap(a:eX e (d6 Tc) x)(f:eX e (d6 TZ) F)(h:dv e d Tx)(i:dv e b Tq)(j:dv e g cv)(k:sM [Tc,TZ] [b,g]=aq:=by with_unfolding_all rfl):b4 e (.Compare d [Tc,TZ] [b,g] SD) (hW x F Tx Tq cv):=
 eb (Nb a f h i j k) λ_ X X c=>Dz c
def Dy(c:eX e (d6 Tc) x)(f:eX e (d6 TZ) F)(i:dv e d Tx)(j:dv e b Tq)(l:dv e g cv)(n:sM [Tc,TZ] [b,g]=aq:=by with_unfolding_all rfl):gY e (.Compare d [Tc,TZ] [b,g] SD) (aZ<|hW x F Tx Tq cv):=by
 refine tN (OH c f i j l n) λy h E p=>?_;let⟨k,L,q,@SG,z,ao,s,o⟩:=p;refine Dz ⟨k,L,.im<|.au q,SG,z,ao,?_,λv P SW Sm u a m=>⟨q,a.1,o P SW u (by rw[a.2,cp]at m;exact m)⟩⟩;let⟨@r,t,D⟩:=bK.mp s;let⟨@B,w,A⟩:=cC.mp D;cases A;rw[t,<-rx w]
end
mutual
def bc:ab->ab->Bool
 |.int j,.int B=>decide (j<B)
 |.str f,.str A=>decide (f.cps.toList<A.cps.toList)
 |.tup d,.tup b=>f9 d b
 |_,_=>aq
def f9:List ab->List ab->Bool
 |[],[]=>aq
 |[],_::_=>V
 |_::_,[]=>aq
 |d::u,b::I=>if ab.beq d b=V then f9 u I else bc d b
end
mutual
def ek:Nat->ab->ab->Bool
 |_,.int _,.int _=>V
 |_,.str _,.str _=>V
 |s+1,.tup d,.tup b=>fq s d b
 |_,_,_=>aq
def fq:Nat->List ab->List ab->Bool
 |_,[],[]=>V
 |s,d::u,b::I=>ek s d b&&fq s u I
 |s,[],b::I=>ab.di s (b::I)
 |s,d::u,[]=>ab.di s (d::u)
end
mutual
theorem pR:∀{s:Nat}{d b:ab},ek s d b=V->ab.bI s d=V/\ab.bI s b=V/\cq d b=ab.beq d b
 |s,.int j,.int B,_=>by
  refine⟨by cases s<;>rfl,by cases s<;>rfl,?_⟩;rw[cq,ab.beq];by_cases c:j=B<;>simp[c]
 |s,.str f,.str A,_=>by
  refine⟨by cases s<;>rfl,by cases s<;>rfl,?_⟩;rw[cq,ab.beq];by_cases c:f=A<;>simp[c]
 |s+1,.tup d,.tup b,c=>by
  rw[ek]at c;let@⟨t,D,a⟩:=CN c;exact⟨t,D,by rw[cq,ab.beq];exact a⟩
theorem CN:∀{s:Nat}{d b:List ab},fq s d b=V->ab.di s d=V/\ab.di s b=V/\fN d b=ab.kW d b
 |s,[],[],_=>⟨by cases s<;>rfl,by cases s<;>rfl,rfl⟩
 |s,[],b::I,c=>⟨by cases s<;>rfl,c,rfl⟩
 |s,d::u,[],c=>⟨c,by cases s<;>rfl,rfl⟩
 |s,d::u,b::I,c=>by
  rw[fq,cG]at c;let@⟨t,D,a⟩:=pR c.1;let@⟨e,f,g⟩:=CN c.2;exact⟨by rw[ab.di,t,e];rfl,by rw[ab.di,D,f];rfl,by rw[fN,ab.kW,a,g]⟩
end
def n3{d b:ab}(c:¬ d=b):ab.beq d b=aq:=by
 cases a:ab.beq d b with
 |false=>rfl
 |true=>exact absurd ((ab.beq_iff d b).mp a) c
mutual
theorem xK:∀d:ab,bc d d=aq
 |.int j=>by simp[bc]
 |.tup d=>by rw[bc];exact Dc d
 |.aV=>rfl
 |.au _=>rfl
 |.str f=>by rw[bc];exact cN (List.lt_irrefl _)
 |.fn _=>rfl
 |.aO _=>rfl
 |.fd _=>rfl
theorem Dc:∀d:List ab,f9 d d=aq
 |[]=>rfl
 |d::u=>by rw[f9,aN<|(ab.beq_iff d d).mpr rfl];exact Dc u
end
mutual
theorem rL:∀{s:Nat}{d b:ab},ek s d b=V->d≠b->bc d b=!(bc b d)
 |s,.int j,.int B,_,c=>by
  have:j≠B:=λa=>c (by rw[a]);rw[bc,bc];rcases Int.lt_or_gt_of_ne this with N|N
  ·simp[N];lia
  ·simp[N];lia
 |s,.str f,.str A,_,c=>by
  have ne:f.cps.toList≠A.cps.toList:=λa=>c (by
   let⟨f⟩:=f;let⟨A⟩:=A;exact congrArg (λe=>ab.str ⟨e⟩) (Array.toList_inj.mp a))
  rw[bc,bc];by_cases N:f.cps.toList<A.cps.toList
  ·rw[cW N,cN<|List.lt_asymm N];rfl
  ·rw[cN N];by_cases g:A.cps.toList<f.cps.toList
   ·rw[cW g];rfl
   ·exact absurd (List.le_antisymm (zv.mp g)<|zv.mp N) ne
 |s+1,.tup d,.tup b,c,a=>by
  rw[ek]at c;rw[bc,bc];exact Gl c λe=>a (by rw[e])
theorem Gl:∀{s:Nat}{d b:List ab},fq s d b=V->d≠b->f9 d b=!(f9 b d)
 |s,[],[],_,c=>absurd rfl c
 |s,[],b::I,_,_=>rfl
 |s,d::u,[],_,_=>rfl
 |s,d::u,b::I,c,a=>by
  rw[fq,cG]at c;rw[f9,f9];by_cases e:d=b
  ·subst e;rw[aN ((ab.beq_iff d d).mpr rfl),aN<|(ab.beq_iff d d).mpr rfl];exact Gl c.2 λl=>a (by rw[l])
  ·rw[n3 e,n3<|λl=>e l.symm,aT d7,aT d7];exact rL c.1 e
end
mutual
theorem n6:∀{s:Nat}{d b g:ab},ek s d b=V->ek s b g=V->bc d b=V->bc b g=V->bc d g=V
 |s,.int j,.int B,.int q,_,_,t,D=>by
  rw[bc]at t D ⊢;have:=gg t;have:=gg D;exact cW (by omega)
 |s,.str f,.str A,.str a,_,_,t,D=>by
  rw[bc]at t D ⊢;exact cW (List.lt_trans (gg t)<|gg D)
 |s+1,.tup d,.tup b,.tup g,bg,bx,t,D=>by
  rw[ek]at bg bx;rw[bc]at t D ⊢;exact Bk bg bx t D
theorem Bk:∀{s:Nat}{d b g:List ab},fq s d b=V->fq s b g=V->f9 d b=V->f9 b g=V->f9 d g=V
 |s,[],_,_::_,_,_,_,_=>rfl
 |s,[],[],[],_,_,c,_=>c
 |s,_::_,[],_,_,_,c,_=>by cases c
 |s,_,_::_,[],_,_,_,c=>by cases c
 |s,d::u,b::I,g::J,bg,bx,t,D=>by
  rw[fq,cG]at bg bx;rw[f9]at t D ⊢;by_cases e:d=b
  ·subst e;rw[aN ((ab.beq_iff d d).mpr rfl)]at t;by_cases a:d=g
   ·subst a;rw[aN ((ab.beq_iff d d).mpr rfl)]at D ⊢;exact Bk bg.2 bx.2 t D
   ·rw[n3 a,aT d7]at D ⊢;exact D
  ·rw[n3 e,aT d7]at t;by_cases a:b=g
   ·subst a;rw[n3 e,aT d7];exact t
   ·rw[n3 a,aT d7]at D;have f:=n6 bg.1 bx.1 t D;have h:¬ d=g:=λl=>by
     subst l;have:=rL bx.1 a;rw[t,D]at this;cases this
    rw[n3 h,aT d7];exact f
end
def qo(O:bp)(m:av)(A f:ae)(q:Bool):Prop:=(∀(Su:bl) (l:a8) (Sn:ae->av->Prop) (E:ae->av->Prop),E (.bool q) m->wpAny (aQ Su l) O (ny .Lt A f) E Sn m)
def hJ(x:Bool):List (Bool×Bool)->Bool
 |[]=>x
 | (a,q)::u=>if a=V then hJ x u else q
section
open PySem.SeqAt
open PySem.AutoSeq1 (wpAny_loadPart')
open PySem.MeetsSeq PySem.MeetsSeq2 PySem.MeetsSeq3
def Rr(H b:af)(SM d:Array ae)(s x:Nat)(y z:Option af)(aH C:Array (Option ae))(SA:List (Bool×Bool))(Q:SA.length=min SM.size d.size):
  Meets (bk.«tuple.__lt__» ⟨[.ref H,.ref b],[]⟩)
   (λO Sm m=>m.heap.get? H=Z {cls:=.type "tuple",dict:=y,data:=.seq SM s,slots:=aH}/\m.heap.get? b=Z {cls:=.type "tuple",dict:=z,data:=.seq d x,slots:=C}/\
    (∀B (t:B<SM.size) (D:B<d.size) (k:B<SA.length),EqAt O.in1 m SM[B] d[B] (SA[B]).1/\((SA[B]).1=aq->qo O.in1 m SM[B] d[B] (SA[B]).2))/\
    Sm (.ok<|.ret<|.bool<|hJ (decide (SM.size<d.size)) SA) m):=
 .of_wp λSu l O Sm m c=>by
  let⟨h,N,p,bt,Sy⟩:=m;let@⟨E,F,G,c⟩:=c;have R:=yT;have o:(SM.toList.zip d.toList).length=min SM.size d.size:=by simp
  wp_walk using wpAny_loadPart' E,wpAny_loadPart' F,ri _ (λcR b Ss=>b.1=Y/\Ss=⟨h,N,p,bt,Sy⟩/\∃j,cR=(SM.toList.zip d.toList).drop j/\
   Sm (.ok<|.ret<|.bool<|hJ (decide (SM.size<d.size))<|SA.drop j) ⟨h,N,p,bt,Sy⟩) _
  case turn=>
   rintro⟨A,f⟩ cR b Ss ⟨n,rfl,j,e,g⟩;have r:j<(SM.toList.zip d.toList).length:=by
    rcases kn j (SM.toList.zip d.toList).length with T|T
    ·exact T
    ·rw[nP T]at e;cases e
   have S:j<min SM.size d.size:=o ▸ r;have t:j<SM.size:=⋯
   have D:j<d.size:=⋯
   have k:j<SA.length:=⋯
   rw[kK r]at e;injection e with u I;have J:A=SM[j]:=by have:=congrArg Prod.fst u;simpa using this
   have L:f=d[j]:=by have:=congrArg Prod.snd u;simpa using this
   subst J L;rw[kK k]at g;let@⟨v,w⟩:=G j t D k;generalize SA[j]=M at g v w;let⟨a,q⟩:=M;refine aD (v Su l _ _ ?_);cases a with
   |true=>
    have i:Sm (.ok<|.ret<|.bool<|hJ (decide (SM.size<d.size))<|SA.drop<|j+1) ⟨h,N,p,bt,Sy⟩:=g
    wp_walk
    exact⟨rfl,rfl,j+1,I,i⟩
   |false=>
    have i:Sm (.ok<|.ret<|.bool q) ⟨h,N,p,bt,Sy⟩:=g;have P:=w rfl Su l
    wp_walk using P
    exact⟨_,rfl,by simpa using i⟩
  case fin=>
   rintro⟨dE,cE⟩ Ss ⟨n,rfl,j,e,g⟩;simp only at n;subst n;have U:min SM.size d.size<=j:=by
    rcases kn j (SM.toList.zip d.toList).length with T|T
    ·rw[kK T]at e;cases e
    ·exact o ▸ T
   rw[nP ⋯]at g;have i:Sm (.ok<|.ret<|.bool<|decide (SM.size<d.size)) ⟨h,N,p,bt,Sy⟩:=g
   wp_walk
   exact⟨_,rfl,by simpa [bk.Tuple.tupleCompareSizes] using i⟩
  case h=>
   exact⟨rfl,rfl,0,rfl,by simpa using c⟩
end
def j4(C Sl:List ab):List (Bool×Bool):=((C.zip Sl).map λr=>(cq r.1 r.2,bc r.1 r.2))
theorem Bo:∀{s:Nat}{C Sl:List ab},fq s C Sl=V->hJ (decide (C.length<Sl.length)) (j4 C Sl)=f9 C Sl
 |_,[],[],_=>rfl
 |s,d::u,b::I,c=>by
  rw[fq,cG]at c;show (if cq d b=V then hJ (decide (u.length+1<I.length+1)) (j4 u I) else bc d b)=f9 (d::u) (b::I);rw[f9,(pR c.1).2.2,<-Bo c.2,qq.mpr yU]
 |_,[],_::_,_=>rfl
 |_,_::_,[],_=>rfl
theorem vR{s:Nat}:∀{C Sl:List ab}{B:Nat}{d b:ab},fq s C Sl=V->C[B]?=Z d->Sl[B]?=Z b->ek s d b=V
 |[],Sl,B,d,b,_,c,_=>by simp at c
 |p::C,[],B,d,b,_,_,c=>by simp at c
 |p::C,a::Sl,0,d,b,c,t,D=>by
  rw[fq,cG]at c;cases t;cases D;exact c.1
 |p::C,a::Sl,B+1,d,b,c,t,D=>by
  rw[fq,cG]at c;exact vR (B:=B) c.2 ⇑t ⇑D
def QK{j B:Int}(a:dk m.heap (.int j) J)(b:dk m.heap (.int B) v):qo O m J v (bc (.int j)<|.int B):=by
 let⟨@I,rfl⟩:=a;let⟨@S4,rfl⟩:=b;intro Su l Sn E o;rw[bc]at o;exact cI.KH O m j I B S4 Su l Sn E o
def P7{f A:aC}(a:dk m.heap (.str f) J)(b:dk m.heap (.str A) v):qo O m J v (bc (.str f)<|.str A):=by
 let⟨I,rfl⟩:=a;let⟨S4,rfl⟩:=b;intro Su l Sn E o;rw[bc]at o;exact (PySem.P.lt_str o:wpAny (aQ Su l) O (d6 .Lt (.str f I)<|.str A S4) E Sn m)
def vz(f A:ab):Prop:=((∃j B,f=.int j/\A=.int B)\/∃d b,f=.str d/\A=.str b)
def FV{A:ab}(H:vz f A)(a:dk m.heap f J)(c:dk m.heap A v):qo O m J v (bc f A):=by
 rcases H with ⟨j,B,rfl,rfl⟩|⟨d,b,rfl,rfl⟩
 ·exact QK a c
 ·exact P7 a c
def nB:∀{s:Nat}{f A:ab},ek s f A=V->vz f A\/∃M d b,s=M+1/\f=.tup d/\A=.tup b/\fq M d b=V:=by
 intro s f A c;unfold ek at c;split at c
 ·exact .inl (.inl ⟨_,_,rfl,rfl⟩)
 ·exact .inl (.inr ⟨_,_,rfl,rfl⟩)
 ·exact .inr ⟨_,_,_,rfl,rfl,rfl,c⟩
 ·cases c
def xN(s:Nat):∀{O:bp}{f A:ab}{J v:ae},ek s f A=V->O.units+s+2<b7->dk m.heap f J->dk m.heap A v->qo O m J v (bc f A):=by
 induction s with
 |zero=>
  intro O f A J v c z e g;rcases nB c with H|⟨M,_,_,a,_⟩
  ·exact FV H e g
  ·cases a
 |succ s G=>
  intro O f A J v c z e g;rcases nB c with H|⟨M,C,Sl,a,rfl,rfl,c⟩
  ·exact FV H e g
  cases a;let⟨d,n,Sw,@M,rfl,t,D,h,i⟩:=e;let⟨b,Th,TL,@I,rfl,j,k,p,q⟩:=g;let⟨cls,N,data,aH⟩:=n;let⟨am,P,an,Q⟩:=Th;simp only at D h k p;subst D h k p;have bg:C.length=Sw.size:=by rw[i.length,gT]
  have bx:Sl.length=TL.size:=by rw[q.length,gT]
  intro Su l Sn E o;rw[bc,<-Bo c,bg,bx]at o;have R:(j4 C Sl).length=min Sw.size TL.size:=by rw[j4,bu,oJ,bg,bx]
  refine zw (op:=.Lt) ⟨_,t,rfl⟩ ⟨_,j,rfl⟩ PySem.F.slot_tuple_lt PySem.F.entry_tuple_lt (PySem.F.args_tuple_lt_2 _ _) (Rr d b Sw TL M I N P aH Q (j4 C Sl) R)
   ⟨t,j,λB S T U=>?_,show ae.bool (hJ (decide (Sw.size<TL.size))<|j4 C Sl)≠ae.notImplemented/\E (.bool<|hJ (decide (Sw.size<TL.size))<|j4 C Sl) m from ⟨(λf=>nomatch f),o⟩⟩ ⋯;let⟨@Te,r,u⟩:=i.get (B:=B) (v:=Sw[B]) (by rw[hr];simp[S]);let⟨@Tf,w,x⟩:=q.get (B:=B) (v:=TL[B]) (by rw[hr];simp[T]);have lk:=vR c r w;have y:=pR lk;have al:(j4 C Sl)[B]=(cq Te Tf,bc Te Tf):=by
   have:(j4 C Sl)[B]?=Z (cq Te Tf,bc Te Tf):=by
    rw[j4,gJ,(DN (z:=(Te,Tf))).mpr ⟨r,w⟩];rfl
   rw[fT U]at this;exact Option.some.inj this
  rw[al];exact⟨iU s y.1 y.2.1 (by show O.units+1+s+1<b7;lia) u x,λ_=>G lk (by show O.units+1+s+2<b7;lia) u x⟩
end L2
namespace L2
open Spec PyProof.Rows PySem.W
variable{p:ab}{Sw:List ae}{C:List ab}
theorem xR{S0:Type}{r o:S0->Bool}:∀{H:List S0},(∀f∈H,r f=V->o f=V)->(∃f∈H,o f=V/\r f=aq)->H.countP r<H.countP o
 |[],_,c=>by let⟨@f,a,X⟩:=c;cases a
 |d::H,c,⟨f,a,t,D⟩=>by
  rw[z0,z0];have le:H.countP r<=H.countP o:=List.countP_mono_left λA b=>c A (.tail _ b);rcases bL.mp a with rfl|a
  ·rw[t,D];simp;omega
  ·have:=xR (λA b=>c A<|.tail _ b) ⟨f,a,t,D⟩;have e:=c d (.head _);cases g:r d<;>cases h:o d<;>rw[g,h]at e<;>simp at e ⊢<;>omega
structure nO(C:List ab):Prop where
 da:C.length<=63
 js:∀d∈C,∀b∈C,ek 6 d b=V
structure wW(C:List ab):Prop where
 da:C.length<=63
 js:∀d∈C,∀b∈C,ek 6 d b=V
 ao:C.Nodup
def wW.w{C:List ab}(n:wW C):nO C:=⟨n.da,n.js⟩
def oM(C:List ab)(f:ab):Nat:=(C.countP λp=>bc p f)
def BS(n:nO C){f A:ab}(b:f∈C)(d:A∈C)(c:bc f A=V):oM C f<oM C A:=
 xR (λe g a=>n6 (n.js e g f b) (n.js f b A d) a c) ⟨f,b,c,xK f⟩
def Gu(n:nO C){f A:ab}(b:f∈C)(d:A∈C):decide ((oM C f:Int)<(oM C A:Int))=bc f A:=by
 cases a:bc f A with
 |true=>exact cW (by have:=BS n b d a;lia)
 |false=>
  refine cN λe=>?_;by_cases c:f=A
  ·subst c;lia
  ·have I:=rL (n.js f b A d) c;rw[a]at I;have S4:bc A f=V:=by cases o:bc A f<;>rw[o]at I<;>simp at I ⊢
   have:=BS n d b S4;lia
def pn(C:List ab)(j:Nat):Int:=(oM C (C.getD j .aV))
def ur{j:Nat}(c:j<C.length):C.getD j .aV∈C:=by
 rw[dg,fT c];exact List.getElem_mem c
def AQ(n:nO C){r:Array Nat}(c:dV C.length r)(up:jE (pn C) r C.length):(r.toList.map λj=>C.getD j .aV).Pairwise (λd b=>bc b d=aq):=by
 rw[r8];intro j B Sq e l;have f:=c.size;have i:j<C.length:=by simpa [f] using Sq
 have g:B<C.length:=by simpa [f] using e
 have le:=up j B ⋯ g;have N:∀q (h:q<(r.toList.map λj=>C.getD j .aV).length),(r.toList.map λj=>C.getD j .aV)[q]=C.getD (r.getD q 0) .aV:=λq h=>by
  have k:q<r.size:=by simpa using h
  rw[GB,Br];simp[Array.getD,k]
 rw[N j Sq,N B e];rw[<-Gu n (ur<|c.lt g) (ur<|c.lt i)];refine cN ?_;have a:∀q,(oM C (C.getD (r.getD q 0) .aV):Int)=br (pn C) r q:=λ_=>rfl;rw[a j,a B];lia
theorem r2(f:ab):∀H:List ab,(kq bc f H).Perm (f::H)
 |[]=>List.Perm.refl _
 |A::u=>by
  rw[kq];split
  ·exact List.Perm.refl _
  ·exact (List.Perm.cons A<|r2 f u).trans (List.Perm.swap f A u)
theorem jB:∀H:List ab,(hZ bc H).Perm H
 |[]=>List.Perm.refl _
 |f::u=>(r2 f _).trans (List.Perm.cons f<|jB u)
theorem Cq{f:ab}:∀{H:List ab},H.Pairwise (λd b=>bc d b=V)->(∀A∈H,f≠A)->(∀d∈f::H,∀b∈f::H,ek 6 d b=V)->(kq bc f H).Pairwise (λd b=>bc d b=V)
 |[],_,_,_=>fk _ _
 |A::u,c,s,lk=>by
  have T:=hA.mp c;rw[kq];split
  ·rename_i a;refine hA.mpr ⟨λg e=>?_,c⟩;rcases bL.mp e with rfl|e
   ·exact a
   ·exact n6 (lk f (.head _) A<|.tail _<|.head _) (lk A (.tail _<|.head _) g<|.tail _<|.tail _ e) a (T.1 g e)
  ·rename_i a;refine hA.mpr ⟨λg e=>?_,Cq T.2 (λg e=>s g<|.tail _ e) λd h b i=>lk d ?_ b ?_⟩
   ·rcases bL.mp ((r2 f u).mem_iff.mp e) with rfl|e
    ·have I:=rL (lk g (.head _) A<|.tail _<|.head _) (s A<|.head _);cases o:bc A g with
     |true=>rfl
     |false=>rw[o]at I;exact absurd I a
    ·exact T.1 g e
   ·rcases bL.mp h with rfl|h
    ·exact .head _
    ·exact .tail _ (.tail _ h)
   ·rcases bL.mp i with rfl|i
    ·exact .head _
    ·exact .tail _ (.tail _ i)
theorem uw:∀{H:List ab},H.Nodup->(∀d∈H,∀b∈H,ek 6 d b=V)->(hZ bc H).Pairwise (λd b=>bc d b=V)
 |[],_,_=>.nil
 |f::u,ao,lk=>by
  have g:=iH.mp ao;refine Cq (uw g.2 λd c b e=>lk d (.tail _ c) b<|.tail _ e) (λA h a=>g.1 (by rw[a];exact (jB u).mem_iff.mp h)) λd c b e=>lk d ?_ b ?_
  ·rcases bL.mp c with rfl|c
   ·exact .head _
   ·exact .tail _ ((jB u).mem_iff.mp c)
  ·rcases bL.mp e with rfl|e
   ·exact .head _
   ·exact .tail _ ((jB u).mem_iff.mp e)
theorem Bd{f:ab}:∀{H:List ab},H.Pairwise (λd b=>bc b d=aq)->(∀d∈f::H,∀b∈f::H,ek 6 d b=V)->(kq bc f H).Pairwise (λd b=>bc b d=aq)
 |[],_,_=>fk _ _
 |A::u,c,lk=>by
  have T:=hA.mp c;unfold kq;split
  ·rename_i a;refine hA.mpr ⟨λg e=>?_,c⟩;cases o:bc g f with
   |false=>rfl
   |true=>
    have I:=n6 (lk g (.tail _ e) f<|.head _) (lk f (.head _) A<|.tail _<|.head _) o a;rcases bL.mp e with rfl|e
    ·rw[xK]at I;cases I
    ·rw[T.1 g e]at I;cases I
  ·rename_i a;refine hA.mpr ⟨λg e=>?_,Bd T.2 λd h b i=>lk d ?_ b ?_⟩
   ·rcases bL.mp ((r2 f u).mem_iff.mp e) with rfl|e
    ·cases o:bc g A with
     |false=>rfl
     |true=>exact absurd o a
    ·exact T.1 g e
   ·rcases bL.mp h with rfl|h
    ·exact .head _
    ·exact .tail _ (.tail _ h)
   ·rcases bL.mp i with rfl|i
    ·exact .head _
    ·exact .tail _ (.tail _ i)
theorem Ay:∀{H:List ab},(∀d∈H,∀b∈H,ek 6 d b=V)->(hZ bc H).Pairwise (λd b=>bc b d=aq)
 |[],_=>.nil
 |f::u,lk=>by
  refine Bd (Ay λd a b c=>lk d (.tail _ a) b<|.tail _ c) λd a b c=>lk d ?_ b ?_
  ·rcases bL.mp a with rfl|a
   ·exact .head _
   ·exact .tail _ ((jB u).mem_iff.mp a)
  ·rcases bL.mp c with rfl|c
   ·exact .head _
   ·exact .tail _ ((jB u).mem_iff.mp c)
def CX{H:List ab}(n:nO C)(r:H.Perm C)(c:H.Pairwise (λd b=>bc b d=aq)):H=hZ bc C:=by
 refine HY (λd b e g f A=>?_) c (Ay n.js) (r.trans (jB C).symm);by_cases a:d=b
 ·exact a
 ·have I:=rL (n.js d (r.mem_iff.mp e) b<|(jB C).mem_iff.mp g) a;rw[f,A]at I;cases I
def jo:ab->Bool
 |.tup (.int _::_)=>V
 |.tup (.str _::_)=>V
 |_=>aq
def rD:ab->Bool
 |.tup (.int _::_)=>V
 |_=>aq
def qm:ab->Bool
 |.tup (.str _::_)=>V
 |_=>aq
def nU:ab->Bool
 |.tup (.tup _::_)=>V
 |_=>aq
section
variable{Su:bl}{l:a8}{O:bp}{Sn:ae->av->Prop}{m:av}
theorem EY{b x:Bool}(s:Nat)(k:O.units+s+2<b7){E:Bool->av->Prop}:∀{C Sl:List ab}{R Ta:List ae}{j:Nat},fq s C Sl=V->x=decide (C.length<Sl.length)->d2 m.heap C R->d2 m.heap Sl Ta->(b=V->j=0->∃q u,C=q::u/\∀d,q≠.tup d)->E (f9 C Sl) m->KatLex Su l O b x E (R.zip Ta) j m
 |[],Sl,R,Ta,j,_,e,t,D,_,o=>by
  rw[show R=[] from t,e];exact kat_nil (by cases Sl<;>exact o)
 |p::C,[],R,Ta,j,_,e,t,D,_,o=>by
  rw[show Ta=[] from D,e,List.zip_nil_right];exact kat_nil o
 |p::C,a::Sl,R,Ta,j,c,w,t,D,y,o=>by
  rw[fq,cG]at c;let⟨v,@R,rfl,h,z⟩:=t;let⟨J,@Ta,rfl,dE,cE⟩:=D;rw[List.zip_cons_cons];let@⟨F,Tz,G⟩:=pR c.1;refine kat_cons (iU s F Tz ⋯ h dE Su l _ _ ?_);rw[G];rw[f9]at o;cases n:ab.beq p a with
  |true=>
   rw[n,aN rfl]at o;exact kat_yes (EY s k c.2 (w.trans<|qq.mpr yU) z cE (λ_ r=>⋯) o)
  |false=>
   rw[n,aT d7]at o;refine kat_no ?_;by_cases e:(b&&j==0)=V
   ·rw[e];rw[cG]at e;let⟨q,@u,r,L⟩:=y e.1 ⇑(e.2);cases r;rcases nB c.1 with H|⟨_,_,_,_,g,_⟩
    ·rcases H with ⟨M,B,g,i⟩|⟨f,A,g,i⟩
     ·cases g;cases i;let⟨@I,rfl⟩:=h;let⟨@S4,rfl⟩:=dE;rw[bc]at o;exact oneLt_int o
     ·cases g;cases i;let⟨@I,rfl⟩:=h;let⟨@S4,rfl⟩:=dE;rw[bc]at o;exact oneLt_str o
    ·exact absurd g (L _)
   ·rw[show (b&&j==0)=aq by simpa using e];exact kat_one _ _ (xN s c.1 k h dE Su l _ _ o)
def Ey{b:Bool}(n:nO C)(g:d2 m.heap C Sw)(k:∀p∈C,∃u,p=.tup u)(y:b=V->∀p∈C,jo p=V)(P:O.units+9<b7):
  jx Sw.length (pn C) (h2 Su l O (qH b)<|Sw.toArray.zip Sw.toArray) m:=by
 intro j B az Sq z o;have Q:=g.length;have a:=ur (C:=C) (j:=j) ⋯;have e:=ur (C:=C) (j:=B) ⋯;unfold pn at o;rw[Gu n a e]at o;let⟨@Te,q,D⟩:=g.get (B:=j) (v:=Sw[j]) ↥0;let⟨@Tf,r,E⟩:=g.get (B:=B) (v:=Sw[B]) ↥0;rw[dg,q,dg,r]at o;rw[dg,q]at a;rw[dg,r]at e;let⟨@d,F⟩:=k Te a;let⟨@h,G⟩:=k Tf e;subst F G;have lk:fq 5 d h=V:=n.js _ a _ e;unfold h2;rw[tg rfl,tg rfl,dg,dg,fT Sq,fT z];show wpAny _ _ (keyLt' (qH b) Sw[j] Sw[B]) _ _ _;let⟨f,R,w,@S,H,I,T,J,s⟩:=D;let⟨A,U,SE,@al,L,S1,S6,M,t⟩:=E;rw[H,L];refine kat_lt (b:=b) I J S1 M ?_;have bg:d.length=w.size:=by rw[s.length,gT]
 have bx:h.length=SE.size:=by rw[t.length,gT]
 refine EY 5 ⋯ lk (by rw[bg,bx]) s t (λN X=>?_) (by have x:az (bc (.tup d)<|.tup h) m:=o;rw[bc]at x;exact x);have:=y N _ a;unfold jo at this;split at this
 ·rename_i c;cases c;exact⟨_,_,rfl,λd i=>nomatch i⟩
 ·rename_i c;cases c;exact⟨_,_,rfl,λd i=>nomatch i⟩
 ·cases this
theorem Bu:∀{C:List ab}{Sw:List ae},d2 m.heap C Sw->(∀p∈C,∃x u,p=.tup (x::u))->∃X,KatTups m.heap Sw X/\X.length=Sw.length/\
  ((∀p∈C,rD p=V)->∀v∈X,∃j I,v=ae.int j I)/\((∀p∈C,qm p=V)->∀v∈X,∃j I,v=ae.str j I)/\((∀p∈C,nU p=V)->∀v∈X,∃d bN,v=ae.ref d/\m.heap.get? d=Z bN/\bN.cls=.type "tuple")
 |[],Sw,c,_=>by
  rw[show Sw=[] from c];exact⟨[],trivial,rfl,(λ_ W c=>nomatch c),(λ_ W c=>nomatch c),(λ_ W c=>nomatch c)⟩
 |p::C,Sw,c,i=>by
  let⟨v,@u,rfl,t,D⟩:=c;let⟨@X,l,ep,q,r,w⟩:=Bu D λf g=>i f (.tail _ g);let⟨x,@Tg,rfl⟩:=i p (.head _);let⟨d,n,SM,@s,rfl,y,z,A,B⟩:=t;let⟨k,@H,a,h,L⟩:=B;have E:SM[0]?=Z k:=by
   rw[<-hr,a];rfl
  refine⟨k::X,KatTups.cons y z A E l,by simp[ep],λe J b=>?_,λe J b=>?_,λe J b=>?_⟩
  ·rcases bL.mp b with rfl|b
   ·have:=e _ (.head _);unfold rD at this;split at this
    ·rename_i o;cases o;exact⟨_,h⟩
    ·cases this
   ·exact q (λf g=>e f<|.tail _ g) J b
  ·rcases bL.mp b with rfl|b
   ·have:=e _ (.head _);unfold qm at this;split at this
    ·rename_i o;cases o;exact⟨_,h⟩
    ·cases this
   ·exact r (λf g=>e f<|.tail _ g) J b
  ·rcases bL.mp b with rfl|b
   ·have:=e _ (.head _);unfold nU at this;split at this
    ·rename_i o;cases o;let⟨F,Th,W,@W,G,S1,S6,W⟩:=h;exact⟨F,Th,G,S1,S6⟩
    ·cases this
   ·exact w (λf g=>e f<|.tail _ g) J b
def pk(c:jo p=V):(rD p=V\/qm p=V)/\∃x u,p=.tup (x::u):=by
 unfold jo at c;split at c
 ·exact⟨.inl rfl,_,_,rfl⟩
 ·exact⟨.inr rfl,_,_,rfl⟩
 ·cases c
def A9(c:nU p=V):∃x u,p=.tup (x::u):=by
 unfold nU at c;split at c
 ·exact⟨_,_,rfl⟩
 ·cases c
def K1{s:Nat}(h:∀f∈C,∀A∈C,ek s f A=V)(c:∀p∈C,jo p=V):(∀p∈C,rD p=V)\/∀p∈C,qm p=V:=by
 cases C with
 |nil=>exact .inl λp hd=>nomatch hd
 |cons f C=>
  have SJ:∀A∈f::C,∀{o:ab->Bool},(o=rD\/o=qm)->o f=V->o A=V:=λA e {o} i a=>by
   have H:=h f (.head _) A e;have j:=(pk<|c A e).1;have d:=pk (c f<|.head _);let⟨x,u,rfl⟩:=d.2;let⟨N,I,rfl⟩:=(pk<|c A e).2;cases s with
   |zero=>cases H
   |succ s=>
    rw[ek,fq,cG]at H;rcases i with rfl|rfl
    ·rcases nB H.1 with H|⟨_,_,_,_,b,_⟩
     ·rcases H with ⟨_,_,_,g⟩|⟨_,_,b,_⟩
      ·rw[g];rfl
      ·rw[b]at a;cases a
     ·rw[b]at a;cases a
    ·rcases nB H.1 with H|⟨_,_,_,_,b,_⟩
     ·rcases H with ⟨_,_,b,_⟩|⟨_,_,_,g⟩
      ·rw[b]at a;cases a
      ·rw[g];rfl
     ·rw[b]at a;cases a
  rcases (pk<|c f<|.head _).1 with z|z
  ·exact .inl λp hd=>SJ p hd (.inl rfl) z
  ·exact .inr λp hd=>SJ p hd (.inr rfl) z
end
section
variable{e:aK}
theorem bF.pick{h:ax}{SE:List aj}(c:bF h C SE):∀{r:List Nat},(∀q∈r,q<C.length)->bF h (r.map λj=>C.getD j .aV) (r.map λj=>SE.getD j .aV)
 |[],_=>rfl
 |q::r,a=>by
  let⟨@v,b,d⟩:=c.get (j:=q) (p:=C.getD q .aV) (by
   have:=a q (.head _);rw[dg,fT this];rfl)
  refine⟨v,_,?_,d,c.pick λB e=>a B<|.tail _ e⟩;rw[dK,dg,b];rfl
structure nE(C:List ab):Prop where
 ord:wW C
 fst:(∀p∈C,jo p=V)\/(∀p∈C,nU p=V)
structure qx(C:List ab):Prop where
 ord:nO C
 fst:(∀p∈C,jo p=V)\/(∀p∈C,nU p=V)
def nE.w{C:List ab}(n:nE C):qx C:=⟨n.ord.w,n.fst⟩
def qx.tup(n:qx C):∀p∈C,∃u,p=.tup u:=λp hd=>by
 rcases n.fst with z|z
 ·let⟨x,u,a⟩:=(pk<|z p hd).2;exact⟨_,a⟩
 ·let⟨x,u,a⟩:=A9 (z p hd);exact⟨_,a⟩
def d2.tP{c T:a0}(q:∀b n,c.get? b=Z n->T.get? b=Z n){C:List ab}{R:List ae}(f:d2 c C R):d2 T C R:=f.keep λd n X X a X X=>q d n a
def FT{c:a0}{m:av}(n:qx C)(D:2<=Sw.length)(h:d2 m.heap C Sw)(O:bp)(Sn:ae->av->Prop)(E:gd->av->Prop)(a:E (qH<|decide (∀p∈C,jo p=V)) m):
  wpAny (aQ e.prog e.w) O (vw Sw.toArray) E Sn m:=by
 let⟨@X,f,ep,i,k,o⟩:=Bu h (n.fst.elim (λg p hd=>(pk<|g p hd).2) λg p hd=>A9<|g p hd);have t:=h.length;by_cases hf:∀p∈C,jo p=V
 ·rw[cW hf]at a;rcases K1 n.ord.js hf with hf|hf
  ·refine yC (T:=ae.type "int") f ⋯ (λv b=>?_) rfl ?_
   ·let⟨j,@I,rfl⟩:=i hf v b;exact xG rfl
   ·rw[show (ae.type "int" != ae.type "tuple")=V by decide];exact a
  ·refine yC (T:=ae.type "str") f ⋯ (λv b=>?_) rfl ?_
   ·let⟨j,@I,rfl⟩:=k hf v b;exact xG rfl
   ·rw[show (ae.type "str" != ae.type "tuple")=V by decide];exact a
 ·rw[cN hf]at a;have q:=n.fst.resolve_left hf;refine yC (T:=ae.type "tuple") f ⋯ (λv b=>?_) rfl ?_
  ·let⟨d,@bN,rfl,r,s⟩:=o q v b;have:Looks (aQ e.prog e.w) m.heap (kY<|.ref d) bN.cls:=(Looks.ld r).andThen .now;rw[s]at this;exact this
  ·rw[show (ae.type "tuple" != ae.type "tuple")=aq by decide];exact a
def Gd(z:e.calm=V)(T:e.A.units+20<b7):ey e (.builtin "sorted") (λw h E=>∃(d:af) (C:List ab) (SE:List aj),w=[.ref d]/\(c2 e.K h d SE\/ck e.K h d SE)/\bF h C SE/\qx C/\
  ∀H TP,h H=Y->bF h (hZ bc C) TP->E (.ref H) (upd h H<|.lst TP)):=by
 intro G m y h w SP E i u c;let⟨d,C,@SE,rfl,f,Sq,n,o⟩:=c;let⟨@J,rfl,B⟩:=iv u;cases B;have I:SE.length<=1000:=by rw[<-Sq.length];exact ee n.ord.da ∅
 have go:∀{F:String}{Sw:List ae}{s:Nat}{bN:aW},(F = "list" \/ F = "tuple")->bR SE Sw->m.heap.get? d=Z bN->bN.cls=.type F->bN.data=.seq Sw.toArray s->wpAny (aQ e.prog e.w) e.A (call (.builtin "sorted") [.ref d]) (ew e G y E) e.cj m:=by
  intro F Sw s bN L b a aA g;have t:=Sq.fa i.aR b;have M:Sw.length=C.length:=t.length.symm;refine Df z (pn C) (qH<|decide (∀p∈C,jo p=V)) i b L a aA g I (λD v bt q O Sn E N=>FT (c:=v) n D (t.tP q) O Sn E N) (λv bt q=>?_) (by have:=n.ord.da;lia) λr H k x aO=>?_
  ·refine Ey (m:={m with heap:=v,toks:=bt}) n.ord (t.tP q) n.tup (λP=>?_) (by show e.A.units+1+1+9<b7;lia);exact gg P
  ·rw[M]at k x;have R:(r.toList.map λj=>C.getD j .aV)=hZ bc C:=CX n.ord (xx k) (AQ n.ord k x);refine o H _ aO ?_;rw[<-R];exact Sq.pick λq S=>g6.mp (k.mem_iff.mp S)
 rcases f with f|f
 ·let⟨@Sw,b,r,X⟩:=i.list f;let⟨@bN,a,aA,⟨@s,g⟩⟩:=r.isList;exact go (.inl rfl) b a aA g
 ·let⟨@Sw,b,r,X⟩:=i.tuple f;let⟨@bN,a,aA,⟨@s,g⟩⟩:=r;exact go (.inr rfl) b a aA g
theorem CF{h:ax}:∀{Sx:List (List ab×aj)}{Sl:List (List ab×af×ae)},d9 (λ(r:List ab×aj) (o:List ab×af×ae)=>r.1=o.1/\hF h r.1 o.2.1/\cb r.2 o.2.2) Sx Sl->
  bF h (Sx.map λr=>.tup r.1) (Sl.map λf=>aj.ref f.2.1)/\bR (Sl.map λf=>aj.ref f.2.1) (Sl.map λf=>ae.ref f.2.1)
 |_,_,.nil=>⟨rfl,.nil⟩
 |_,_,.cons u I=>by
  let@⟨t,D⟩:=CF I;exact⟨⟨_,_,rfl,u.2.1.2,t⟩,.cons rfl D⟩
def GG(a2:e.calm=V)(cr:e.A.units+20<b7):ey e (.builtin "sorted") (λw h E=>∃(p:af) (Sx:List (List ab×aj)),w=[.ref p]/\i9 h p (.aF Sx)/\nE (Sx.map λr=>.tup r.1)/\
  ∀H TP,h H=Y->bF h (hZ bc<|Sx.map λr=>.tup r.1) TP->E (.ref H) (upd h H<|.lst TP)):=by
 intro G m y h w SP E i u c;let⟨p,@Sx,rfl,hd,d,o⟩:=c;let⟨@J,rfl,bd⟩:=iv u;cases bd;let@⟨z,Sp,⟨@Sl,rel,⟨n,be,@U,bi,bm,bn,bs,ao⟩⟩⟩:=(show eC e.prog e.w h m.heap p (.aF Sx) from hd.ok i.aR);let@⟨Sq,k⟩:=CF rel;have R:iW m.heap p (Sl.map λf=>ae.ref f.2.1) U:=⟨n,be,bi,bm,bn,by rw[bs,hI];rfl⟩;generalize (Sl.map λf=>ae.ref f.2.1)=Sw at k R;generalize (Sl.map λf=>aj.ref f.2.1)=SE at Sq k;generalize cs:(Sx.map λr=>ab.tup r.1)=C at Sq d o;have F:=Sq.fa i.aR k;have S:Sw.length=C.length:=F.length.symm;have da:=d.ord.da;have db:SE.length=Sw.length:=k.length;have al:Sw.length<=sizeLine:=ee ⋯ (show 1000<=sizeLine by decide);refine y5 kind_sorted F2 BN (Ck _) ?z
 case z=>
  unfold bk.«sorted»;refine aD (m:=checkCount "sorted" 1 1 _) (a7<|aD<|kdu_collect (A:=e.A.in1) (LD Sp) (i.ok.hd a2) R al λT bt I L am=>?_);have bv:I.toList=Sw:=by
   apply Gh
   ·rw[gT];exact am.1
   ·intro j t D;have:=am.2 j I.toList[j] (by rw[<-hr];exact fT t);have this:Sw[j]?=Z I.toList[j]:=this;rw[fT D]at this;exact (Option.some.inj this).symm
  rw[bv];refine aD (xo ?_ al);have an:(T.push<|gh "list" Sw.toArray 0).get? T.objs.size=Z (gh "list" Sw.toArray 0):=dH _ rfl;have aZ:∀b n,m.heap.get? b=Z n->(T.push<|gh "list" Sw.toArray 0).get? b=Z n:=λb n a=>cw _ (L b n a);have ap:aG e G y h {m with heap:=T,toks:=bt}:=i.kept L;have as:∀b n,m.heap.get? b=Z n->b≠T.objs.size:=λb n a=>dJ (b9<|L b n a);refine aD (fX<|i_ ET ⟨_,an,rfl⟩ D2 ?A<|F6 _)
  case A=>
   refine Bj (m:={m with heap:=T.push (gh "list" Sw.toArray 0),toks:=bt}) (pn C) (qH<|decide (∀p∈C,jo p=V)) an
    (λD N P E ca=>FT (e:=e) (c:=N) d.w D (F.tP λb n s=>P b n (as b n s)<|aZ b n s) _ _ E ca)
    (λN P=>Ey (m:={m with heap:=N,toks:=bt}) d.w.ord (F.tP λb n s=>P b n (as b n s)<|aZ b n s) d.w.tup (λcd=>gg cd) (by show e.A.units+1+1+9<b7;lia))
    ⋯ ⋯ λr D g a1 S6 ⟨ce,ch⟩=>⟨_,rfl,a7 ⟨_,rfl,?_⟩⟩;have ci:h T.objs.size=Y:=ap.aR.fresh (bq _);have cl:∀b n,T.get? b=Z n->b≠T.objs.size:=λb n a=>dJ (b9 a);rw[S]at g a1;refine⟨.ref T.objs.size,upd h T.objs.size<|.lst<|r.toList.map λj=>SE.getD j .aV,?_,rfl,o _ _ ci ?_⟩
   ·refine ap.laid (S4:=bt) (λb J a=>S6 b J (cl b J a)<|cw _ a) (bq _) ⟨?_,_,ce,?_,ch⟩
    ·rw[bu,gT,g.size];lia
    ·refine uf ↥0 λj v J t D=>?_;rw[gJ]at t D;cases Q:r.toList[j]? with
     |none=>rw[Q]at t;cases t
     |some q=>
      rw[Q]at t D;cases t;cases D;have x:q<Sw.length:=by rw[S];exact g6.mp (g.mem_iff.mp<|jS Q)
      let⟨@J,B,co⟩:=k.get (j:=q) (f:=SE[q]'⋯) (by simp[show q<SE.length by lia]);rw[fT x]at B;have B:=Option.some.inj B;simp only[List.getD,fT x,fT (show q<SE.length by lia),ye];rw[B];exact co
   ·rw[<-CX d.w.ord (xx g) (AQ d.w.ord g a1)];exact Sq.pick λq x=>g6.mp (g.mem_iff.mp x)
def w1(C:List ab):Bool:=(decide (C.length<=63)&&C.all (λd=>C.all λb=>ek 6 d b)&&decide C.Nodup&&(C.all jo || C.all nU))
def tv:w1 C=V↔nE C:=by
 unfold w1;rw[cG,cG,cG,D1,j5,j5,i8,i8,i8];constructor
 ·rintro⟨⟨⟨t,D⟩,a⟩,c⟩;exact⟨⟨t,λd e b f=>i8.mp (D d e) b f,a⟩,c⟩
 ·rintro⟨⟨t,D,a⟩,c⟩;exact⟨⟨⟨t,λd e=>i8.mpr λb f=>D d e b f⟩,a⟩,c⟩
def iO(C:List ab):Option ak:=(if w1 C=V then Z (.lst<|hZ bc C) else Y)
def mN:hz:=(λC=>match C with
 |[.lst f]=>match qL f with
  |some SN=>xr [.lst f]
  |none=>iO f
 |[.im (.tup f)]=>iO f
 |[.aF Sx]=>iO (Sx.map λr=>.tup r.1)
 |[.k0 Sx]=>iO (Sx.map λr=>.tup r.1)
 |_=>Y)
def uD{p:ak}(c:iO C=Z p):nE C/\p=.lst (hZ bc C):=by
 unfold iO at c;split at c
 ·rename_i a;cases c;exact⟨tv.mp a,rfl⟩
 ·cases c
theorem xu{h:ax}:∀{Sx:List (List ab×ab)}{B:List (List ab×aj)},eG h Sx B->(Sx.map λr=>ab.tup r.1)=B.map λr=>ab.tup r.1
 |_,_,.nil=>rfl
 |_,_,.cons u I=>by rw[dK,dK,xu I,u.1]
def zg(d:e.calm=V)(g:e.A.units+20<b7):gH e (.builtin "sorted") mN:=by
 intro G m y h w SP E i u s;let⟨C,@p,k,a,o⟩:=s;unfold mN at a;split at a
 ·rename_i f;split at a
  ·exact Nc d g G m y h w SP E i u ⟨_,p,k,a,o⟩
  ·let@⟨b,rfl⟩:=uD a;let⟨@v,rfl,⟨X,r,@SE,rfl,t,D,X⟩⟩:=fR k;exact Gd d g G m y h _ SP E i u ⟨r,f,SE,rfl,.inl<|c2.of t,D,b.w,λH TP aO c=>bZ.l o aO c⟩
 ·rename_i f;let@⟨b,rfl⟩:=uD a;let⟨@v,rfl,q⟩:=fR k;let⟨r,@SE,rfl,t,D⟩:=q.i;exact Gd d g G m y h _ SP E i u ⟨r,f,SE,rfl,.inr<|ck.of t,D,b.w,λH TP aO c=>bZ.l o aO c⟩
 ·rename_i Sx;let@⟨b,rfl⟩:=uD a;let⟨@v,rfl,⟨X,r,@B,rfl,t,D,X⟩⟩:=fR k;rw[xu D]at b o;exact GG d g G m y h _ SP E i u ⟨r,B,rfl,.inl t,b,λH TP aO c=>bZ.l o aO c⟩
 ·rename_i Sx;let@⟨b,rfl⟩:=uD a;let⟨v,rfl,q⟩:=fR k;let⟨X,r,B,n,rfl,t,D,X⟩:=q;rw[xu D]at b o;exact GG d g G m y h _ SP E i u ⟨r,B,rfl,.inr ⟨n,t⟩,b,λH TP aO c=>bZ.l o aO c⟩
 ·cases a
end
end L2
namespace PySem
open PySem.Sem (wp)
def RE:uj (.type "list") "keys" = pure Y:=by rw[vV,vE];kernel_rfl
def Mu{Su:bl}{l:a8}{O:bp}{Sn:ae->av->Prop}{m:av}{d:af}{w:Array ae}{q:Nat}{E:Option ae->av->Prop}(e:m.heap.get? d=Z {cls:=.type "list",data:=.seq w q})(i:O.handled=Y)(c:∀T bt,(∀b n,m.heap.get? b=Z n->T.get? b=Z n)->E Y {m with heap:=T,toks:=bt}):wpAny (aQ Su l) O (uW (.ref d) "keys") E Sn m:=by
 let⟨j,N,p,bt,Sy⟩:=m;have f:∀g,(⟨j,N,p,g,Sy⟩:av).TypeIs (.ref d) "list" := λ_=>⟨_,e,rfl⟩;have s:=sub_AttributeError;have t:=yF.lookup;have u:=yF.bind (.ref d);have v:=am_list_getattr_none;unfold uW getAttrBy? getAttrBy;repeat (any_goals (first|assumption|exact f _|((with_reducible show wpAny _ _ (call (ae.builtin "list.__getattribute__") _ _) _ _ _);refine pE yF (f _) am_entry_list_getattribute (F.args_list_getattribute_2 _ _) (meets_getattribute_miss_list d w q _ "keys" _ RE (by decide +kernel) ∅) ⟨e,i,λT g a h=>?_⟩)|wp_step))
 let⟨S4,@x,k⟩:=h.there;show wpAny _ _ (B1 _ _ _ _ _ _ _) _ _ _;unfold B1;have o:∀r,(⟨T,N,p,r,Sy⟩:av).TypeIs (.ref a) "AttributeError" := λ_=>⟨_,k,rfl⟩;repeat (any_goals (first|assumption|exact o _|wp_step))
 exact c T _ h.keeps
end PySem
namespace PySem
namespace F
def DW:yV table "dict.update.loop" = Z bk.«dict.update.loop»:=entryFor_of_tree (by kernel_rfl)
def sf:plainId "dict.update.loop" = V:=by decide +kernel
end F
end PySem
namespace L2
open Spec PyProof.Rows PySem.W
variable{s:Nat}{Sl:List a_}{SM:Array ae}{I:af}{J v:ae}{O:bp}{m:av}{SD:cn}{q:a_}
theorem yw{S0 TG:Type}{L:S0->TG->Prop}:∀{a:List S0}{e:List TG},d9 L a e->∀(j:Nat),j<a.length->∃d b,a[j]?=Z d/\e[j]?=Z b/\L d b
 |_,_,.nil,j,c=>by simp at c
 |_,_,.cons u I,0,c=>⟨_,_,rfl,rfl,u⟩
 |_,_,.cons u I,j+1,c=>by
  let⟨d,@b,f,A,g⟩:=yw I j ⇑c;exact⟨d,b,by simpa using f,by simpa using A,g⟩
def kX:List ab->Option (List<|List ab×ab)
 |[]=>Z []
 |.tup [.tup q,p]::u=>(kX u).map λm=>(q,p)::m
 |_=>Y
def KC:∀{f:List ab}{SA:List (List ab×ab)},kX f=Z SA->f=SA.map λr=>.tup [.tup r.1,r.2]:=by
 intro f;induction f with
 |nil=>intro SA c;cases c;rfl
 |cons d f b=>
  intro SA c;unfold kX at c;split at c
  ·cases c;rename_i a;cases a
  ·rename_i q p u a;cases a;let⟨@m,e,g⟩:=cC.mp c;cases g;rw[dK,<-b e]
  ·cases c
def g_(SA:List (List ab×ab)):List (List ab×ab):=(SA.foldl (λd r=>fE d r.1 r.2) [])
def yk(h:ax)(v:aj)(r:List ab×ab):Prop:=(∃I d A,v=.ref I/\h I=Z (.tup [.ref d,A])/\hF h r.1 d/\cD h r.2 A)
theorem Gx{h:ax}:∀{SA:List (List ab×ab)}{SE:List aj},(∀r∈SA,ab.keys 7 r.1=V)->bF h (SA.map λr=>.tup [.tup r.1,r.2]) SE->d9 (yk h) SE SA
 |[],SE,_,c=>by rw[show SE=[] from c];exact .nil
 |r::SA,SE,a,c=>by
  let⟨v,@u,rfl,⟨I,@TP,rfl,t,⟨v1,@m,rfl,D,⟨b,@e,rfl,f,g⟩⟩⟩,i⟩:=c;cases (show e=[] from g);let⟨d,@Ta,rfl,j,k⟩:=D;exact .cons ⟨I,d,b,rfl,t,⟨a r<|.head _,d,Ta,rfl,j,k⟩,f⟩ (Gx (λo l=>a o<|.tail _ l) i)
section
variable{e:aK}{G:List (af×aW)}{y:L2.aS}{h:ax}{To:av}
def fP.is{Sx:List (List ab×aj)}{w:List (List ab×af×ae)}(u:fP h Sx w):∀f∈w,hF h f.1 f.2.1:=by
 intro f a;let⟨j,Sq,rfl⟩:=wx.mp a;let⟨r,@o,t,D,b,c,X⟩:=yw u j (by rw[d9.length u];exact Sq);rw[fT Sq]at D;have D:=Option.some.inj D;subst D;rw[<-b];exact c
def xl(a:aG e G y h To){k:af}{c T:a0}{Sx:List (List ab×aj)}{w:List (List ab×af×ae)}(d:c.DictOfH (h6 e.prog e.w) k w)(u:fP h Sx w)(dz:∀b n,To.heap.get? b=Z n->T.get? b=Z n)(g:∀n,c.get? k=Z n->T.get? k=Z n):T.DictOfH (h6 e.prog e.w) k w:=by
 let⟨n,Sl,@U,t,D,i,j,X,m⟩:=d;have o:aG e G y h {To with heap:=T}:=a.kept (S4:=To.toks) dz;exact⟨n,Sl,U,g n t,D,i,j,λf p=>mn (c:=T) o.aR<|u.is f p,m⟩
def Hb(t:aG e G y h To){O:bp}(bd:O.units+20<b7){k e5 H:af}{R:List ae}{SE:List aj}{SA:List (List ab×ab)}{aS:Nat->a0->Prop}{Sm:oH->av->Prop}(x:bR SE R)(U:d9 (yk h) SE SA)(f0:SA.length<=1000)(W:nR e.prog e.w O.in1 e5 [e5,H] [e5] R.length (λj v=>R[j]?=Z v) aS)(fL:To.heap.get? k=Y)(B:To.heap.get? e5=Y)(C:k≠e5)(be:k≠H)(fin:∀(m:av) (w:List (List ab×af×ae)) (Sx:List (List ab×aj)),(∀b n,To.heap.get? b=Z n->m.heap.get? b=Z n)->m.heap.DictOfH (h6 e.prog e.w) k w->fP h Sx w->eG h (g_ SA) Sx->Sx.length<=1000->
   m.gens=To.gens->m.drawn=To.drawn->m.os=To.os->Sm (.ok<|.ret .none) m):
  ∀(M j:Nat) (I:hT) (m:av) (w:List (List ab×af×ae)) (Sx:List (List ab×aj)),R.length-j=M->j<=R.length->aS j m.heap->(∀b n,To.heap.get? b=Z n->m.heap.get? b=Z n)->
   m.heap.DictOfH (h6 e.prog e.w) k w->fP h Sx w->eG h (g_<|SA.take j) Sx->Sx.length<=j->m.gens=To.gens->m.drawn=To.drawn->m.os=To.os->
   codeAny (aQ e.prog e.w) O (.builtin "dict.update.loop" ⟨[.ref k,.ref e5,.int j I,.none],[]⟩) Sm m:=by
 have f1:R.length=SA.length:=by rw[<-x.length,d9.length U]
 intro M;induction M with
 |zero=>
  intro j I m w Sx bi Sq z dz D u p bm E N P;have bn:j=R.length:=⋯
  refine lK F.DW ?_;rw[l3 F.sf _];refine aD (m:=hP (.ref e5)) (W.done m _ _ (bn ▸ z) λT bt keep=>?_);refine aD (m:=bk.Dict.addKeywords k []) (a7<|a7 ?_);have o:∀b n,b≠e5->m.heap.get? b=Z n->T.get? b=Z n:=λb n i a=>keep b n ⇑i a;refine fin _ w Sx (λb n a=>o b n (λf=>by rw[f,B]at a;cases a)<|dz b n a) ?_ u (by rw[wB ⋯]at p;exact p) ⋯ E N P;exact xl t D u (λb n a=>o b n (λf=>by rw[f,B]at a;cases a)<|dz b n a) λn a=>o k n C a
 |succ M bs=>
  intro j I m w Sx bi Sq z dz D u p bm E N P;have lt:j<R.length:=⋯
  refine lK F.DW ?_;rw[l3 F.sf _];refine aD (m:=hP (.ref e5)) (W.item j m _ _ lt z λv T bt bv ca keep=>?_);have o:∀b n,b≠e5->m.heap.get? b=Z n->T.get? b=Z n:=λb n i a=>keep b n ⇑i a;let⟨A,@g,cd,ce,⟨r,d,@al,rfl,ch,am,ci⟩⟩:=yw U j (by rw[x.length];exact lt);let⟨@J,an,cl⟩:=x.get cd;rw[bv]at an;cases an;cases cl;have Q:∀b n,To.heap.get? b=Z n->T.get? b=Z n:=λb n a=>o b n (λf=>by rw[f,B]at a;cases a) (dz b n a);have ap:aG e G y h {To with heap:=T}:=t.kept (S4:=To.toks) Q;have co:=xl t D u Q λn a=>o k n C a;let@⟨_,⟨@Sw,cr,⟨@n,as,cs,⟨@s,db⟩⟩⟩⟩:=ap.aR _ _ ch;let⟨f2,@S,rfl,ds,dL⟩:=ps cr;cases ds;show wpAny (aQ e.prog e.w) O.in1 (holding [.ref r] _ >>= λ_=>again _) _ _ _;refine aD (fX<|aD<|ra ?_);unfold bk.Dict.pairItems;refine aD (wpAny_typeOf (s:={m with heap:=T,toks:=bt}) (⟨n,as,(Prod.mk.inj cs).1⟩:av.TypeIs {m with heap:=T,toks:=bt} (.ref r) "tuple") ?_);rw[aN ∅];refine aD (iL (s:={m with heap:=T,toks:=bt}) as db<|a7 ?_);show wpAny (aQ e.prog e.w) O.in1 (holding [.ref d,S]<|dictSet k (.ref d) S) _ _ _;refine fX (AH (s:={m with heap:=T,toks:=bt}) (k:=g.1) (knd:=h6 e.prog e.w) (qb bd) (mn (c:=T) ap.aR am) co (λeq ev ex=>?_) (by
   have:=d9.length u;exact ee (show w.length<=1000 by lia) ∅))
  have a1:∀b n,b≠k->T.get? b=Z n->eq.get? b=Z n:=λb n i a=>(ex.2 b i).trans a;have fd:=u.put g.1 (b:=d) (A:=al) (J:=S) am dL;have fn:SA.take (j+1)=SA.take j++[g]:=by
   have a2:=(fY.mp ce);rw[List.take_succ_eq_append_getElem a2.1,a2.2]
  have fr:eG h (g_<|SA.take<|j+1) (hj Sx g.1 al):=by
   rw[fn];unfold g_;rw[List.foldl_append];exact eG.put ci p
  refine a7 ⟨lb F.sf _,bs (j+1) 0 _ _ _ ⋯ lt (W.frame _ _ _ ca λb i n a=>a1 b n (λf=>by
    subst f;rcases bL.mp i with f|i
    ·exact C f
    ·exact be (cO.mp i)) a) (λb n a=>a1 b n (λf=>by rw[f,fL]at a;cases a)<|Q b n a) ev fd fr ?_ E N P⟩
  unfold hj;split
  ·rw[bu];lia
  ·simp;lia
def Pz(B:e.calm=V)(cl:e.A.units+30<b7):ey e (.type "dict") (λw h E=>∃(H:af) (SE:List aj) (SA:List (List ab×ab)),w=[.ref H]/\h H=Z (.lst SE)/\d9 (yk h) SE SA/\SA.length<=1000/\
  ∀(p:af) (Sx:List (List ab×aj)),h p=Y->eG h (g_ SA) Sx->E (.ref p) (upd h p<|.aF Sx)):=by
 intro G m y h w SP E i u c;let⟨H,SE,@SA,rfl,Q,R,S,o⟩:=c;let⟨@J,rfl,al⟩:=iv u;cases al;let@⟨z,⟨Sw,@s,am,a⟩⟩:=i.aR H _ Q;have C:H<m.heap.objs.size:=b9 a;refine EV (Q₁:=λD I=>D=.ref m.heap.objs.size/\I={m with heap:=m.heap.push {cls:=.type "dict",data:=.dict #[]} }) PySem.F.kt_called_dict (PySem.F.kt_typeCall_dict_1 _) PySem.F.entry_dict_init (kt_code_dict_new _ ⟨rfl,rfl⟩) ?_;rintro D I ⟨rfl,rfl⟩;have an:(m.heap.push {cls:=.type "dict",data:=.dict #[]}).DictOfH (h6 e.prog e.w) m.heap.objs.size []:=a0.DictOfH.new m.heap;have N:av.TypeIs {m with heap:=m.heap.push {cls:=.type "dict",data:=.dict #[]} } (.ref m.heap.objs.size) "dict" := ⟨_,dH _ rfl,rfl⟩;have d:(m.heap.push {cls:=.type "dict",data:=.dict #[]}).get? H=Z {cls:=.type "list",data:=.seq Sw.toArray s}:=cw _ a;refine⟨N,PySem.F.args_dict_init_2 _ _,?_⟩;unfold bk.«dict.__init__»;refine aD ?_;unfold bk.Dict.selfAndRest;refine aD (E9 N ?_);show wpAny _ _ (pure (m.heap.objs.size,[ae.ref H])) _ _ _;refine a7 ?_;show wpAny _ _ (bk.Dict.updateFrom "dict.__init__" m.heap.objs.size (.ref H) [] .none) _ _ _;unfold bk.Dict.updateFrom;refine aD (wpAny_typeOf (⟨_,d,rfl⟩:av.TypeIs {m with heap:=m.heap.push {cls:=.type "dict",data:=.dict #[]} } (.ref H) "list") ?_);rw[aN ∅];refine aD (Mu (m:={m with heap:=m.heap.push {cls:=.type "dict",data:=.dict #[]} }) d (i.ok.hd B) λt bt S1=>?_);rw[aN (show (Y:Option ae).isNone=V from rfl)];refine aD (m:=rule _) (lM ?_);have P:t.IsList H Sw.toArray:=⟨_,S1 _ _ d,rfl,s,rfl⟩;refine aD (tA (s:={m with heap:=t,toks:=bt}) P ?_);have f:m.heap.objs.size<t.objs.size:=b9 (S1 _ _<|dH _ rfl);have dz:∀b n,m.heap.get? b=Z n->(t.push {cls:=.type "list_iterator",data:=.fields #[.ref H,.int 0 0]}).get? b=Z n:=λb n g=>cw _ (S1 b n<|cw _ g);refine a7 ⟨lb PySem.F.sf _,?_⟩;have ap:(t.push {cls:=.type "list_iterator",data:=.fields #[.ref H,.int 0 0]}).DictOfH (h6 e.prog e.w) m.heap.objs.size []:=xl i (Sx:=[]) an .nil dz λn as=>cw _ (S1 _ _ as);have a1:H≠t.objs.size:=dJ (Ag C f);refine Hb i (O:=e.A.in1) (by show e.A.units+1+20<b7;lia) (k:=m.heap.objs.size) (e5:=t.objs.size) (H:=H) (aS:=λj c=>c.IsListIter t.objs.size H j/\c.IsList H Sw.toArray) am R S ?_ (w9<|bq _) (w9<|p4 f) (dJ f) (k2 C)
  (λSs w Sx a2 bd be bi cr q r x=>?_) Sw.length 0 0 _ [] [] rfl (hi _) ?_ dz ap .nil .nil (bq _) rfl rfl rfl
 ·have W:=nR.list (prog:=e.prog) (w:=e.w) (A:=e.A.in1.in1) (i.ok.hd B) t.objs.size H a1 Sw.toArray;have bm:(λ(j:Nat) (v:ae)=>Sw.toArray[j]?=Z v)=λj v=>Sw[j]?=Z v:=by
   funext j v;rw[FU]
  rw[bm,cJ]at W;exact W
 ·let⟨T,bn,bs,S4,bv⟩:=Ss;have q:bn=m.gens:=q;have r:bs=m.drawn:=r;have x:bv=m.os:=x;subst q r x;have yb:h m.heap.objs.size=Y:=i.aR.fresh (bq _);let⟨n,Sl,@U,ca,cd,ce,ch,X,ci⟩:=bd;refine⟨rfl,.ref m.heap.objs.size,_,i.laid (n:=.aF Sx) (T:=T) (S4:=S4) a2 (bq _) ⟨ee (show Sx.length<=1000 by lia) ∅,xH.mpr<|fD<|dJ i.big,w,be.keeps λb SE g=>Ab g yb,n,Sl,U,ca,cd,ce,ch,ci⟩,rfl,o _ Sx yb bi⟩
 ·exact⟨⟨_,dH _ rfl,rfl,rfl⟩,P.push _⟩
@[simp] def nY:hz:=λC=>match C with
 |[.lst f]=>(kX f).bind λSA=>if (SA.all λr=>ab.keys 7 r.1)=V/\SA.length<=1000 then Z (.aF<|g_ SA) else Y
 |_=>Y
def FQ(g:e.calm=V)(i:e.A.units+30<b7):gH e (.type "dict") nY:=by
 refine (Pz g i).imp λw h E j=>?_;let⟨C,@p,k,a,o⟩:=j;unfold nY at a;split at a
 ·rename_i f;let⟨@SA,l,b⟩:=bK.mp a;split at b
  ·rename_i c;cases b;let⟨@v,rfl,⟨X,r,@SE,rfl,t,D,X⟩⟩:=fR k;rw[KC l]at D;refine⟨r,SE,SA,rfl,t,Gx (λo n=>i8.mp c.1 o n) D,c.2,λp Sx hd q=>?_⟩;have m:cS h (upd h p<|.aF Sx):=(cS.refl h).upd hd;exact o _ _ [p] m ⟨p,Sx,rfl,eF,q.mono m.tupS.tup,rfl⟩ (fk _ _) λd s=>by rw[cO.mp s];exact hd
  ·cases b
 ·cases a
end
section
variable{e:aK}
def Ip(bt t:b2):b2:=(λy h E=>∀r,h r=Y->bt y (upd h r<|.aF []) λf Sr=>t y Sr λA SK=>∃b q,f=.ref b/\hF SK q b/\SK r=Z (.aF [])/\E (.ref r) (upd SK r<|.aF [(q,A)]))
variable{v:a_}
def Rj{bt t:b2}(as:e.A.units+20<b7)(x:bE e q bt)(z:bE e v t):bE e (.Dict [Z q] [v] SD) (Ip bt t):=by
 intro G m y h E i o;have B:=i.aR.fresh (bq m.heap.objs.size);have C:=i.laid (d:=m.heap.objs.size) (n:=.aF []) (T:=m.heap.push {cls:=.type "dict",data:=.dict #[]}) (S4:=m.toks) (λ_ X o=>cw _ o) (bq _) (GA m.heap i.big);refine wpAny_Dict_any rfl rfl ↥0 ↥0 ?_;refine pairTrees_cons_walk (bP (x G _ y _ _ C<|o _ B) λJ F ⟨f,Sr,H,I,L⟩=>bP (z G F y Sr _ H L) λa1 M ⟨A,SK,a,N,b,g,S_,j,c,P⟩=>pairTrees_nil_walk ?_);subst S_;cases I;let@⟨k,Q,⟨@w,u,R⟩⟩:=DS a.aR c;cases u;unfold storeAll;rw[sI];refine aD (aD (AH (k:=g) (knd:=h6 e.prog e.w) (show e.A.units+10<b7 by lia) (mn a.aR j) R (λT S al=>a7 ?_)<|hi _));refine a7 ⟨.ref m.heap.objs.size,_,?_,rfl,P⟩;let⟨p,Sl,@U,r,D,am,an,X,ap⟩:=S;refine xX (m:=M) a (by rw[c];exact True.intro) al ⟨p,r⟩ ⟨(show 1<=sizeLine by decide),Q,_,fP.keeps (fP.put (Sx:=[]) (w:=[]) .nil g (b:=b) j N) λbd SE s=>?_,p,Sl,U,r,D,am,an,ap⟩;rw[cP (zR s c<|λk=>nomatch k)];exact s
@[simp] def ub(a b:aE ak):aE ak:=λk=>(a k).bind λr=>(b r.2).bind λo=>match r.1,o.1 with
 |.im (.tup q),.im p=>if ab.keys 7 q=V then Z (.aF [(q,p)],o.2) else Y
 |_,_=>Y
def wF{F G:aE ak}(P:e.A.units+20<b7)(Q:b4 e q F)(R:b4 e v G):b4 e (.Dict [Z q] [v] SD) (ub F G):=by
 refine eb (Rj P Q R) λy h E ⟨k,L,u,SG,z,ao,S,o⟩ r p=>?_;let⟨@⟨Te,So⟩,t,D⟩:=bK.mp S;let⟨@⟨Tf,S3⟩,U,j⟩:=bK.mp D;have m:cS h (L2.upd h r<|.aF []):=(cS.refl h).upd p;have H:r∉L:=λg=>by let⟨@n,a,X⟩:=z.chg r g;rw[p]at a;cases a
 refine⟨k,L,Te,So,z.mono m.tupS λd X n a=>m d n a,ao,t,λf Sr SI be al S5 s=>?_⟩;have am:=dn.mp s.ao;refine⟨So,SI,Tf,S3,al,am.1,U,λA SK SU b0 an Tp l=>?_⟩;dsimp only at j;split at j
 ·rename_i x bi;split at j
  ·rename_i ap;cases j;let@⟨as,rfl⟩:=S5;let@⟨a1,rfl⟩:=Tp;rw[cp]at s l;have B:=s.seq l;have I:Sr r=Z (.aF []):=s.keep r _ eF H;have M:r∉SI:=λg=>by
    rcases s.sub r g with c|c
    ·exact H c
    ·rw[eF]at c;cases c
   have C:SK r=Z (.aF []):=l.keep r _ I M;have N:r∉SU:=λg=>by
    rcases l.sub r g with c|c
    ·exact M c
    ·rw[I]at c;cases c
   let⟨b,@w,rfl,S1,S6⟩:=(show cD SK (.tup x) f from as.mono l.tup.tup);refine⟨b,x,rfl,⟨ap,b,w,rfl,S1,S6⟩,C,?_⟩;have f7:fb SK (L2.upd SK r<|.aF [(x,A)]):=fb.of (λd w a=>by
    have:d≠r:=λg=>by subst g;rw[C]at a;cases a
    rw[cP this];exact a) λd n J a=>by
    have:d≠r:=λg=>by subst g;rw[C]at a;cases a
    rw[cP this];exact a
   refine o _ _ SU [r] (an.mono f7 λd i n a=>by
    have ne:d≠r:=λg=>by subst g;exact N i
    rw[cP ne];exact a) ⟨r,[(x,A)],rfl,eF,.cons ⟨rfl,a1.mono f7.tup⟩ .nil,rfl⟩ ?_
   refine⟨λd n a i=>?_,λd i=>?_,?_,?_,λd n a=>?_⟩
   ·have:d≠r:=λg=>by subst g;rw[p]at a;cases a
    rw[cP this];exact B.keep d n (by rw[cP this];exact a) i
   ·rcases dt.mp i with c|c
    ·rcases B.sub d c with T|T
     ·exact .inl T
     ·by_cases a:d=r
      ·exact .inr (a ▸ p)
      ·rw[cP a]at T;exact .inr T
    ·exact .inr (by rw[cO.mp c];exact p)
   ·exact dn.mpr ⟨l.ao,fk _ _,λd i b a2 a=>N (by rw[cO.mp a2]at a;rw[<-a];exact i)⟩
   ·exact (m.tupS.trans B.tup).trans f7
   ·by_cases g:d=r
    ·exact⟨_,by rw[g];exact eF⟩
    ·let⟨@Th,bd⟩:=B.grow d n (by rw[cP g];exact a);exact⟨Th,by rw[cP g];exact bd⟩
  ·cases j
 ·cases j
end
def PB:String->bk:=((⟨_,rfl⟩:{x:String->bk // x "max" = bk.«max» }).1)
def LV:String->lr->bk:=((⟨_,rfl⟩:{x:String->lr->bk // x "max" .Gt=bk.«max.loop» }).1)
section
variable{Su:bl}{l:a8}{O:bp}{Sn:ae->av->Prop}{m:av}
def Ea{C k:String}{Tc:lr}(o:(toString C++toString ".loop" : String)=k)(U:builtinKind C=Y)(al:plainId C=V)(am:yV table C=Z (PB C))(an:∀d b:ae,argsOk C ⟨[d,b],[]⟩)(e:plainId k=V)(r:yV table k=Z (LV C Tc)){d b:ae}{q:Bool}{E:ae->av->Prop}(ap:O.handled=Y)(as:∀Ss:av,(∀g n,m.heap.get? g=Z n->Ss.heap.get? g=Z n)->∀(E:ae->av->Prop) (Sn:ae->av->Prop),E (.bool q) Ss->wpAny (aQ Su l) O.in1 (ny Tc b d) E Sn Ss)(c:∀T bt,(∀g n,m.heap.get? g=Z n->T.get? g=Z n)->E (if q=V then b else d) {m with heap:=T,toks:=bt}):wpAny (aQ Su l) O (call (.builtin C) [d,b]) E Sn m:=by
 refine call_function_tree U al am (an _ _) ?_;show wpAny _ O.in1 (bk.Builtins.bindParams C ["key","default"] 0 ⟨[],[]⟩ >>= _) _ _ m;refine aD (uU (show bk.Builtins.bindParams C ["key","default"] 0 ⟨[],[]⟩=pure [Y,Y] from rfl) ?_);show wpAny _ O.in1 (wR [d,b] >>= _) _ _ m;refine aD (h9 ?_);have B:(m.heap.push {cls:=.type "tuple",data:=.seq #[d,b]}).IsTuple m.heap.objs.size #[d,b]:=⟨_,dH _ rfl,rfl,0,rfl⟩;refine aD (wpAny_pyIter_tuple B<|aD<|h9 ?_);have p:(m.heap.push {cls:=.type "tuple",data:=.seq #[d,b]}).objs.size=m.heap.objs.size+1:=lO ..;have W:=nR.tuple (prog:=Su) (w:=l) (A:=O.in1) ap (m.heap.push {cls:=.type "tuple",data:=.seq #[d,b]}).objs.size m.heap.objs.size (by rw[p];exact dJ (oI _)) #[d,b];rw[o];refine a7 ⟨lb e _,?_⟩;have s:((m.heap.push {cls:=.type "tuple",data:=.seq #[d,b]}).push {cls:=.type "tuple_iterator",data:=.fields #[.ref m.heap.objs.size,.int 0 0]}).IsTupleIter (m.heap.push {cls:=.type "tuple",data:=.seq #[d,b]}).objs.size m.heap.objs.size 0:=⟨_,dH _ rfl,rfl,rfl⟩;have F:=B.push {cls:=.type "tuple_iterator",data:=.fields #[.ref m.heap.objs.size,.int 0 0]};have u:((m.heap.push {cls:=.type "tuple",data:=.seq #[d,b]}).push {cls:=.type "tuple_iterator",data:=.fields #[.ref m.heap.objs.size,.int 0 0]}).objs.size=m.heap.objs.size+2:=by rw[lO,p]
 have dz:∀g n,m.heap.get? g=Z n->((m.heap.push {cls:=.type "tuple",data:=.seq #[d,b]}).push {cls:=.type "tuple_iterator",data:=.fields #[.ref m.heap.objs.size,.int 0 0]}).get? g=Z n:=λg n a=>cw _ (cw _ a);rw[p]at W s;rw[p,u];generalize ca:((m.heap.push {cls:=.type "tuple",data:=.seq #[d,b]}).push {cls:=.type "tuple_iterator",data:=.fields #[.ref m.heap.objs.size,.int 0 0]})=g2 at s F u dz ⊢;have G:(g2.push {cls:=.type "list",data:=.seq ([]:List ae).toArray}).get? (m.heap.objs.size+2)=Z {cls:=.type "list",data:=.seq ([]:List ae).toArray}:=by rw[<-u];exact dH _ rfl
 have w:m.heap.objs.size+2∉[m.heap.objs.size+1]:=by simp
 have H:∀g∈[m.heap.objs.size+1,m.heap.objs.size],m.heap.objs.size+2≠g:=λg f h=>by
  simp only[bL,nZ,ic]at f;rcases f with a|a
  ·rw[a]at h;exact absurd h (k2<|oI _)
  ·rw[a]at h;exact absurd h (k2 (Nat.lt_add_of_pos_right ∅))
 have i:∀g n,m.heap.get? g=Z n->g∉[m.heap.objs.size+1]/\g≠m.heap.objs.size+2:=λg n a=>by
  have lt:=b9 a;refine⟨λh=>?_,dJ<|eK lt<|rN _ _⟩;rw[cO.mp h]at lt;exact jh _ (Nat.lt_of_succ_lt lt)
 have fin:∀(T:a0) (bt:Nat) (j:ae) (I:Nat),(∀g n,m.heap.get? g=Z n->T.get? g=Z n)->T.get? (m.heap.objs.size+2)=Z {cls:=.type "list",dict:=Y,data:=.seq #[j,j] I,slots:=#[]}->
   T.IsTupleIter (m.heap.objs.size+1) m.heap.objs.size 2/\T.IsTuple m.heap.objs.size #[d,b]->j=(if q=V then b else d)->
   codeAny (aQ Su l) O (.builtin k ⟨[.ref (m.heap.objs.size+1),.none,.ref<|m.heap.objs.size+2],[]⟩) (wants E Sn) {m with heap:=T,toks:=bt}:=by
  intro T bt j I S1 J z mv;refine lK r ?_;rw[l3 e _];show wpAny _ O.in1 (qX (.ref<|m.heap.objs.size+2) >>= _) _ _ _;refine aD (iL (s:={m with heap:=T,toks:=bt}) J rfl ?_);show wpAny _ O.in1 (tryCatch (hP<|.ref<|m.heap.objs.size+1) _ >>= _) _ _ _;refine aD (ra<|W.done {m with heap:=T,toks:=bt} _ _ z λD a1 L=>?_);have a2:=L _ _ w J;show wpAny _ O.in1 (updateSeq (m.heap.objs.size+2) (λ_=>#[]) >>= _) _ _ _;refine aD (yK a2 rfl<|aD<|mx<|a7 ?_);show E j _;rw[mv];exact c _ a1 λg n a=>(kl _ _<|fD (i g n a).2).trans (L g n (i g n a).1 (S1 g n a))
 refine lK r ?_;rw[l3 e _];show wpAny _ O.in1 (qX (.ref<|m.heap.objs.size+2) >>= _) _ _ _;refine aD (iL (s:={m with heap:=g2.push {cls:=.type "list",data:=.seq ([]:List ae).toArray} }) G rfl ?_);show wpAny _ O.in1 (tryCatch (hP<|.ref<|m.heap.objs.size+1) _ >>= _) _ _ _;refine aD (ra (W.item 0 {m with heap:=g2.push {cls:=.type "list",data:=.seq ([]:List ae).toArray} } _ _ ↥0 ⟨let ⟨n,bd,be⟩:=s;⟨n,cw _ bd,be⟩,F.push _⟩ λv t cd x bi S1=>?_));cases x;have M:=S1 _ _ w G;show wpAny _ O.in1 (updateSeq (m.heap.objs.size+2) (λ_=>#[d,d]) >>= _) _ _ _;refine aD (yK M rfl ?_);rw[o];refine a7 ⟨lb e _,lK r ?_⟩;have N:=rm (aW.mapSeq<|λ_=>(#[d,d]:Array ae)) M rfl;have bm:=W.frame _ _ (t.update (m.heap.objs.size+2)<|aW.mapSeq<|λ_=>(#[d,d]:Array ae)) bi λg f n a=>(kl _ _<|H g f).trans a;have bn:∀g n,m.heap.get? g=Z n->(t.update (m.heap.objs.size+2)<|aW.mapSeq<|λ_=>(#[d,d]:Array ae)).get? g=Z n:=λg n a=>(kl _ _<|fD (i g n a).2).trans (S1 g n (i g n a).1 (cw _<|dz g n a));rw[l3 e _];show wpAny _ O.in1 (qX (.ref<|m.heap.objs.size+2) >>= _) _ _ _;refine aD (iL N rfl ?_);show wpAny _ O.in1 (tryCatch (hP<|.ref<|m.heap.objs.size+1) _ >>= _) _ _ _;refine aD (ra (W.item 1 _ _ _ ↥0 bm λv bs P x Q R=>?_));cases x;have y:=R _ _ w N;have A:∀g n,m.heap.get? g=Z n->bs.get? g=Z n:=λg n a=>R g n (i g n a).1 (bn g n a);show wpAny _ O.in1 (tryCatch (holding [b,b]<|ny Tc b d >>= _) _ >>= _) _ _ _;refine aD (ra<|fX<|aD<|as _ A _ _ ?_);refine aD (fX<|kT ?_);refine aD (mx<|a7 ?_);cases S:q with
 |true=>
  simp only[je];refine aD (yK y rfl<|aD<|mx ?_);rw[o];have bv:=rm (aW.mapSeq<|λ_=>(#[b,b]:Array ae)) y rfl;refine a7 ⟨lb e _,fin _ P b _ (λg n a=>(kl _ _<|fD (i g n a).2).trans<|A g n a) bv (W.frame _ _ _ Q λg f n a=>(kl _ _<|H g f).trans a) (by rw[S];rfl)⟩
 |false=>
  simp only[k8,ig];refine aD (mx ?_);rw[o];exact a7 ⟨lb e _,fin _ P d _ A y Q (by rw[S];rfl)⟩
end
section
variable{Su:bl}{l:a8}{O:bp}{Sn:ae->av->Prop}{m:av}{d b:ae}{q:Bool}{E:ae->av->Prop}
def Kc(a:O.handled=Y)(e:∀Ss:av,(∀g n,m.heap.get? g=Z n->Ss.heap.get? g=Z n)->∀(E:ae->av->Prop) (Sn:ae->av->Prop),E (.bool q) Ss->wpAny (aQ Su l) O.in1 (ny .Gt b d) E Sn Ss)(c:∀T bt,(∀g n,m.heap.get? g=Z n->T.get? g=Z n)->E (if q=V then b else d) {m with heap:=T,toks:=bt}):wpAny (aQ Su l) O (call (.builtin "max") [d,b]) E Sn m:=
 Ea ∅ F.kind_max F.plain_max F.entry_max F.args_max2 F.plain_max_loop F.entry_max_loop a e c
def I7(a:O.handled=Y)(e:∀Ss:av,(∀g n,m.heap.get? g=Z n->Ss.heap.get? g=Z n)->∀(E:ae->av->Prop) (Sn:ae->av->Prop),E (.bool q) Ss->wpAny (aQ Su l) O.in1 (ny .Lt b d) E Sn Ss)(c:∀T bt,(∀g n,m.heap.get? g=Z n->T.get? g=Z n)->E (if q=V then b else d) {m with heap:=T,toks:=bt}):wpAny (aQ Su l) O (call (.builtin "min") [d,b]) E Sn m:=
 Ea ∅ F.kind_min F.plain_min F.entry_min F.args_min2 F.plain_min_loop F.entry_min_loop a e c
end
def tc(O:bp)(m:av)(A f:ae)(q:Bool):Prop:=(∀(Su:bl) (l:a8) (Sn:ae->av->Prop) (E:ae->av->Prop),E (.bool q) m->wpAny (aQ Su l) O (ny .Gt A f) E Sn m)
section
open PySem.SeqAt
open PySem.AutoSeq1 (wpAny_loadPart')
open PySem.MeetsSeq PySem.MeetsSeq2 PySem.MeetsSeq3
def P9(H b:af)(SM d:Array ae)(s x:Nat)(y z:Option af)(aH C:Array (Option ae))(SA:List (Bool×Bool))(Q:SA.length=min SM.size d.size):
  Meets (bk.«tuple.__gt__» ⟨[.ref H,.ref b],[]⟩)
   (λO Sm m=>m.heap.get? H=Z {cls:=.type "tuple",dict:=y,data:=.seq SM s,slots:=aH}/\m.heap.get? b=Z {cls:=.type "tuple",dict:=z,data:=.seq d x,slots:=C}/\
    (∀B (t:B<SM.size) (D:B<d.size) (k:B<SA.length),EqAt O.in1 m SM[B] d[B] (SA[B]).1/\((SA[B]).1=aq->tc O.in1 m SM[B] d[B] (SA[B]).2))/\
    Sm (.ok<|.ret<|.bool<|hJ (decide (d.size<SM.size)) SA) m):=
 .of_wp λSu l O Sm m c=>by
  let⟨h,N,p,bt,Sy⟩:=m;let@⟨E,F,G,c⟩:=c;have R:=yT;have o:(SM.toList.zip d.toList).length=min SM.size d.size:=by simp
  wp_walk using wpAny_loadPart' E,wpAny_loadPart' F,ri _ (λcR b Ss=>b.1=Y/\Ss=⟨h,N,p,bt,Sy⟩/\∃j,cR=(SM.toList.zip d.toList).drop j/\
   Sm (.ok<|.ret<|.bool<|hJ (decide (d.size<SM.size))<|SA.drop j) ⟨h,N,p,bt,Sy⟩) _
  case turn=>
   rintro⟨A,f⟩ cR b Ss ⟨n,rfl,j,e,g⟩;have r:j<(SM.toList.zip d.toList).length:=by
    rcases kn j (SM.toList.zip d.toList).length with T|T
    ·exact T
    ·rw[nP T]at e;cases e
   have S:j<min SM.size d.size:=o ▸ r;have t:j<SM.size:=⋯
   have D:j<d.size:=⋯
   have k:j<SA.length:=⋯
   rw[kK r]at e;injection e with u I;have J:A=SM[j]:=by have:=congrArg Prod.fst u;simpa using this
   have L:f=d[j]:=by have:=congrArg Prod.snd u;simpa using this
   subst J L;rw[kK k]at g;let@⟨v,w⟩:=G j t D k;generalize SA[j]=M at g v w;let⟨a,q⟩:=M;refine aD (v Su l _ _ ?_);cases a with
   |true=>
    have i:Sm (.ok<|.ret<|.bool<|hJ (decide (d.size<SM.size))<|SA.drop<|j+1) ⟨h,N,p,bt,Sy⟩:=g
    wp_walk
    exact⟨rfl,rfl,j+1,I,i⟩
   |false=>
    have i:Sm (.ok<|.ret<|.bool q) ⟨h,N,p,bt,Sy⟩:=g;have P:=w rfl Su l
    wp_walk using P
    exact⟨_,rfl,by simpa using i⟩
  case fin=>
   rintro⟨dE,cE⟩ Ss ⟨n,rfl,j,e,g⟩;simp only at n;subst n;have U:min SM.size d.size<=j:=by
    rcases kn j (SM.toList.zip d.toList).length with T|T
    ·rw[kK T]at e;cases e
    ·exact o ▸ T
   rw[nP ⋯]at g;have i:Sm (.ok<|.ret<|.bool<|decide (d.size<SM.size)) ⟨h,N,p,bt,Sy⟩:=g
   wp_walk
   exact⟨_,rfl,by simpa [bk.Tuple.tupleCompareSizes] using i⟩
  case h=>
   exact⟨rfl,rfl,0,rfl,by simpa using c⟩
end
def kF(C Sl:List ab):List (Bool×Bool):=((C.zip Sl).map λr=>(cq r.1 r.2,bc r.2 r.1))
def QG(d b:ab):ab.beq d b=ab.beq b d:=by
 rw[qi,ab.beq_iff,ab.beq_iff];exact⟨λc=>c.symm,λc=>c.symm⟩
theorem B3:∀{s:Nat}{C Sl:List ab},fq s C Sl=V->hJ (decide (Sl.length<C.length)) (kF C Sl)=f9 Sl C
 |_,[],[],_=>rfl
 |s,d::u,b::I,c=>by
  rw[fq,cG]at c;show (if cq d b=V then hJ (decide (I.length+1<u.length+1)) (kF u I) else bc b d)=f9 (b::I) (d::u);rw[f9,(pR c.1).2.2,<-B3 c.2,QG,qq.mpr yU]
 |_,[],_::_,_=>rfl
 |_,_::_,[],_=>rfl
def PQ{j B:Int}(a:dk m.heap (.int j) J)(b:dk m.heap (.int B) v):tc O m J v (bc (.int B)<|.int j):=by
 let⟨@I,rfl⟩:=a;let⟨@S4,rfl⟩:=b;intro Su l Sn E o;rw[bc]at o;exact (HM o:wpAny (aQ Su l) O (d6 .Gt (.int j I)<|.int B S4) E Sn m)
def DZ{f A:ab}(H:vz f A)(c:dk m.heap f J)(e:dk m.heap A v):tc O m J v (bc A f):=by
 rcases H with ⟨j,B,rfl,rfl⟩|⟨d,b,rfl,rfl⟩
 ·exact PQ c e
 ·let⟨I,rfl⟩:=c;let⟨S4,rfl⟩:=e;intro Su l Sn E o;rw[bc]at o;exact richCompare_gives (op:=.Gt) (w7 m d I) (w7 m b S4) PySem.F.slot_str_gt PySem.F.entry_str_gt (PySem.F.args_str_gt_2 _ _) (PySem.gives_str_gt d b I S4) (λa=>nomatch a) o
def QL(s:Nat):∀{O:bp}{f A:ab}{J v:ae},ek s f A=V->O.units+s+2<b7->dk m.heap f J->dk m.heap A v->tc O m J v (bc A f):=by
 induction s with
 |zero=>
  intro O f A J v c z e g;rcases nB c with H|⟨M,_,_,a,_⟩
  ·exact DZ H e g
  ·cases a
 |succ s G=>
  intro O f A J v c z e g;rcases nB c with H|⟨M,C,Sl,a,rfl,rfl,c⟩
  ·exact DZ H e g
  cases a;let⟨d,n,Sw,@M,rfl,t,D,h,i⟩:=e;let⟨b,Th,TL,@I,rfl,j,k,p,q⟩:=g;let⟨cls,N,data,aH⟩:=n;let⟨am,P,an,Q⟩:=Th;simp only at D h k p;subst D h k p;have bg:C.length=Sw.size:=by rw[i.length,gT]
  have bx:Sl.length=TL.size:=by rw[q.length,gT]
  intro Su l Sn E o;rw[bc,<-B3 c,bg,bx]at o;have R:(kF C Sl).length=min Sw.size TL.size:=by rw[kF,bu,oJ,bg,bx]
  refine zw (op:=.Gt) ⟨_,t,rfl⟩ ⟨_,j,rfl⟩ PySem.F.slot_tuple_gt PySem.F.entry_tuple_gt (PySem.F.args_tuple_gt_2 _ _) (P9 d b Sw TL M I N P aH Q (kF C Sl) R)
   ⟨t,j,λB S T U=>?_,show ae.bool (hJ (decide (TL.size<Sw.size))<|kF C Sl)≠ae.notImplemented/\E (.bool<|hJ (decide (TL.size<Sw.size))<|kF C Sl) m from ⟨(λf=>nomatch f),o⟩⟩ ⋯;let⟨@Te,r,u⟩:=i.get (B:=B) (v:=Sw[B]) (by rw[hr];simp[S]);let⟨@Tf,w,x⟩:=q.get (B:=B) (v:=TL[B]) (by rw[hr];simp[T]);have lk:=vR c r w;have y:=pR lk;have al:(kF C Sl)[B]=(cq Te Tf,bc Tf Te):=by
   have:(kF C Sl)[B]?=Z (cq Te Tf,bc Tf Te):=by
    rw[kF,gJ,(DN (z:=(Te,Tf))).mpr ⟨r,w⟩];rfl
   rw[fT U]at this;exact Option.some.inj this
  rw[al];exact⟨iU s y.1 y.2.1 (by show O.units+1+s+1<b7;lia) u x,λ_=>G lk (by show O.units+1+s+2<b7;lia) u x⟩
section
variable{e:aK}
def Ma(g:e.calm=V)(k:e.A.units+20<b7):ey e (.builtin "max") (λw h E=>∃(p a:ab) (v J:aj),w=[v,J]/\ek 6 a p=V/\cD h p v/\cD h a J/\E (if bc p a=V then J else v) h):=by
 intro G m y h w SP E i u c;let⟨p,a,v,@J,rfl,lk,t,D,o⟩:=c;let⟨r,@s,rfl,b,f⟩:=ps u;refine Kc (q:=bc p a) (i.ok.hd g) (λSs q E Sn j=>?_) λT bt q=>⟨if bc p a=V then J else v,h,i.kept q,?_,o⟩
 ·exact QL 6 lk (by show e.A.units+1+6+2<b7;lia) ((D.fa i.aR f).keep λd n X X a X X=>q d n a) ((t.fa i.aR b).keep λd n X X a X X=>q d n a) e.prog e.w Sn E j
 ·split
  ·exact f
  ·exact b
def Im(g:e.calm=V)(k:e.A.units+20<b7):ey e (.builtin "min") (λw h E=>∃(p a:ab) (v J:aj),w=[v,J]/\ek 6 a p=V/\cD h p v/\cD h a J/\E (if bc a p=V then J else v) h):=by
 intro G m y h w SP E i u c;let⟨p,a,v,@J,rfl,lk,t,D,o⟩:=c;let⟨r,@s,rfl,b,f⟩:=ps u;refine I7 (q:=bc a p) (i.ok.hd g) (λSs q E Sn j=>?_) λT bt q=>⟨if bc a p=V then J else v,h,i.kept q,?_,o⟩
 ·exact xN 6 lk (by show e.A.units+1+6+2<b7;lia) ((D.fa i.aR f).keep λd n X X a X X=>q d n a) ((t.fa i.aR b).keep λd n X X a X X=>q d n a) e.prog e.w Sn E j
 ·split
  ·exact f
  ·exact b
def rk:hz:=(λC=>match C with
 |[.im (.int j),.im<|.int B]=>yq [.im (.int j),.im<|.int B]
 |[.im (.tup d),.im<|.tup b]=>if ek 6 (.tup b) (.tup d)=V then Z (.im<|if bc (.tup d) (.tup b)=V then .tup b else .tup d) else Y
 |_=>Y)
def p9:hz:=(λC=>match C with
 |[.im (.int j),.im<|.int B]=>vX [.im (.int j),.im<|.int B]
 |[.im (.tup d),.im<|.tup b]=>if ek 6 (.tup b) (.tup d)=V then Z (.im<|if bc (.tup b) (.tup d)=V then .tup b else .tup d) else Y
 |_=>Y)
def O4(c:e.calm=V)(g:e.A.units+20<b7):gH e (.builtin "max") rk:=by
 intro G m y h w SP E i u k;let⟨C,@p,f,a,o⟩:=k;unfold rk at a;split at a
 ·exact Lu c G m y h w SP E i u ⟨_,p,f,a,o⟩
 ·split at a
  ·rename_i d b lk;cases a;let⟨v,@J,rfl,t,D⟩:=tB f;refine Ma c g G m y h _ SP E i u ⟨_,_,v,J,rfl,lk,t,D,bZ.i o ?_⟩;split
   ·exact D
   ·exact t
  ·cases a
 ·cases a
def QC(c:e.calm=V)(g:e.A.units+20<b7):gH e (.builtin "min") p9:=by
 intro G m y h w SP E i u k;let⟨C,@p,f,a,o⟩:=k;unfold p9 at a;split at a
 ·exact Oz c G m y h w SP E i u ⟨_,p,f,a,o⟩
 ·split at a
  ·rename_i d b lk;cases a;let⟨v,@J,rfl,t,D⟩:=tB f;refine Im c g G m y h _ SP E i u ⟨_,_,v,J,rfl,lk,t,D,bZ.i o ?_⟩;split
   ·exact D
   ·exact t
  ·cases a
 ·cases a
end
mutual
def uL:ab->qc
 |.int j=>.int j
 |.au b=>.bool b
 |.str f=>.str f
 |.tup C=>.tuple (q7 C)
 |_=>.none
def q7:List ab->List qc
 |[]=>[]
 |p::u=>uL p::q7 u
end
mutual
theorem Ow{c:a0}:∀{s:Nat}{p:ab}{J:ae},ab.bI s p=V->dk c p J->Reads c J (uL p) []
 |_,.aV,J,_,a=>by cases (show J=.none from a);exact .none
 |_,.au b,J,_,a=>by cases (show J=.bool b from a);exact .bool b
 |_,.int j,J,_,a=>by let⟨@I,rfl⟩:=a;exact .int j I
 |_,.str f,J,_,a=>by let⟨@I,rfl⟩:=a;exact .str f I
 |s+1,.tup C,J,q,a=>by
  let⟨d,n,SM,@M,rfl,t,D,e,g⟩:=a;exact .tuple t D e (EJ (s:=s) q g)
 |0,.tup C,J,q,a=>by cases q
 |s,.fn d,J,q,a=>by cases s<;>cases q
 |s,.aO d,J,q,a=>by cases s<;>cases q
 |s,.fd _,J,q,a=>by cases s<;>cases q
theorem EJ{c:a0}:∀{s:Nat}{C:List ab}{SP:List ae},ab.di s C=V->d2 c C SP->ReadsAll c SP (q7 C) []
 |_,[],SP,_,a=>by rw[show SP=[] from a];exact .nil
 |s,p::C,SP,q,a=>by
  let⟨v,@u,rfl,t,D⟩:=a;rw[ab.di,cG]at q;exact .cons (Ow q.1 t) (EJ q.2 D)
end
mutual
theorem P4:∀p:ab,qc.hasDict (uL p)=aq
 |.aV=>rfl
 |.au _=>rfl
 |.int _=>rfl
 |.str _=>rfl
 |.fn _=>rfl
 |.aO _=>rfl
 |.fd _=>rfl
 |.tup C=>BZ C
theorem BZ:∀C:List ab,qc.hasDictAll (q7 C)=aq
 |[]=>rfl
 |p::u=>by
  show (qc.hasDict (uL p) || PyData.hasDictAll (q7 u))=aq;rw[P4 p,BZ u];rfl
end
section
variable{Su:bl}{l:a8}{O:bp}{Sn:ae->av->Prop}{m:av}
theorem Fx{it I:af}{SM:Array ae}(c:I≠it):∀(s j:Nat) (m:av) (E:List ae->av->Prop),m.heap.IsListIter it I j->m.heap.IsList I SM->j+s<=SM.size->
  (∀T,T.IsListIter it I (j+s)->a0.SameBut it m.heap T->E ((SM.toList.drop j).take s) {m with heap:=T})->wpAny (aQ Su l) O (draw (.ref it) s) E Sn m
 |0,j,m,E,a,_,_,b=>by
  show wpAny _ _ (pure []) E Sn m;exact a7 ⇑(b m.heap a (a0.SameBut.refl ..))
 |s+1,j,m,E,a,d,o,b=>by
  have e:j<SM.size:=⋯
  show wpAny _ _ (hP (.ref it) >>= _) E Sn m;refine aD (Cp a d (x:=SM[j]) (by simp[e]) λp h g=>?_);refine aD (fX (Fx c s (j+1) _ _ h (d.extBut g.extBut c) ⋯ λi k n=>a7 ?_));have hd:SM.toList.drop j=SM[j]::SM.toList.drop (j+1):=by simp[kK,e]
  have:=b i (by rw[show j+(s+1)=j+1+s by lia];exact k) (g.trans n);rw[hd,Gz]at this;exact this
def Lh{E:List ae->av->Prop}(g:O.handled=Y)(c:m.heap.IsList I SM)(h:∀T,a0.ExtBut m.heap.objs.size m.heap T->E SM.toList {m with heap:=T}):wpAny (aQ Su l) O (unpackItems (.ref I) SM.size Y) E Sn m:=by
 have d:I≠m.heap.objs.size:=by let⟨@n,i,X⟩:=c;exact dJ (b9 i)
 unfold unpackItems;refine aD ?_
 ·unfold notIterableAtAll;refine aD (pe c.typeIs F.slot_list_iter.lookup ?_);refine a7 ?_;simp only[k8,ig];refine aD (fX<|tA c ?_);refine aD (fX (Fx d SM.size 0 _ _ ⟨_,dH _ rfl,rfl,rfl⟩ (c.push _) ⋯ λj k e=>?_));have o:List.take SM.size (List.drop 0 SM.toList)=SM.toList:=by
   rw[vx];exact wB ↥0
  rw[o];rw[aT ↥0];have p:j.IsList I SM:=(c.push _).extBut e.extBut d;refine aD (fX (AD g k p ↥0 λq r=>?_));simp only[Option.isSome_none,k8,ig];refine a7 (h q λb n f a=>r b n f<|e.extBut b n f<|cw _ a)
def IM{Sk:dU}{a:List a_}{b}{E:Unit->av->Prop}(d:O.handled=Y)(e:m.heap.IsList I SM)(f:(fc a Sk).length=SM.size)(g:(fc a Sk).findIdx? (·.1)=Y)(c:∀T,a0.ExtBut m.heap.objs.size m.heap T->wpAny (aQ Su l) O (Al ((fc a Sk).map (·.2)) SM.toList) E Sn {m with heap:=T}):
  wpAny (aQ Su l) O (h5 (.Tuple a b SD) Sk<|.ref I) E Sn m:=by
 rw[assign_Tuple];refine aD (u9 ?_);unfold unpack;rw[f,g];exact aD (fX<|Lh d e c)
end
section
variable{e:aK}
def JB(Q:Φ)(s:Nat)(I:i4):gn:=(λv y h E=>∃d w,v=.ref d/\c2 Q h d w/\w.length=s/\I w y h E)
variable{q:Nat}
def La{I:i4}(j:e.calm=V)(c:m2 e Sl I)(k:(fc Sl e.env).length=s:=by rfl)(l:(fc Sl e.env).findIdx? (·.1)=Y:=by rfl):jf e (.Tuple Sl q SD) (JB e.K s I):=by
 intro G m y h v J E i u f;let⟨d,@w,o,p,r,f⟩:=f;subst o;cases u;let⟨@Sw,g,t,A⟩:=i.list p;refine IM (i.ok.hd j) t.isList (by simp[k,<-r,g.length]) l λT x=>?_;have z:aG e G y h {m with heap:=T}:=i.kept (S4:=m.toks) λb n a=>x b n (dJ<|b9 a) a;exact c G _ y h w _ E z ⇑g f
@[simp] def uz(s:Nat)(c:List ak->aP->Option aP):e1:=λp k=>match p with
 |.lst is=>if is.length=s then c (is.map .im) k else Y
 |_=>Y
def NP{SR:List Nat}{c:List ak->aP->Option aP}(j:e.calm=V)(l:qC e SR Sl c)(r:(fc Sl e.env).length=s:=by rfl)(u:(fc Sl e.env).findIdx? (·.1)=Y:=by rfl):hl e SR (.Tuple Sl q SD) (uz s c):=by
 refine uP (La j l r u) λv y h E x=>?_;let⟨k,L,p,Sm,@SG,z,A,ao,f,o⟩:=x;unfold uz at f;split at f
 ·rename_i is;split at f
  ·rename_i B;let⟨d,@w,rfl,t,D,rfl⟩:=A;have C:=dn.mp ao;refine⟨d,w,rfl,c2.of t,by rw[<-D.length];exact B,k,L,_,[],SG,z,zk D,by rw[cp];exact C.1,f,λF P SW Tn G m=>o F P SW Tn G ?_⟩;rw[cp]at m;exact⟨λb n a g=>m.keep b n a λi=>g<|c5 _ i,λb g=>(m.sub b g).imp (λi=>c5 _ i) id,m.ao,m.tup,m.grow⟩
  ·cases f
 ·cases f
end
end L2
namespace G
open L2
variable{Tj Q Tt E y Td Tp S5 e S8:Option ak}{l M:Int}{R SH:List (Int×Int)}{g b d:Int×Int}{q:List ab}{Sx:List (List ab×ab)}{c:ak}{s:Nat}
def oW:bo:=((bS 2<|ac hB (ag<|ac du (ag<|ac du (ag<|ac iR (ah 2)<|ag<|aA<|.int 69621)<|ag<|ac hB (ah 3)<|ag<|aA<|.int 2147483587)<|ag<|aA<|.int 13)<|ag<|aA<|.int 2305843009213693951))
def FC:bo:=((bh (bS 2<|ac du (ag<|aA<|.int 7)<|ag<|ac iR (ag<|aA<|.int 7919)<|ah 1)<|bh (e4 (b8<|ag<|f6 (ah 0) gK<|gy<|aA<|.int 63) (a9 3) G.oW)<|bh (bS 3<|wO (aZ<|ac pG (ag<|bT cH<|ai (ah 0) ay)<|ag<|aA<|.int 0) (ac bD (ah 0)<|ag<|ac hB (ah 1)<|ag<|bT cH<|ai (ah 0) ay)<|aA<|.int 0)<|bh (bS 4<|ac iR (ag<|ac iR (ag<|ac qM (ag<|aA<|.int 10)<|ag<|aA<|.int 60)<|ag<|ac qM (ag<|aA<|.int 10)<|ag<|aA<|.int 60)<|ag<|ac qM (ag<|aA<|.int 10)<|ag<|aA<|.int 60)<|cy<|ec<|ai (ag<|ac iR (ag<|ac hB (ah 3)<|ah 4)<|ag<|bT vInt<|ai (ag<|ac E_ (ah 3)<|ag<|ac qM (ag<|aA<|.int 10)<|ag<|aA<|.int 18) ay)<|ai (ah 2)<|ai (ag<|aA<|.int 0) ay))
def nI:cX:=(c8 2 5 [0,1] FC)
def yd:bo:=((bh (dD (aZ<|ac pG (ag<|ac bD (ah 0)<|ag<|aA<|.int 0)<|ag<|aA<|.int 0) (bh (bS 2<|ac hB (ag<|ac bD (ah 0)<|ag<|aA<|.int 0)<|ah 1)<|bh (g8 (ac mI (ag<|ac bD (ah 0)<|ag<|aA<|.int 0)<|ah 1)<|jj 0 (aA<|.int 0) pN)<|cy<|ed 2) eo)<|bh (g8 (ac du (ag<|ac bD (ah 0)<|ag<|aA<|.int 2)<|ag<|aA<|.int 1)<|jj 0 (aA<|.int 2) pN)<|bh (bS 3<|ac hB (ag<|ac iR (ag<|ac du (ag<|ac bD (ah 0)<|ag<|aA<|.int 1)<|ag<|ac iR (ag<|ac bD (ah 0)<|ag<|aA<|.int 2)<|ag<|aA<|.int 104729)<|ag<|aA<|.int 48271)<|ag<|aA<|.int 2305843009213693951)<|bh (g8 (ac hB (ag<|ac iR (ah 3)<|ag<|ac du (ag<|ac hB (ah 3)<|ag<|aA<|.int 1009)<|ag<|aA<|.int 69621)<|ag<|aA<|.int 2305843009213693951)<|jj 0 (aA<|.int 1) pN)<|cy<|ac hB (ag<|ac mI (ag<|ac bD (ah 0)<|ag<|aA<|.int 1)<|ag<|aA<|.int 1000003)<|ah 1))
def ei:cX:=(c8 2 4 [0,1] yd)
def FX:bo:=((cy<|ec<|ai (ag<|cB<|ai (ag<|ac rr (ag<|ac bD (ah 0)<|ag<|aA<|.int 0)<|ag<|aA<|.int 1)<|ai (ag<|ac bD (ah 0)<|ag<|aA<|.int 1) ay)<|ai (ag<|cB<|ai (ag<|ac bD (ah 0)<|ag<|aA<|.int 0)<|ai (ag<|ac rr (ag<|ac bD (ah 0)<|ag<|aA<|.int 1)<|ag<|aA<|.int 1) ay)<|ai (ag<|cB<|ai (ag<|ac bD (ah 0)<|ag<|aA<|.int 0)<|ai (ag<|ac du (ag<|ac bD (ah 0)<|ag<|aA<|.int 1)<|ag<|aA<|.int 1) ay)<|ai (ag<|cB<|ai (ag<|ac du (ag<|ac bD (ah 0)<|ag<|aA<|.int 0)<|ag<|aA<|.int 1)<|ai (ag<|ac bD (ah 0)<|ag<|aA<|.int 1) ay) ay))
def ip:cX:=(c8 1 1 [0] FX)
def tM:aE ak:=((cB<|ai (ah 0)<|ai (ag<|aA<|.au V) ay))
def nL:bo:=((dD (dM (aZ<|ac eV (ah 5)<|ah 2)<|aZ<|ac fw (ah 5)<|ah 3) (bh (g8 (aA<|.au V)<|jj 3 (ed 5) gV)<|i3<|gU hO 4 lj<|ai (ah 5) ay) eo))
def y8:aE Bool:=((aZ<|ac iS (ah 4)<|ag<|ec ay))
def xk:bo:=((e4 (b8<|ag<|a3 1 G.ip<|ai (ag<|gU hO 4 qe ay) ay) (a9 5) G.nL))
def CC:bo:=((bh (bS 2<|bT nY<|ai (ag<|cm 1 [] (b8<|ah 0) (a9 0) dm G.tM) ay)<|bh (bS 3<|ub (ed 1)<|aA<|.au V)<|bh (bS 4<|ec<|ai (ah 1) ay)<|bh (ie G.y8 G.xk 1000000)<|cy<|bT k4<|ai (ag<|bT mN<|ai (ah 3) ay) ay))
def tV:cX:=(c8 2 6 [0,1] CC)
def sj:bo:=((bh (bS 4<|ac bD (ag<|a3 1 G.ip<|ai (ag<|ac bD (ah 2)<|ag<|a3 2 G.ei<|ai (ah 0)<|ai (ag<|bT cH<|ai (ah 2) ay) ay) ay)<|ag<|a3 2 G.ei<|ai (ah 0)<|ai (ag<|aA<|.int 4) ay)<|dD (dM (aZ<|ac fw (ah 4)<|ah 2)<|dM (aZ<|hW fF fF (ag<|aA<|.int 0) (ag<|ac bD (ah 4)<|ag<|aA<|.int 0)<|ag<|aA<|.int 24)<|aZ<|hW fF fF (ag<|aA<|.int 0) (ag<|ac bD (ah 4)<|ag<|aA<|.int 1)<|ag<|aA<|.int 24) (i3<|gU hO 2 lj<|ai (ah 4) ay) eo))
def E8:bo:=((bh (bS 2<|ec<|ai (ag<|cB<|ai (ag<|aA<|.int 12)<|ai (ag<|aA<|.int 12) ay) ay)<|bh (e4 (jm<|ai (ag<|a3 2 G.ei<|ai (ah 0)<|ai (ah 1) ay) ay) (a9 3) G.sj)<|cy<|ed 2))
def oY:cX:=(c8 2 5 [0,1] E8)
def y9:aE ak:=((cB<|ai (ag<|ac mI (ah 0)<|ah 1)<|ai (ag<|ac hB (ah 0)<|ah 1) ay))
def pd:bo:=((i3<|gU hO 5 q2<|ai (ag<|a3 2 G.ei<|ai (ah 0)<|ai (ag<|bT cH<|ai (ah 5) ay) ay) ay))
def yW:aE ak:=((ed 0))
def uu:aE Bool:=((aZ<|ac d4 (ag<|ac iR (ag<|ac hB (ag<|ac bD (ah 0)<|ag<|aA<|.int 0)<|ag<|aA<|.int 2)<|ag<|ac hB (ag<|ac hB (ag<|ac bD (ah 0)<|ag<|aA<|.int 1)<|ag<|aA<|.int 3)<|ag<|aA<|.int 2)<|ag<|aA<|.int 0))
def m7:aE ak:=((ac bD (ag<|ec<|ai (ag<|aA<|.int 0)<|ai (ag<|aA<|.int 0)<|ai (ag<|aA<|.int 6)<|ai (ag<|aA<|.int 3) ay)<|ag<|a3 2 G.ei<|ai (ah 1)<|ai (ag<|aA<|.int 4) ay))
def uZ:aE ak:=((cB<|ai (ag<|ac du (ag<|ac bD (ah 0)<|ag<|aA<|.int 0)<|ah 1)<|ai (ag<|ac du (ag<|ac bD (ah 0)<|ag<|aA<|.int 1)<|ah 2) ay))
def Es:bo:=((bh (bS 2<|a3 2 G.ei<|ai (ah 0)<|ai (ag<|aA<|.int 6) ay)<|bh (bS 3<|ac du (ag<|aA<|.int 1)<|ag<|a3 2 G.ei<|ai (ah 0)<|ai (ag<|aA<|.int 7) ay)<|bh (bS 4<|ac du (ag<|aA<|.int 1)<|ag<|a3 2 G.ei<|ai (ah 0)<|ai (ag<|bT rk<|ai (ag<|aA<|.int 1)<|ai (ag<|bT p9<|ai (ag<|aA<|.int 7)<|ai (ag<|ac mI (ah 1)<|ah 3) ay) ay) ay)<|bh (bS 5<|cm 1 [3] (jm<|ai (ag<|ac iR (ah 4)<|ah 3) ay) (a9 0) dm G.y9)<|bh (dD (fh (aZ<|ac d4 (ah 2)<|ag<|aA<|.int 1)<|aZ<|ac d4 (ah 2)<|ag<|aA<|.int 2) (e4 (jm<|ai (ag<|a3 2 G.ei<|ai (ah 0)<|ai (ag<|ac du (ag<|aA<|.int 1)<|ag<|ac mI (ag<|bT cH<|ai (ah 5) ay)<|ag<|aA<|.int 2) ay) ay) (a9 6) G.pd)<|dD (aZ<|ac d4 (ah 2)<|ag<|aA<|.int 3) (bS 5<|cm 1 [] (b8<|ah 5) (a9 0) G.uu G.yW)<|dD (aZ<|ac pG (ah 2)<|ag<|aA<|.int 3) (bS 5<|a3 2 G.oY<|ai (ah 0)<|ai (ah 1) ay) eo)<|bh (bS 7<|a3 2 G.tV<|ai (ah 5)<|ai (ag<|ac bD (ah 5)<|ag<|a3 2 G.ei<|ai (ah 0)<|ai (ag<|bT cH<|ai (ah 5) ay) ay) ay)<|bh (g8 (cm 1 [0] (jm<|ai (ag<|aA<|.int 2) ay) (a9 0) dm G.m7)<|uz 2<|eP (a9 8)<|eP (a9 9) ir)<|cy<|bT k4<|ai (ag<|cm 1 [8,9] (b8<|ah 7) (a9 0) dm G.uZ) ay))
def pC:cX:=(c8 2 10 [0,1] Es)
def aa(r:Int×Int):ab:=(.tup [.int r.1,.int r.2])
abbrev aB(SA:List (Int×Int)):ak:=.im (.tup<|SA.map aa)
abbrev aU(SA:List (Int×Int)):ak:=.lst (SA.map aa)
abbrev qt(p m I:Int):ak:=.lst [.int p,.int m,.int I]
def en(s:Nat)(c:ak):Prop:=(∃p m I,c=qt p m I/\0<=p/\0<=m/\m<2^62/\0<=I/\I+s<2^40)
def en.mono{M:Nat}(f:en s c)(a:M<=s):en M c:=by
 let⟨p,m,@I,rfl,t,D,b,d,e⟩:=f;exact⟨p,m,I,rfl,t,D,b,d,⋯⟩
def en.lst(f:en s c):∃o,c=.lst o:=by
 let⟨p,m,@I,rfl,X⟩:=f;exact⟨_,rfl⟩
def gX(f:en (s+1) c)(b:0<M)(g:M<1073741824):∃v T,ei [c,aJ M]=Z (aJ v,[T,aJ M])/\0<=v/\v<M/\en s T:=by
 let⟨p,m,@I,rfl,t,D,h,i,y⟩:=f;have TJ:∀p:Int,dx [ab.int p,.int m,.int I] 0=Z (.int p):=λp=>rfl;have z:¬ M=0:=⋯
 by_cases hd:0<p
 ·refine⟨p%M,qt (p/M) m I,?_,kZ _ ⋯,mS _ b,p/M,m,I,rfl,Bv t ⋯,D,h,i,⋯⟩;have d:dx [ab.int p,.int m,.int I] 0=Z (.int p):=rfl;simp -implicitDefEqProofs [ei,yd,hd,b,g,d,jG]
 ·obtain⟨a,j⟩:∃a:Int,a=(m+(I+1)*104729)*48271%2305843009213693951:=⟨_,rfl⟩;obtain⟨Ss,e⟩:∃Ss:Int,Ss=a*(a%1009+69621)%2305843009213693951:=⟨_,rfl⟩;have k:0<=Ss:=by rw[e];exact kZ _ ∅
  have l:Ss<2^62:=by
   rw[e];have:=mS (a*(a%1009+69621)) (show (0:Int)<2305843009213693951 by decide);lia
  have n:hk (I+1) 104729=V:=m9 ∅ ∅;have o:hk (m+(I+1)*104729) 48271=V:=m9 ∅ ∅;have q:hk a (a%1009+69621)=V:=by
   have A:=kZ a (show (1009:Int)≠0 by decide);have B:=mS a (show (0:Int)<1009 by decide);exact m9 ⋯ ⋯
  refine⟨Ss/1000003%M,qt p Ss<|I+1,?_,kZ _ ⋯,mS _ b,p,Ss,I+1,rfl,t,k,l,⋯,⋯⟩;have d:dx [ab.int p,.int m,.int I] 0=Z (.int p):=rfl;have r:dx [ab.int p,.int m,.int I] 2=Z (.int I):=rfl;have u:dx [ab.int p,.int m,.int<|I+1] 1=Z (.int m):=rfl;have w:dx [ab.int p,.int m,.int<|I+1] 2=Z (.int<|I+1):=rfl;have x:dx [ab.int p,.int Ss,.int<|I+1] 1=Z (.int Ss):=rfl;simp -implicitDefEqProofs [ei,yd,hd,b,g,d,r,u,w,x,jG,n,o,q,<-j,<-e]
theorem Gq:∀(w:List Int) (e S5 Tj S8:Option ak) (m:Int),0<=m->m<2^62->∃b Ss,0<=Ss/\Ss<2^62/\dB (a9 3) oW (w.map .int) [e,S5,Z<|aJ m,Tj,S8]=Z (.aX,[e,S5,Z<|aJ Ss,b,S8])
 |[],e,S5,Tj,S8,m,d,t=>⟨Tj,m,d,t,rfl⟩
 |f::w,e,S5,Tj,S8,m,d,t=>by
  obtain⟨a,c⟩:∃a:Int,a=(m*69621+f%2147483587+13)%2305843009213693951:=⟨_,rfl⟩;have g:0<=a:=by rw[c];exact kZ _ ∅
  have h:a<2^62:=by
   rw[c];have:=mS (m*69621+f%2147483587+13) (show (0:Int)<2305843009213693951 by decide);lia
  let⟨b,@Ss,i,j,k⟩:=Gq w e S5 (Z<|aJ f) S8 a g h;refine⟨b,Ss,i,j,?_⟩;have l:hk m 69621=V:=m9 ∅ ∅;rw[dK,dB];dsimp only;rw[show a9 3 (.im<|.int f) [e,S5,Z<|aJ m,Tj,S8]=Z [e,S5,Z<|aJ m,Z<|aJ f,S8] from rfl];show (oW _).bind _=_;rw[show oW [e,S5,Z<|aJ m,Z<|aJ f,S8]=Z (.aX,[e,S5,Z<|aJ a,Z<|aJ f,S8]) by simp -implicitDefEqProofs [oW,l,<-c]];exact k
def Jp{SN:List Int}{q:Int}(z:0<=q)(A:q<1000):∃c,nI [.dr (SN.map .int),aJ q]=Z (c,[.dr (SN.map .int),aJ q])/\en 1000000 c:=by
 obtain⟨w,h⟩:∃w,fj (SN.map ab.int) Y (Z 63)=w.map .int:=⟨fj SN Y<|Z 63,yh _ _ _ _⟩;let⟨Tj,@m,To,i,j⟩:=Gq w (Z<|.dr<|SN.map .int) (Z<|aJ q) Y Y (7+7919*q) ⋯ ⋯;have k:hk 7919 q=V:=IE ∅ ∅;have l:hk (10^60) (10^60)=V:=by decide +kernel
 have Tz:hk (10^60*10^60) (10^60)=V:=by decide +kernel
 have o:∀f g:Int,hk f (if 10^18<=g then 1 else 0)=V:=λf g=>m9 (by split<;>decide) (by split<;>decide);have e:(10:Nat)<2^64:=by decide
 have p:(0:Int)<10^60*10^60*10^60:=by decide
 have SJ:∀g:Int,en 1000000 (qt (g%(10^60*10^60*10^60)*(if 10^18<=g then 1 else 0)) m 0):=λg=>by
  have t:=kZ g (show (10^60*10^60*10^60:Int)≠0 by decide);refine⟨_,_,_,rfl,?_,To,i,jJ 0,by decide⟩;split
  ·rw[GI];exact t
  ·rw[Int.mul_zero];exact jJ 0
 have r:bS 2 (ac du (ag<|aA<|.int 7)<|ag<|ac iR (ag<|aA<|.int 7919)<|ah 1) [Z (.dr<|SN.map .int),Z<|aJ q,Y,Y,Y]=Z (.aX,[Z (.dr<|SN.map .int),Z<|aJ q,Z<|aJ<|7+7919*q,Y,Y]):=by
  simp -implicitDefEqProofs [k]
 have s:e4 (b8<|ag<|f6 (ah 0) gK<|gy<|aA<|.int 63) (a9 3) G.oW [Z (.dr<|SN.map .int),Z<|aJ q,Z<|aJ<|7+7919*q,Y,Y]=Z (.aX,[Z (.dr<|SN.map .int),Z<|aJ q,Z<|aJ m,Tj,Y]):=
  (uo (n:=Y) (w:=w.map .int) (So:=[Z (.dr<|SN.map .int),Z<|aJ q,Z<|aJ<|7+7919*q,Y,Y]) (by simp -implicitDefEqProofs [h]) j).trans rfl;have cR:∀g:Int,bS 3 (wO (aZ<|ac pG (ag<|bT cH<|ai (ah 0) ay)<|ag<|aA<|.int 0) (ac bD (ah 0)<|ag<|ac hB (ah 1)<|ag<|bT cH<|ai (ah 0) ay)<|aA<|.int 0) [Z (.dr<|SN.map .int),Z<|aJ q,Z<|aJ m,Tj,Y]=Z (.aX,[Z (.dr<|SN.map .int),Z<|aJ q,Z<|aJ m,Z<|aJ g,Y])->
   ∃c,nI [.dr (SN.map .int),aJ q]=Z (c,[.dr (SN.map .int),aJ q])/\en 1000000 c:=λg b=>by
  refine⟨_,?_,SJ g⟩;unfold nI FC;refine sR [Z (.dr<|SN.map .int),Z<|aJ q,Z<|aJ m,Z<|aJ g,Z<|aJ<|10^60*10^60*10^60] rfl ((hh r).trans<|(hh s).trans<|(hh b).trans<|(hh (So:=[Z (.dr<|SN.map .int),Z<|aJ q,Z<|aJ m,Z<|aJ g,Z<|aJ<|10^60*10^60*10^60]) ?_).trans ?_) rfl
  ·simp -implicitDefEqProofs [l,Tz,e,-Int.reducePow,-Nat.reducePow]
  ·simp -implicitDefEqProofs [o,e,p,-Int.reducePow,-Nat.reducePow]
 by_cases u:0<(SN.length:Int)
 ·obtain⟨B,d⟩:∃B:Int,B=q%(SN.length:Int):=⟨_,rfl⟩;have v:0<=B:=by rw[d];exact kZ _ ⋯
  have C:B<SN.length:=by rw[d];exact mS _ u
  obtain⟨g,b⟩:∃g,SN[B.toNat]?=Z g:=⟨SN[B.toNat]'⋯,by simp⟩;have x:dx (SN.map ab.int) B=Z (.int g):=oP v (by rw[gJ,b];rfl);refine cR g ?_;have y:0<SN.length:=⋯
  simp -implicitDefEqProofs [y,<-d,x]
 ·refine cR 0 ?_;have a:SN=[]:=List.length_eq_zero_iff.mp ⋯;subst a;simp -implicitDefEqProofs
def cf(r:Int×Int):List (Int×Int):=([(r.1-1,r.2),(r.1,r.2-1),(r.1,r.2+1),(r.1+1,r.2)])
def t_(r:Int×Int):ip [.im (aa r)]=Z (aU<|cf r,[.im (aa r)]):=by
 have TJ:dx [ab.int r.1,.int r.2] 0=Z (.int r.1):=rfl;have a:dx [ab.int r.1,.int r.2] 1=Z (.int r.2):=rfl;simp -implicitDefEqProofs [ip,FX,aa,cf,TJ,a]
def c_(r:Int×Int):List ab:=([.int r.1,.int r.2])
def pQ(r:Int×Int):aa r=.tup (c_ r):=rfl
def pl(c:c_ d=c_ b):d=b:=by
 unfold c_ at c;simp at c;exact x3 c.1 c.2
def v9(c:aa d=aa b):d=b:=by
 rw[pQ,pQ]at c;exact pl (by injection c)
def ng(r:Int×Int):ab.keys 7 (c_ r)=V:=rfl
def nD:ab->Int×Int
 |.tup [.int d,.int b]=>(d,b)
 |_=>(0,0)
def w_(r:Int×Int):nD (aa r)=r:=rfl
def kQ(r:Int×Int):ab.bI 8 (aa r)=V:=rfl
theorem qV:∀SA:List (Int×Int),ab.di 8 (SA.map aa)=V
 |[]=>rfl
 |r::u=>by rw[dK,ab.di,kQ,qV u];rfl
def ru(d b:Int×Int):cq (aa d) (aa b)=decide (d=b):=by
 show ((d.1==b.1)&&((d.2==b.2)&&V))=_;let⟨a,c⟩:=d;let⟨dE,cE⟩:=b;by_cases t:a=dE<;>by_cases D:c=cE<;>simp[t,D]
def Gp(SA:List (Int×Int))(g:Int×Int):((SA.map aa).any λf=>cq f<|aa g)=decide (g∈SA):=by
 rw[wg,qi,pX,j5];constructor
 ·rintro⟨f,b,a⟩;have:decide (f=g)=V:=by rw[<-ru];exact a
  rw[<-gg this];exact b
 ·intro c;refine⟨g,c,?_⟩;show cq (aa g) (aa g)=V;rw[ru];exact cW rfl
theorem A2:∀(H:List ab) (SH:List (Int×Int)),(∀f∈H,f∈SH.map aa)->H=(H.map nD).map aa
 |[],_,_=>rfl
 |f::H,SH,c=>by
  let⟨@r,X,a⟩:=cV.mp (c f<|.head _);rw[dK,dK,<-A2 H SH λA b=>c A<|.tail _ b,<-a,w_]
def D5{H:List ab}(c:H.Perm (SH.map aa)):∃b:List (Int×Int),b.Perm SH/\H=b.map aa:=by
 refine⟨H.map nD,?_,A2 H SH λf d=>c.mem_iff.mp d⟩;have:=Aq nD c;rw[hI]at this;have a:(nD ∘ aa:Int×Int->Int×Int)=id:=funext w_;rw[a,nd]at this;exact this
def wI(ao:SH.Nodup)(c:SH.length<=63):nE (SH.map aa):=by
 refine⟨⟨by rw[bu];exact c,λd e b g=>?_,?_⟩,.inl λp hd=>?_⟩
 ·let⟨@f,X,rfl⟩:=cV.mp e;let⟨@A,X,rfl⟩:=cV.mp g;rfl
 ·exact NQ aa (λd b s a=>s<|v9 a) ao
 ·let⟨@f,X,rfl⟩:=cV.mp hd;rfl
def qI:(d1 Sx q).isSome=Sx.any λr=>decide (r.1=q):=by
 unfold d1;rw[r4,List.isSome_find?]
def KY{b:List ab}{p:ab}:((fE Sx q p).any λr=>decide (r.1=b))=((Sx.any λr=>decide (r.1=b)) || decide (q=b)):=by
 unfold fE;split
 ·rename_i c;have a:((Sx.map λd=>if d.1=q then (d.1,p) else d).any λr=>decide (r.1=b))=Sx.any λr=>decide (r.1=b):=by
   rw[wg];congr 1;funext r;show decide ((if r.1=q then (r.1,p) else r).1=b)=_;split<;>rfl
  rw[a];by_cases e:q=b
  ·subst e;rw[c];rfl
  ·rw[cN e,Bool.or_false]
 ·rw[List.any_append];simp
theorem DU:∀(SA a:List (List ab×ab)) (q:List ab),((SA.foldl (λd r=>fE d r.1 r.2) a).any λr=>decide (r.1=q))=((a.any λr=>decide (r.1=q)) || SA.any λr=>decide (r.1=q))
 |[],a,q=>by simp
 |r::SA,a,q=>by
  rw[lQ,DU SA _ q,KY,mC,Bool.or_assoc]
def a5(SH:List (Int×Int)):List (List ab×ab):=(SH.map λg=>(c_ g,.au V))
def ua(SH:List (Int×Int))(g:Int×Int):((a5 SH).any λr=>decide (r.1=c_ g))=decide (g∈SH):=by
 unfold a5;rw[wg,qi,pX,j5];constructor
 ·rintro⟨f,b,a⟩;have:c_ f=c_ g:=gg a;rw[<-pl this];exact b
 ·intro c;exact⟨g,c,cW rfl⟩
def PJ(R:List (Int×Int))(g:Int×Int):(d1 (g_<|a5 R)<|c_ g).isSome=decide (g∈R):=by
 rw[qI];unfold g_;rw[DU,ua];rfl
def y6(SH:List (Int×Int))(g:Int×Int):(d1 (a5 SH)<|c_ g).isSome=decide (g∈SH):=by rw[qI,ua]
def D9(c:g∉SH):fE (a5 SH) (c_ g) (.au V)=a5 (SH++[g]):=by
 unfold fE;rw[aT (by rw[ua];simpa using c)];unfold a5;rw[fQ];rfl
def Hy(R:List (Int×Int)):kX (R.map λg=>.tup [aa g,.au V])=Z (a5 R):=by
 induction R with
 |nil=>rfl
 |cons g u a=>
  rw[dK,pQ,kX,a];rfl
def JF(SH:List (Int×Int)):((a5 SH).map λr=>ab.tup r.1)=SH.map aa:=by
 unfold a5;rw[hI];rfl
def PA(SH:List (Int×Int)):((a5 SH).all λr=>ab.keys 7 r.1)=V:=by
 unfold a5;rw[vo,i8];intro g X;rfl
def jk(R SH:List (Int×Int)):Nat:=(R.countP λg=>decide (g∉SH))
def LM(t:g∈R)(D:g∉SH):jk R (SH++[g])<jk R SH:=by
 unfold jk;refine xR (λf c a=>?_) ⟨g,t,cW D,cN λb=>b<|c3 _<|.head _⟩;exact cW λb=>gg a (c5 _ b)
def D7{S0:Type}{Ta:List S0}(c:Ta≠[]):∃a l,Ta=a++[l]:=⟨Ta.dropLast,Ta.getLast c,(List.dropLast_concat_getLast c).symm⟩
def xy(r:Int×Int):dx [ab.int r.1,.int r.2] 0=Z (.int r.1):=rfl
def mJ(r:Int×Int):dx [ab.int r.1,.int r.2] 1=Z (.int r.2):=rfl
def pA{j:Int}(a:0<=j)(c:R[j.toNat]?=Z g):dx (R.map aa) j=Z (aa g):=oP a (by rw[gJ,c];rfl)
def rg(SA:List (Int×Int))(g:Int×Int):eL (aa g) (aU SA)=Z (decide (g∈SA)):=by
 rw[LH,kQ,qV,Gp];rfl
def Ef(SA:List (Int×Int))(g:Int×Int):eL (aa g) (aB SA)=Z (decide (g∈SA)):=by
 rw[PV,kQ,qV,Gp];rfl
def iT(g:Int×Int):Prop:=(0<=g.1/\g.1<25/\0<=g.2/\g.2<25)
def KJ{q:Option ak}(h:en (s+2) c)(o:R≠[])(am:R.length<=500)(v:∀g∈R,iT g):
  ∃T i x,sj [Z c,Z<|aJ M,Z<|aU R,q,S8]=Z (.aX,[Z T,Z<|aJ M,Z<|aU i,q,x])/\en s T/\i≠[]/\i.length<=R.length+1/\∀g∈i,iT g:=by
 have an:=j_.mpr o;let⟨w,@t,y,z,ap,Sr⟩:=gX (s:=s+1) (M:=(R.length:Int)) h ⋯ ⋯;obtain⟨g,d⟩:∃g,R[w.toNat]?=Z g:=⟨R[w.toNat]'⋯,by simp⟩;let⟨l,@D,B,dE,cE,SK⟩:=gX (s:=s) (M:=4) Sr ⋯ ⋯;obtain⟨n,C⟩:∃n,(cf g)[l.toNat]?=Z n:=⟨(cf g)[l.toNat]'(by show l.toNat<4;lia),by simp⟩;have E:=pA z d;have ep:=pA dE C;have F:=t_ g;let⟨@H,rfl⟩:=h.lst;let⟨@as,rfl⟩:=Sr.lst;let⟨@f,rfl⟩:=SK.lst;have m:bS 4 (ac bD (ag<|a3 1 G.ip<|ai (ag<|ac bD (ah 2)<|ag<|a3 2 G.ei<|ai (ah 0)<|ai (ag<|bT cH<|ai (ah 2) ay) ay) ay)<|ag<|a3 2 G.ei<|ai (ah 0)<|ai (ag<|aA<|.int 4) ay) [Z (.lst H),Z<|aJ M,Z<|aU R,q,S8]=Z (.aX,[Z (.lst f),Z<|aJ M,Z<|aU R,q,Z<|.im<|aa n]):=by
  simp -implicitDefEqProofs [y,E,F,B,ep]
 have I:=rg R n;have J:=xy n;have L:=mJ n;obtain⟨k,e⟩:∃k:aP,k=[Z (.lst f),Z<|aJ M,Z<|aU R,q,Z<|.im<|aa n]:=⟨_,rfl⟩;rw[<-e]at m;have N:aZ (ac fw (ah 4)<|ah 2) k=Z (!decide (n∈R),k):=by
  rw[e];show (((eL (aa n)<|aU R).map λu=>ak.im<|.au<|!u).map λp=>(p,[Z (.lst f),Z<|aJ M,Z<|aU R,q,Z<|.im<|aa n])).bind (λr=>(nh r.1).map λb=>(b,r.2))=_;rw[I];rfl
 have O:aZ (hW fF fF (ag<|aA<|.int 0) (ag<|ac bD (ah 4)<|ag<|aA<|.int 0)<|ag<|aA<|.int 24) k=Z (decide (0<=n.1)&&decide (n.1<=24),k):=by
  rw[e];by_cases a:0<=n.1<;>simp -implicitDefEqProofs [aa,J,a]
 have P:aZ (hW fF fF (ag<|aA<|.int 0) (ag<|ac bD (ah 4)<|ag<|aA<|.int 1)<|ag<|aA<|.int 24) k=Z (decide (0<=n.2)&&decide (n.2<=24),k):=by
  rw[e];by_cases a:0<=n.2<;>simp -implicitDefEqProofs [aa,L,a]
 have fin:∀b:Bool,b=(!decide (n∈R)&&((decide (0<=n.1)&&decide (n.1<=24))&&(decide (0<=n.2)&&decide (n.2<=24))))->
   dM (aZ<|ac fw (ah 4)<|ah 2) (dM (aZ<|hW fF fF (ag<|aA<|.int 0) (ag<|ac bD (ah 4)<|ag<|aA<|.int 0)<|ag<|aA<|.int 24)<|aZ<|hW fF fF (ag<|aA<|.int 0) (ag<|ac bD (ah 4)<|ag<|aA<|.int 1)<|ag<|aA<|.int 24) k=Z (b,k):=by
  intro b Q;rw[Q];simp -implicitDefEqProofs only[dM,N,O,P,q9];generalize (decide (0<=n.1)&&decide (n.1<=24))=A;generalize (decide (0<=n.2)&&decide (n.2<=24))=a;cases decide (n∈R)<;>cases A<;>rfl
 unfold sj;by_cases j:n∉R/\0<=n.1/\n.1<=24/\0<=n.2/\n.2<=24
 ·have S:=fin V (by simp[j]);refine⟨.lst f,R++[n],Z<|.im<|aa n,(hh m).trans<|(Dj S).trans ?_,SK,by simp,by simp,λg d=>?_⟩
  ·have bx:R.length<100000:=⋯
   rw[e];simp -implicitDefEqProofs [hO,bx]
  ·rcases dt.mp d with d|d
   ·exact v g d
   ·rw[cO.mp d];exact⟨j.2.1,⋯,j.2.2.2.1,⋯⟩
 ·have al:=fin aq (by
   cases a:(!decide (n∈R)&&((decide (0<=n.1)&&decide (n.1<=24))&&(decide (0<=n.2)&&decide (n.2<=24)))) with
   |false=>rfl
   |true=>
    simp at a;exact absurd ⟨a.1,a.2.1.1,a.2.1.2,a.2.2.1,a.2.2.2⟩ j)
  exact⟨.lst f,R,Z<|.im<|aa n,(hh m).trans ((z6 al).trans (by rw[e];rfl)),SK,o,⋯,v⟩
def KN(j B:Int):rk [.im (.int j),.im<|.int B]=Z (.im<|.int<|if B>j then B else j):=rfl
def Og(j B:Int):p9 [.im (.int j),.im<|.int B]=Z (.im<|.int<|if B<j then B else j):=rfl
theorem CE{S0 TG:Type}(x:S0->TG):∀(H:List S0) (q:Nat),(H.map x).eraseIdx q=(H.eraseIdx q).map x
 |[],_=>rfl
 |_::_,0=>rfl
 |d::H,q+1=>by simp[CE x H q]
def lP(l:Int)(s:Nat):List (Int×Int):=((range s).map λ(q:Nat)=>((0+(q:Int))/l,(0+(q:Int))%l))
def CD(l:Int)(s:Nat):(lP l s).length=s:=by rw[lP,bu,iI]
def Rm(a:0<l)(f:l<=7)(h:(s:Int)<=7*l):∀g∈lP l s,iT g:=by
 intro g b;let⟨q,c,rfl⟩:=cV.mp b;have:=g6.mp c;have d:0<=(0+(q:Int))/l:=Bv ⋯ ⋯;have i:(0+(q:Int))/l<7:=Int.ediv_lt_of_lt_mul a ⋯;have e:=kZ (0+(q:Int)) (show l≠0 by lia);have j:=mS (0+(q:Int)) a;exact⟨d,by show (0+(q:Int))/l<25;lia,e,by show (0+(q:Int))%l<25;lia⟩
def M7{a:Int}(c:0<l)(d:l<=7)(f:0<a)(g:a<=7):
  bS 5 (cm 1 [3] (jm<|ai (ag<|ac iR (ah 4)<|ah 3) ay) (a9 0) dm G.y9) [e,S5,Tp,Z<|aJ l,Z<|aJ a,Td,y,E,Tt,Q]=Z (.aX,[e,S5,Tp,Z<|aJ l,Z<|aJ a,Z<|aU<|lP l (a*l).toNat,y,E,Tt,Q]):=by
 obtain⟨s,b⟩:∃s:Int,s=a*l:=⟨_,rfl⟩;have TQ:0<s:=by rw[b];exact DY f c
 have j:s<=49:=by
  rw[b];have:=zO g d ⋯ ⋯;lia
 have h:rn s:=⟨⋯,⋯⟩;have mk:hk a l=V:=m9 ⋯ ⋯;rw[<-b];refine (yE (p:=aU (lP l s.toNat)) (So:=[e,S5,Tp,Z<|aJ l,Z<|aJ a,Td,y,E,Tt,Q]) ?_ (show 5<10 by decide)).trans rfl;refine (nT (w:=gk 0 s.toNat) (n:=Y) (So:=[e,S5,Tp,Z<|aJ l,Z<|aJ a,Td,y,E,Tt,Q]) ?_ (gm _ (λ(q:Nat)=>aa ((0+(q:Int))/l,(0+(q:Int))%l)) _ (λq k=>?_) (by rw[iI];lia))).trans ?_
 ·simp -implicitDefEqProofs [mk,<-b,h]
 ·have i:l<1073741824:=⋯
  exact⟨[Z (aJ<|0+(q:Int)),Z<|aJ l],_,[Z (aJ<|0+(q:Int)),Z<|aJ l],rfl,rfl,by simp -implicitDefEqProofs [y9,c,i,aa],rfl⟩
 ·show Z (ak.lst _,_)=Z (ak.lst<|(lP l s.toNat).map aa,_);unfold lP;rw[hI];rfl
def Ij(v:Nat){c:ak}{R:List (Int×Int)}{y:Option ak}(h:en (s+200) c)(P:v<R.length)(S:R.length<=100)(o:∀g∈R,iT g):
  ∃T d p,dB (a9 6) pd (gk 0 v) [Z c,S5,Tp,Tj,S8,Z<|aU R,y,E,Tt,Q]=Z (.aX,[Z T,S5,Tp,Tj,S8,Z<|aU d,p,E,Tt,Q])/\en s T/\d≠[]/\d.length<=R.length/\∀g∈d,iT g:=by
 let⟨@SG,q,⟨D,a,@r,rfl,SK,e,u⟩⟩:=w2 (SY:=a9 6) (b:=pd) (w:=gk 0 v) (λj k=>∃c a y,k=[Z c,S5,Tp,Tj,S8,Z<|aU a,y,E,Tt,Q]/\en (s+200-j) c/\a.length+j=R.length/\∀g∈a,iT g) (k:=[Z c,S5,Tp,Tj,S8,Z<|aU R,y,E,Tt,Q]) ⟨c,R,y,rfl,h,rfl,o⟩
  (λj f k x z=>by
   let⟨c,a,@y,rfl,m,Te,A⟩:=z;have Sq:j<v:=by
    have:=(fY.mp x).1
    rwa [gk,bu,iI]at this
   let⟨l,@t,B,C,F,Sr⟩:=gX (s:=s+200-(j+1)) (M:=(a.length:Int)) (m.mono ⋯) ⋯ ⋯;obtain⟨g,i⟩:∃g,a[l.toNat]?=Z g:=⟨a[l.toNat]'⋯,by simp⟩;let⟨@G,rfl⟩:=m.lst;let⟨@n,rfl⟩:=Sr.lst;refine⟨[Z (.lst G),S5,Tp,Tj,S8,Z<|aU a,Z<|.im f,E,Tt,Q],.aX,[Z (.lst n),S5,Tp,Tj,S8,Z<|aU<|a.eraseIdx l.toNat,Z<|.im f,E,Tt,Q],rfl,?_,.inl rfl,.lst n,a.eraseIdx l.toNat,_,rfl,Sr,?_,λg i=>A g<|List.mem_of_mem_eraseIdx i⟩
   ·have H:(a.map aa)[l.toNat]?=Z (aa g):=by rw[gJ,i];rfl
    have I:(0<=l/\l<((a.map aa).length:Int)):=⟨C,by rw[bu];exact F⟩;have J:=CE aa a l.toNat;have L:q2 (aU a) [aJ l]=Z (.im<|aa g,aU<|a.eraseIdx l.toNat):=by
     show (if 0<=l/\l<((a.map aa).length:Int) then _ else Y)=_;rw[aN I,H,J];rfl
    simp -implicitDefEqProofs [pd,hO,B,L,-q2]
   ·rw[List.length_eraseIdx,aN ⋯];lia)
 have N:(gk 0 v).length=v:=by rw[gk,bu,iI]
 rw[N]at SK e;exact⟨D,a,r,q,SK.mono ⋯,λO=>by rw[O]at e;simp at e;lia,⋯,u⟩
def pI(g:Int×Int):Bool:=(decide (g.1%2*(g.2%3%2)=0))
def Ht(b:R.length<=1000):
  bS 5 (cm 1 [] (b8<|ah 5) (a9 0) G.uu G.yW) [e,S5,Tp,Tj,S8,Z<|aU R,y,E,Tt,Q]=Z (.aX,[e,S5,Tp,Tj,S8,Z<|aU<|R.filter pI,y,E,Tt,Q]):=by
 refine (yE (p:=aU (R.filter pI)) (So:=[e,S5,Tp,Tj,S8,Z<|aU R,y,E,Tt,Q]) ?_ (show 5<10 by decide)).trans rfl;refine (nT (w:=R.map aa) (n:=Z (5,aU R)) (So:=[e,S5,Tp,Tj,S8,Z .cL,y,E,Tt,Q]) rfl (kN _ pI aa _ _ (λg c=>?_) (by rw[ju];lia))).trans rfl;have TJ:=xy g;have a:=mJ g;have mk:hk (g.1%2) (g.2%3%2)=V:=by
  have:=kZ (g.2%3) (show (2:Int)≠0 by decide);have:=mS (g.2%3) (show (0:Int)<2 by decide);exact m9 ⋯ ⋯
 refine⟨[Z (.im<|aa g)],[Z (.im<|aa g)],rfl,?_,λ_=>rfl,λ_=>⟨[Z (.im<|aa g)],rfl,rfl⟩⟩;simp -implicitDefEqProofs [uu,aa,TJ,a,mk,pI];rfl
def Mi(c:0<s):(0,0)∈lP l s:=by
 refine cV.mpr ⟨0,g6.mpr c,?_⟩;show ((0:Int)/l,(0:Int)%l)=_;rw[Int.zero_ediv,Int.zero_emod]
def mid:bo:=((dD (fh (aZ<|ac d4 (ah 2)<|ag<|aA<|.int 1)<|aZ<|ac d4 (ah 2)<|ag<|aA<|.int 2) (e4 (jm<|ai (ag<|a3 2 G.ei<|ai (ah 0)<|ai (ag<|ac du (ag<|aA<|.int 1)<|ag<|ac mI (ag<|bT cH<|ai (ah 5) ay)<|ag<|aA<|.int 2) ay) ay) (a9 6) G.pd)<|dD (aZ<|ac d4 (ah 2)<|ag<|aA<|.int 3) (bS 5<|cm 1 [] (b8<|ah 5) (a9 0) G.uu G.yW)<|dD (aZ<|ac pG (ah 2)<|ag<|aA<|.int 3) (bS 5<|a3 2 G.oY<|ai (ah 0)<|ai (ah 1) ay) eo))
def Aa(h:en (s+1) c):∃(m:Int) (T:ak),m7 [e,Z c]=Z (aJ m,[e,Z T])/\0<=m/\m<7/\en s T:=by
 let⟨v,@t,a,i,j,Sr⟩:=gX (s:=s) (M:=4) h ⋯ ⋯;let⟨@k,rfl⟩:=h.lst;let⟨@b,rfl⟩:=Sr.lst;have d:v=0\/v=1\/v=2\/v=3:=⋯
 obtain⟨m,f,To,g⟩:∃m:Int,dx [ab.int 0,.int 0,.int 6,.int 3] v=Z (.int m)/\0<=m/\m<7:=by
  rcases d with rfl|rfl|rfl|rfl
  ·exact⟨0,rfl,by decide,by decide⟩
  ·exact⟨0,rfl,by decide,by decide⟩
  ·exact⟨6,rfl,by decide,by decide⟩
  ·exact⟨3,rfl,by decide,by decide⟩
 exact⟨m,.lst b,by simp -implicitDefEqProofs [m7,a,f],To,g,Sr⟩
def Nu(h:en (s+2) c):∃(m I:Int) (T:ak),g8 (cm 1 [0] (jm<|ai (ag<|aA<|.int 2) ay) (a9 0) dm G.m7) (uz 2<|eP (a9 8)<|eP (a9 9) ir) [Z c,S5,Tp,Tj,S8,Td,y,E,Tt,Q]=Z (.aX,[Z T,S5,Tp,Tj,S8,Td,y,E,Z<|aJ m,Z<|aJ I])/\(0<=m/\m<7/\0<=I/\I<7)/\en s T:=by
 let⟨m,@t,a,To,b,Sr⟩:=Aa (s:=s+1) (e:=Z (aJ 0)) h;let⟨I,@D,d,f,g,SK⟩:=Aa (s:=s) (e:=Z (aJ 1)) Sr;refine⟨m,I,D,?_,⟨To,b,f,g⟩,SK⟩;have dG:gI 1 (a9 0) dm m7 [.int 0,.int 1] [] [Z c]=Z ([.int m,.int I],[Z D]):=by
  show (m7 [Z (aJ 0),Z c]).bind _=_;rw[a];show (m7 [Z (aJ 1),Z t]).bind _=_;rw[d];rfl
 have i:=nT (SX:=[0]) (F:=jm (ai (ag<|aA<|.int 2) ay)) (k:=[Z c,S5,Tp,Tj,S8,Td,y,E,Tt,Q]) (So:=[Z c,S5,Tp,Tj,S8,Td,y,E,Tt,Q]) (n:=Y) (w:=[.int 0,.int 1]) rfl dG;unfold g8;rw[i];rfl
def Jg{a:List (Int×Int)}{m I:Int}(d:a.length<=1000):
  bT k4 (ai (ag<|cm 1 [8,9] (b8<|ah 7) (a9 0) dm G.uZ) ay) [e,S5,Tp,Tj,S8,Td,y,Z<|aB a,Z<|aJ m,Z<|aJ I]=Z (aB<|a.map λg=>(g.1+m,g.2+I),[e,S5,Tp,Tj,S8,Td,y,Z<|aB a,Z<|aJ m,Z<|aJ I]):=by
 have b:cm 1 [8,9] (b8<|ah 7) (a9 0) dm G.uZ [e,S5,Tp,Tj,S8,Td,y,Z<|aB a,Z<|aJ m,Z<|aJ I]=Z (aU<|a.map λg=>(g.1+m,g.2+I),[e,S5,Tp,Tj,S8,Td,y,Z<|aB a,Z<|aJ m,Z<|aJ I]):=by
  refine (nT (w:=a.map aa) (n:=Y) (So:=[e,S5,Tp,Tj,S8,Td,y,Z<|aB a,Z<|aJ m,Z<|aJ I]) rfl (gm _ (λg=>aa (g.1+m,g.2+I)) _ (λg f=>?_) ⋯)).trans ?_
  ·have TJ:=xy g;have c:=mJ g;exact⟨[Z (.im<|aa g),Z<|aJ m,Z<|aJ I],_,[Z (.im<|aa g),Z<|aJ m,Z<|aJ I],rfl,rfl,by simp -implicitDefEqProofs [uZ,aa,TJ,c],rfl⟩
  ·show Z (ak.lst _,_)=Z (ak.lst<|(a.map λg=>(g.1+m,g.2+I)).map aa,_);rw[hI];rfl
 simp -implicitDefEqProofs only[bT,ai,ag,b,q9,p8,FK,He,Qk,Jr,k4,h_]
end G
namespace L2
open Spec PyProof.Rows PySem.W
variable{Q:Φ}{S:bl}{l:a8}
end L2
namespace L2
open Spec PyProof.Rows PySem.W
def JO(k:aP)(j:Nat)(C:List ab):Bool:=(match k[j]? with
 |some (Z<|.lst A)=>decide (A=C)
 |_=>aq)
def B0:ak->ak
 |.im (.aO f)=>.dr f
 |p=>p
@[simp] theorem RX(f:List ab):B0 (.im<|.aO f)=.dr f:=rfl
@[simp] theorem Sh(f:List ab):B0 (.im<|.tup f)=.im (.tup f):=rfl
end L2
namespace L2
section
variable{k So S3:aP}
variable{p:ak}
def hD{N:aE ak}(c:N k=Z (p,So)):ag N k=Z (.bY p,So):=by unfold ag;rw[c];rfl
variable{f:bC}
def j8{N:aE bC}{c:aE (List bC)}{w:List bC}(a:N k=Z (f,So))(b:c So=Z (w,S3)):ai N c k=Z (f::w,S3):=by unfold ai;rw[a];show (c So).map _=_;rw[b];rfl
def rh{Tc:ak->ak->Option ak}{Tx Tq:aE bC}{A:bC}{Te Tf:ak}(a:Tx k=Z (f,So))(b:Tq So=Z (A,S3))(c:dF S3 f=Z Te)(d:dF S3 A=Z Tf)(e:Tc Te Tf=Z p):ac Tc Tx Tq k=Z (p,S3):=by
 unfold ac;rw[a];show (Tq So).bind _=_;rw[b];show (dF S3 f).bind _=_;rw[c];show (dF S3 A).bind _=_;rw[d];show (Tc Te Tf).map _=_;rw[e];rfl
variable{N:aE (List bC)}{s:Nat}{Sy:List bC}{C G:List ak}
def Ly{U:cX}{u:ak}(a:N k=Z (Sy,So))(b:Sy.length=s)(c:eJ Sy So=Z (C,S3))(d:U C=Z (u,G)):a3 s U N k=Z (u,ix Sy G S3):=by
 unfold a3;rw[a];show (if Sy.length=s then _ else _)=_;rw[aN b];show (eJ Sy So).bind _=_;rw[c];show (U C).map _=_;rw[d];rfl
def PC{Tc:List ak->Option ak}(a:N k=Z (Sy,So))(b:hX So Sy=Z C)(c:Tc C=Z p):bT Tc N k=Z (p,So):=by
 unfold bT;rw[a];show (hX So Sy).bind _=_;rw[b];show (Tc C).map _=_;rw[c];rfl
variable{b:Bool}
def LG{N:aE ak}(a:N k=Z (.im<|.au b,So)):aZ N k=Z (b,So):=by unfold aZ;rw[a];rfl
def pM{N:aE Bool}(a:N k=Z (b,So)):eH N k=Z (!b,So):=by unfold eH;rw[a];rfl
def PW{N:aE bC}(a:N k=Z (f,So))(c:dF So f=Z p)(d:pL p=Z b):ez N k=Z (b,So):=by
 unfold ez;rw[a];show (dF So f).bind _=_;rw[c];show (pL p).map _=_;rw[d];rfl
def og{N:aE ak}{c:e1}(a:N k=Z (p,So))(b:c p So=Z S3):g8 N c k=Z (.aX,S3):=by unfold g8;rw[a];show (c p So).map _=_;rw[b];rfl
def o_{N:aE ak}(a:N k=Z (p,So)):i3 N k=Z (.aX,So):=by unfold i3;rw[a];rfl
variable{Ts:aP}{j:Nat}
def oA{ty:ak->Bool}{a5:ak->List ak->Option (ak×ak)}{a g u b:ak}(c:k[j]?=Z (Z a))(d:ty a=V)(e:N k=Z (Sy,So))(f:eJ Sy So=Z (C,S3))(h:S3[j]?=Z (Z g))(i:a5 g C=Z (u,b))(q:S3.set j (Z b)=Ts):gU ty j a5 N k=Z (u,Ts):=by
 subst q;unfold gU;rw[c];show (if ty a=V then _ else _)=_;rw[aN d,e];show (eJ Sy So).bind _=_;rw[f];show (match S3[j]? with|some (Z g)=>_|_=>Y)=_;rw[h];show (a5 g C).map _=_;rw[i];rfl
def qE(a:N k=Z (Sy,So))(b:eJ Sy So=Z (C,S3))(c:C.length<=100000)(q:qk C=p):cB N k=Z (p,S3):=by
 unfold cB;rw[a];show (eJ Sy So).bind _=_;rw[b];show (if _ then _ else _)=_;rw[aN c,q]
def AL(a:N k=Z (Sy,So))(b:eJ Sy So=Z (C,S3))(c:C.length<=100000)(q:rX C=p):ec N k=Z (p,S3):=by
 unfold ec;rw[a];show (eJ Sy So).bind _=_;rw[b];show (if _ then _ else _)=_;rw[aN c,q]
def uC{f:List ab}{p:ab}(c:f.length<100000):lj (.lst f) [.im p]=Z (.im .aV,.lst<|f++[p]):=aN c
def mB(j B:Int):d4 (.im<|.int j) (.im<|.int B)=Z (.im<|.au<|decide (j=B)):=by
 show Z (ak.im<|.au<|j==B)=_;by_cases c:j=B<;>simp[c]
variable{u:Option (jq×aP)}{b:bo}{g:aE Bool}
theorem fC{d:bo}(a:g k=Z (V,So))(c:d So=u):dD g d b k=u:=(Dj a).trans c
theorem eT{d:bo}(a:g k=Z (aq,So))(c:b So=u):dD g d b k=u:=(z6 a).trans c
theorem bH{N c:bo}(a:N k=Z (.aX,So))(q:c So=u):bh N c k=u:=(hh a).trans q
theorem jc{N:aE ak}(a:N k=Z (p,So))(c:j<So.length)(q:So.set j (Z p)=S3):bS j N k=Z (.aX,S3):=(yE a c).trans (by rw[q])
variable{w:List ab}{SY:e1}{n:Option (Nat×ak)}
theorem gS{N:jz}{aO:jq}(a:N k=Z ((w,n),So))(c:dB SY b w So=Z (aO,S3))(q:kI n S3=Ts):e4 N SY b k=Z (aO,Ts):=(uo a c).trans (by rw[q])
theorem gb{own:Nat}{SX:List Nat}{F:jz}{a:aE ak}{b:aP}{C:List ab}(t:F k=Z ((w,n),So))(D:gI own SY g a w [] (jY SX So)=Z (C,b))(q:kI n (iD SX b So)=Ts):cm own SX F SY g a k=Z (.lst C,Ts):=(nT t D).trans (by rw[q])
variable{b d:aE Bool}
def j1(a:d k=Z (V,So)):fh d b k=Z (V,So):=by unfold fh;rw[a];rfl
variable{u:Option (Bool×aP)}
def dO(a:d k=Z (aq,So))(c:b So=u):fh d b k=u:=by unfold fh;rw[a];exact c
def eg(a:d k=Z (V,So))(c:b So=u):dM d b k=u:=by unfold dM;rw[a];exact c
def kB(a:d k=Z (aq,So)):dM d b k=Z (aq,So):=by unfold dM;rw[a];rfl
def hC{N:aE Bool}{b:Bool}(a:N k=Z (b,So)):fu N k=Z (.im<|.au b,So):=by unfold fu;rw[a];rfl
variable{u:ak}
def bO{U:cX}(a:N k=Z (Sy,So))(b:Sy.length=s)(c:eJ Sy So=Z (C,S3))(d:U C=Z (u,G))(q:ix Sy G S3=Ts):a3 s U N k=Z (u,Ts):=by rw[<-q];exact Ly a b c d
def hU{N:aE Bool}(a:N k=Z (V,So)):eH N k=Z (aq,So):=pM a
def o6{N:aE Bool}(a:N k=Z (aq,So)):eH N k=Z (V,So):=pM a
def sm{f A:List ab}(a:N k=Z (Sy,So))(b:hX So Sy=Z [.im (.tup f),.im<|.tup A]):jH N k=Z ((gE f A,Y),So):=by
 unfold jH;rw[a];show (hX So Sy).bind _=_;rw[b];rfl
def oS{N:aE bC}{H c:aE (Option Int)}{Sp Sq:Option Int}{a:ak}(b:N k=Z (f,So))(d:H So=Z (Sp,S3))(e:c S3=Z (Sq,Ts))(g:dF Ts f=Z p)(h:kg p Sp Sq=Z a):f6 N H c k=Z (a,Ts):=by
 unfold f6;rw[b];show (H So).bind _=_;rw[d];show (c S3).bind _=_;rw[e];show (dF Ts f).bind _=_;rw[g];show (kg p Sp Sq).map _=_;rw[h];rfl
def cK{M:Nat}{SR:List Nat}{N:bo}(b:C.length=s)(a:N (C.map Z++replicate (M-s) Y)=Z (.dX u,k))(c:iV SR C k 0=G):c8 s M SR N C=Z (u,G):=sR k b a c
end
section
variable{k So:aP}
variable{p:ak}
def aY{N:aE ak}(c:N k=Z (p,k)):ag N k=Z (.bY p,k):=hD c
variable{f:bC}
def bz{N:aE bC}{c:aE (List bC)}{w:List bC}(a:N k=Z (f,k))(b:c k=Z (w,k)):ai N c k=Z (f::w,k):=j8 a b
variable{Tc:ak->ak->Option ak}{Tx Tq:aE bC}{A:bC}{Te Tf:ak}
def cx(a:Tx k=Z (f,k))(b:Tq k=Z (A,k))(c:dF k f=Z Te)(d:dF k A=Z Tf)(e:Tc Te Tf=Z p):ac Tc Tx Tq k=Z (p,k):=rh a b c d e
def ef(a:Tc Te Tf=Z p)(b:Tx k=Z (f,k):=by rfl)(c:Tq k=Z (A,k):=by rfl)(d:dF k f=Z Te:=by rfl)(e:dF k A=Z Tf:=by rfl):ac Tc Tx Tq k=Z (p,k):=rh b c d e a
variable{N:aE (List bC)}{Sy:List bC}{C:List ak}
def dh{Tc:List ak->Option ak}(a:N k=Z (Sy,k))(b:hX k Sy=Z C)(c:Tc C=Z p):bT Tc N k=Z (p,k):=PC a b c
variable{b:Bool}
def bV{N:aE ak}(a:N k=Z (.im<|.au b,k)):aZ N k=Z (b,k):=LG a
def eO{N:aE bC}(a:N k=Z (f,k))(c:dF k f=Z p)(d:pL p=Z b):ez N k=Z (b,k):=PW a c d
def vB(a:N k=Z (Sy,k))(b:eJ Sy k=Z (C,k))(c:C.length<=100000)(q:qk C=p):cB N k=Z (p,k):=qE a b c q
def C_(a:N k=Z (Sy,k))(b:eJ Sy k=Z (C,k))(c:C.length<=100000)(q:rX C=p):ec N k=Z (p,k):=AL a b c q
def zj{N:aE bC}{H c:aE (Option Int)}{Sp Sq:Option Int}{a:ak}(b:N k=Z (f,k))(d:H k=Z (Sp,k))(e:c k=Z (Sq,k))(g:dF k f=Z p)(h:kg p Sp Sq=Z a):f6 N H c k=Z (a,k):=oS b d e g h
def j2{j:Nat}{N:aE ak}(a:N k=Z (p,k))(c:j<k.length)(q:k.set j (Z p)=So):bS j N k=Z (.aX,So):=jc a c q
end
end L2
namespace G
open L2
def fs{s M:Nat}(c:Nat.ble (s+1) M=V):s<M:=hN c
def Bc{SY:e1}{b:bo}{f:ab}{w:List ab}{k So S3:aP}{u:Option (jq×aP)}(a:SY (.im f) k=Z So)(c:b So=Z (.aX,S3))(q:dB SY b w S3=u):dB SY b (f::w) k=u:=by
 rw[dB];show (SY (.im f) k).bind _=_;rw[a];show (b So).bind _=_;rw[c];exact q
abbrev aI:=Int×Int
variable{b:aI}{R SH:List aI}
inductive df (R:List aI) (m:aI):aI->Prop
 | self:df R m m
 | step {d b:aI}:df R m d->b∈R->b∈cf d->df R m b
def lT(R:List aI):Prop:=(R.Pairwise λd b=>bc (aa d) (aa b)=V)
def HB(ao:SH.Nodup)(a:SH.length<=63):∃R:List aI,iO (SH.map aa)=Z (aU R)/\R.Perm SH/\lT R:=by
 have n:=wI ao a;let⟨R,t,D⟩:=D5 (jB<|SH.map aa);refine⟨R,?_,t,?_⟩
 ·unfold iO;rw[aN (tv.mpr n),D]
 ·have:=uw n.ord.ao n.ord.js;rw[D]at this;exact mX.mp this
structure ml(R:List aI)(b:aI)(SH Ta:List aI)(l:aI)(SN:List aI):Prop where
 ao:SH.Nodup
 qB:b∈SH
 con:∀g∈SH,df R b g
 da:SH.length+jk R SH<=R.length+1
 wl:Ta.length<=SH.length
 e6:∀g∈Ta,g∈SH
 cl:∀g∈SH,g∉Ta->∀p∈cf g,p∈R->p∈SH\/(g=l/\p∈SN)
abbrev hc(e:Option ak)(R:List aI)(b:aI)(SH Ta:List aI)(Td:Option ak):aP:=[e,Z<|.im<|aa b,Z<|.aF<|g_<|a5 R,Z<|.aF<|a5 SH,Z<|aU Ta,Td]
def M6{g l:aI}{Ta SN:List aI}{e:Option ak}(x:R.length<=500)(k:l∈SH)(r:g∈cf l)(S:ml R b SH Ta l (g::SN)):
  ∃m o,nL (hc e R b SH Ta<|Z<|.im<|aa g)=Z (.aX,hc e R b m o<|Z<|.im<|aa g)/\ml R b m o l SN/\l∈m/\2*jk R m+o.length<=2*jk R SH+Ta.length:=by
 have h:(d1 (g_<|a5 R)<|c_ g).isSome=decide (g∈R):=PJ R g;have n:(d1 (a5 SH)<|c_ g).isSome=decide (g∈SH):=y6 SH g;have q:=ng g;have y:=S.da;have z:=S.wl;by_cases t:g∈R
 ·by_cases D:g∈SH
  ·refine⟨SH,Ta,?_,⟨S.ao,S.qB,S.con,S.da,S.wl,S.e6,λf d i p hd j=>?_⟩,k,bq _⟩
   ·rw[cW t]at h;rw[cW D]at n;simp -implicitDefEqProofs [nL,pQ,q,h,n]
   ·rcases S.cl f d i p hd j with c|⟨c,T⟩
    ·exact .inl c
    ·rcases bL.mp T with rfl|T
     ·exact .inl D
     ·exact .inr ⟨c,T⟩
  ·rw[cW t]at h;rw[cN D]at n;have J:=LM t D;refine⟨SH++[g],Ta++[g],?_,⟨?_,c5 _ S.qB,λf d=>?_,?_,by simp;exact S.wl,λf d=>?_,λf d i p hd j=>?_⟩,c5 _ k,by simp;lia⟩
   ·have s:=D9 D;have bg:(a5 SH).length<100000:=by unfold a5;rw[bu];lia
    have bx:Ta.length<100000:=⋯
    simp -implicitDefEqProofs [nL,pQ,q,h,n,s,bg,bx,hO]
   ·exact dn.mpr ⟨S.ao,fk _ _,λf d A u a=>D (by rw[cO.mp u]at a;rw[<-a];exact d)⟩
   ·rcases dt.mp d with d|d
    ·exact S.con f d
    ·rw[cO.mp d];exact .step (S.con l k) t r
   ·rw[dj,fi];lia
   ·rcases dt.mp d with d|d
    ·exact c5 _ (S.e6 f d)
    ·exact c3 _ d
   ·have v:f∈SH:=by
     rcases dt.mp d with d|d
     ·exact d
     ·exact absurd (c3 _ d) i
    rcases S.cl f v (λw=>i<|c5 _ w) p hd j with c|⟨c,T⟩
    ·exact .inl (c5 _ c)
    ·rcases bL.mp T with rfl|T
     ·exact .inl (c3 _<|.head _)
     ·exact .inr ⟨c,T⟩
 ·refine⟨SH,Ta,?_,⟨S.ao,S.qB,S.con,S.da,S.wl,S.e6,λf d i p hd j=>?_⟩,k,bq _⟩
  ·rw[cN t]at h;simp -implicitDefEqProofs [nL,pQ,q,h]
  ·rcases S.cl f d i p hd j with c|⟨c,T⟩
   ·exact .inl c
   ·rcases bL.mp T with rfl|T
    ·exact absurd j t
    ·exact .inr ⟨c,T⟩
theorem Ed{R:List aI}{b l:aI}{e:Option ak}(d:R.length<=500):∀(SN:List aI) {SH Ta:List aI} (Td:Option ak),l∈SH->(∀g∈SN,g∈cf l)->ml R b SH Ta l SN->
  ∃a c i,dB (a9 5) nL (SN.map aa) (hc e R b SH Ta Td)=Z (.aX,hc e R b a c i)/\ml R b a c l []/\2*jk R a+c.length<=2*jk R SH+Ta.length
 |[],SH,Ta,Td,_,_,S=>⟨SH,Ta,Td,rfl,S,bq _⟩
 |g::SN,SH,Ta,Td,j,h,S=>by
  let⟨S1,u,k,m,n,o⟩:=M6 (g:=g) (e:=e) d j (h g<|.head _) S;let⟨S6,p,Tp,q,r,s⟩:=Ed d SN (Z<|.im<|aa g) n (λf t=>h f<|.tail _ t) m;refine⟨S6,p,Tp,?_,r,ee s o⟩;rw[dK,dB];dsimp only;rw[show a9 5 (.im<|aa g) (hc e R b SH Ta Td)=Z (hc e R b SH Ta<|Z<|.im<|aa g) from rfl];show (nL _).bind _=_;rw[k];exact q
def Qw(f:ak)(R:List aI):Prop:=(f=aU R\/f=aB R)
def Ii{f:ak}(v:Qw f R)(B:R.length<=62):∃j:List aI,tV [f,.im<|aa b]=Z (aB j,[f,.im<|aa b])/\lT j/\(∀M,M∈j↔df R b M)/\j.length<=R.length+1/\j.Nodup:=by
 have x:∀g∈R,∃So S3 Ts,a9 0 (.im<|aa g) (replicate 1 Y++jY [] [Z f,Z<|.im<|aa b,Y,Y,Y,Y])=Z So/\dm So=Z (V,S3)/\tM S3=Z (.im<|.tup [aa g,.au V],Ts)/\Ts.drop 1=[]:=λg X=>⟨[Z (.im<|aa g)],_,[Z (.im<|aa g)],rfl,rfl,rfl,rfl⟩;have C:cm 1 [] (b8<|ah 0) (a9 0) dm G.tM [Z f,Z<|.im<|aa b,Y,Y,Y,Y]=Z (.lst<|R.map λg=>.tup [aa g,.au V],[Z f,Z<|.im<|aa b,Y,Y,Y,Y]):=by
  rcases v with rfl|rfl
  ·exact (nT (w:=R.map aa) (n:=Z (0,aU R)) (So:=[Z .cL,Z<|.im<|aa b,Y,Y,Y,Y]) rfl (gm _ (λg=>.tup [aa g,.au V]) _ x ⋯)).trans rfl
  ·exact (nT (w:=R.map aa) (n:=Y) (So:=[Z (aB R),Z<|.im<|aa b,Y,Y,Y,Y]) rfl (gm _ (λg=>.tup [aa g,.au V]) _ x ⋯)).trans rfl
 have q:((a5 R).all λr=>ab.keys 7 r.1)=V/\(a5 R).length<=1000:=⟨PA R,by unfold a5;rw[bu];lia⟩;have D:bS 2 (bT nY<|ai (ag<|cm 1 [] (b8<|ah 0) (a9 0) dm G.tM) ay) [Z f,Z<|.im<|aa b,Y,Y,Y,Y]=Z (.aX,[Z f,Z<|.im<|aa b,Z<|.aF<|g_<|a5 R,Y,Y,Y]):=by
  refine j2 (p:=.aF (g_<|a5 R)) (dh (bz (aY C) rfl) rfl ?_) (fs rfl) rfl;simp -implicitDefEqProofs only[q9,p8,nY,Hy,q.1,q.2,and_self,je]
 have y:ml R b [b] [b] b []:=⟨fk _ _,.head _,λg h=>by rw[cO.mp h];exact .self,by
  have:R.countP (λg=>decide (g∉[b]))<=R.length:=List.countP_le_length;show 1+jk R [b]<=R.length+1;unfold jk;lia,bq _,λg h=>h,λg h o=>absurd h o⟩
 let⟨SG,E,⟨SH,l,Td,rfl,S⟩⟩:=oV (g:=y8) (b:=xk) (λM k=>∃SH Ta l Td,k=hc (Z f) R b SH Ta Td/\ml R b SH Ta l []/\2*jk R SH+Ta.length<=M) (λk=>∃SH l Td,k=hc (Z f) R b SH [] Td/\ml R b SH [] l [])
  (λM k F=>by
   let⟨SH,Ta,H,Td,rfl,S,q⟩:=F;by_cases z:Ta=[]
   ·subst z;exact⟨aq,hc (Z f) R b SH [] Td,rfl,(λm=>by cases m),λ_=>⟨SH,H,Td,rfl,S⟩⟩
   ·let⟨i,l,rfl⟩:=D7 z;have s:y8 (hc (Z f) R b SH (i++[l]) Td)=Z (V,hc (Z f) R b SH (i++[l]) Td):=by
     have I:=qV (i++[l]);have o:fN ((i++[l]).map aa) []=aq:=by
      cases i with
      |nil=>rfl
      |cons d u=>rfl
     have J:iS (aU<|i++[l]) (.lst [])=Z (.im<|.au V):=by
      simp only[iS,I,o];rfl
     exact bV (ef J)
    refine⟨V,_,s,λ_=>?_,(λm=>by cases m)⟩;have L:ml R b SH i l (cf l):=⟨S.ao,S.qB,S.con,S.da,by have:=S.wl;simp at this;lia,λg h=>S.e6 g<|c5 _ h,λg h o p hd N=>by
     by_cases A:g=l
     ·subst A;exact .inr ⟨rfl,hd⟩
     ·rcases S.cl g h (λm=>(dt.mp m).elim o λm=>A<|cO.mp m) p hd N with c|⟨_,c⟩
      ·exact .inl c
      ·cases c⟩
    let⟨S6,t,Tp,O,P,an⟩:=Ed (e:=Z f) (ee B ∅) (cf l) Td (S.e6 l<|c3 _<|.head _) (λg h=>h) L;refine⟨.aX,hc (Z f) R b S6 t Tp,?_,.inl rfl,2*jk R S6+t.length,?_,S6,t,l,Tp,rfl,P,bq _⟩
    ·unfold xk;refine gS (n:=Y) (w:=(cf l).map aa) (So:=hc (Z f) R b SH i Td) ?_ O rfl;have Q:((i++[l]).map aa).getLast?=Z (aa l):=by simp
     have hd:((i++[l]).map aa).dropLast=i.map aa:=by simp
     have a:=t_ l;simp -implicitDefEqProofs only[b8,ag,a3,ai,gU,List.getElem?_cons_zero,List.getElem?_cons_succ,hO,je,FK,q9,HD,qe,Q,hd,p8,HR,dA,ju,a];simp -implicitDefEqProofs [a,h_]
    ·simp at q;lia) 1000000 _ (hc (Z f) R b [b] [b] Y) ⟨[b],[b],b,Y,rfl,y,bq _⟩ (by
    have:=y.da;simp;simp at this;lia)
 let⟨j,T,Tb,up⟩:=HB S.ao (by have:=S.da;lia);refine⟨j,?_,up,λM=>Tb.mem_iff.trans ⟨S.con M,λc=>?_⟩,by rw[Tb.length_eq];have:=S.da;lia,Tb.nodup_iff.mpr S.ao⟩
 ·have al:mN [.aF (a5 SH)]=Z (aU j):=by
   show iO ((a5 SH).map λr=>.tup r.1)=Z (aU j);rw[JF];exact T
  unfold tV CC;exact cK (k:=hc (Z f) R b SH [] Td) rfl (bH D<|bH (So:=[Z f,Z<|.im<|aa b,Z<|.aF<|g_<|a5 R,Z<|.aF<|a5 [b],Y,Y]) rfl<|bH (So:=hc (Z f) R b [b] [b] Y) rfl<|bH E<|et<|dh (bz (aY<|dh (bz rfl rfl) rfl al) rfl) rfl rfl) (by rcases v with rfl|rfl<;>rfl)
 ·induction c with
  |self=>exact S.qB
  |step _ s hd am=>
   rcases S.cl _ am (λm=>nomatch m) _ hd s with c|⟨_,c⟩
   ·exact c
   ·cases c
end G
namespace L2
open Spec PyProof.Rows
end L2
namespace L2
open Spec PyProof.Rows PySem.W
end L2
namespace L2
open Spec PyProof.Rows
variable{c Tq Tx:aE bC}{b d a:a_}{Sl:List a_}{SD r:cn}{q s:Nat}{N:aE (List bC)}{SR:List Nat}{SS SA:List aC}{x:af}{z:bQ}{Tu f:aC}{Q:Φ}{U:cX}
def oN:fZ:=(λd b=>match d,b with
 |.im f,.im A=>if ek 6 f A=V then Z (.im<|.au<|bc f A) else Y
 |_,_=>Y)
section
variable{e:aK}
def wo(q:e.A.units+20<b7):eX e (d6 .Lt) oN:=by
 intro G m y h f A v J E i b c d;let⟨Te,Tf,@p,g,k,a,o⟩:=d;unfold oN at a;split at a
 ·split at a
  ·rename_i n;cases a;exact xN 6 n ⋯ (g.i.fa i.aR b) (k.i.fa i.aR c) e.prog e.w _ _ ⟨.au _,h,i,rfl,bZ.i o rfl⟩
  ·cases a
 ·cases a
end
def Kp:uj (.type "list_reverseiterator") "__len__" = pure Y:=by rw[vV,vE];kernel_rfl
def PT:uj (.type "list_reverseiterator") "__length_hint__" = pure (Z<|.builtin "list_reverseiterator.__length_hint__"):=by rw[vV,vE];kernel_rfl
section
variable{Su:bl}{l:a8}{O:bp}{m:av}{Sm:oH->av->Prop}{i:af}{bb A:List af}{U:Array nW->Array nW->Prop}{s:Nat}{S:Nat->ae->Prop}{aS:Nat->av->Prop}
def QW(W:WalksS Su l O.in1 i bb A U s S aS)(e:∀j m,aS j m->m.TypeIs (.ref i) "list_reverseiterator")(SF:af)(h:ae)(o:Nat)(c:aS 0 m)(k:SF∉bb)(p:i∈bb)(q:m.heap.get? SF=Z {cls:=.type "list",data:=.seq #[] o})(r:∀Ss f d,Moved (SF::A) U m Ss->Ss.heap.get? SF=Z {cls:=.type "list",dict:=Y,data:=.seq f d,slots:=#[]}->qU S f s->Sm (.ok<|.ret h) Ss)(u:s<=sizeLine):
  wpAny (aQ Su l) O.in1 (bk.List.listExtendWith (.ref SF) (.ref i) h)
   (λfin Ss=>match fin with | .done x=>Sm (.ok x) Ss | .again d=>d.quiet=V/\codeAny (aQ Su l) O d Sm Ss) (λa Ss=>Sm (.error a) Ss) m:=by
 have v:SF≠i:=λa=>k (a ▸ p);have t:bk.List.listSameRef (.ref SF) (.ref i)=aq:=by simp[bk.List.listSameRef,v]
 unfold bk.List.listExtendWith;refine aD (wpAny_typeOf (e 0 _ c) ?_);rw[aT (by rw[t];decide)];refine aD (W.self 0 _ _ _ c<|aD<|fX ?_);unfold bk.List.listLengthHint;refine aD (pe (e 0 _ c) Kp ?_);show wpAny _ O.in1 (specialOf (ae.ref i) (aC.ofString "__length_hint__") >>= _) _ _ _;refine aD (pe (e 0 _ c) PT ?_)
 (generalize g:("list_reverseiterator.__length_hint__" : String)=n;(fail_if_success (clear g n));wp_delta;rw[show splitId n=Z ("list_reverseiterator","__length_hint__") from by subst g;decide +kernel];subst g)
 refine aD (vq (b:=V) (e 0 _ c) (by rw[isSubtype_type];kernel_rfl) ?_);refine a7 ?_;rw[aT ∅];exact a7 ⟨lb F.plain_extend_loop _,codeAny_extend_loopS W u _ k _ s 0 _ _ _ rfl (hi _) c q (qU.nil S) λSs f d w y z=>r Ss f d w y z⟩
end
def rM:List (af×aW)->Bool
 |[]=>V
 | (_,n)::u=>(match n.data with
  |.seq _ _=>(match n.cls with | .type s=>s != "list" |_=>V)
  |_=>V)&&rM u
def Qh{Q:List (af×aW)}{d:af}{n:aW}{Sw:Array ae}(c:rM Q=V)(a:Q.lookup d=Z n)(e:n.cls=.type "list")(hd:n.data=.seq Sw s):False:=by
 induction Q with
 |nil=>cases a
 |cons r u g=>
  let⟨b,f⟩:=r;rw[rM,cG]at c;simp only[List.lookup]at a;split at a
  ·cases a;have t:=c.1;rw[hd]at t;dsimp only at t;rw[e]at t;exact absurd t ∅
  ·exact g c.2 a
theorem EH{h:ax}:∀SN:List Int,bF h (SN.map .int) (SN.map aj.int)
 |[]=>rfl
 |s::u=>⟨.int s,_,rfl,rfl,EH u⟩
def I3(e:rM Q=V)(h:ax)(d:af)(SN:List Int)(f:qA h)(g:c2 Q h d (SN.map aj.int))(b:∃G,U [.dr (SN.map .int)]=Z (.im<|.au V,G)){Sn:fA}:jA 1 U [.ref d] h (λv X=>v=.au V) Sn:=by
 let⟨@G,b⟩:=b;have j:∃n,h d=Z (.dq n<|.lst<|SN.map aj.int):=by
  rcases g with (c|c)|⟨n,Sw,s,t,D,m,k,_⟩
  ·rcases f d with a|⟨n,w,a⟩|⟨w,a⟩
   ·rw[a]at c;cases c
   ·rw[a]at c;cases c
   ·rw[a]at c;cases c
  ·exact c
  ·exact (Qh e t D k).elim
 let⟨@n,l⟩:=j;refine⟨rfl,[.dr (SN.map .int)],[],.im<|.au V,G,⟨_,_,[],[],rfl,⟨d,_,n,rfl,l,EH SN,rfl⟩,⟨rfl,rfl⟩,rfl⟩,jX,b,λv P Sm i c X X=>?_⟩;exact c.1
def hH{SP:List ae}(c:SP.length=s+1):∃d u,SP=d::u/\u.length=s:=by
 cases SP with
 |nil=>cases c
 |cons d u=>exact⟨d,u,rfl,Nat.succ.inj c⟩
def ft.MG{fd:f3}(L:ft Q f Tu z x fd)(c:∀(b3 k Tb:ae) (B:Option af) (S7 bX:ae) (d:ae),jg (Θ f Tu (gZ z) (fy z) (c9 z) .none b3 k Tb B S7 bX) ⟨[d],[]⟩=pure (SA.zip [d]))(b:SA.length=1:=by rfl):gQ Q fd SA []:=
 L.binds λb3 k Tb B S7 bX SP a=>by
  replace a:=a.trans b;let⟨d,@e,rfl,t⟩:=hH a;obtain rfl:=qg t;exact c b3 k Tb B S7 bX d
def ft.LW{fd:f3}(L:ft Q f Tu z x fd)(c:∀(b3 k Tb:ae) (B:Option af) (S7 bX:ae) (d b:ae),jg (Θ f Tu (gZ z) (fy z) (c9 z) .none b3 k Tb B S7 bX) ⟨[d,b],[]⟩=pure (SA.zip [d,b]))(e:SA.length=2:=by rfl):gQ Q fd SA []:=
 L.binds λb3 k Tb B S7 bX SP a=>by
  replace a:=a.trans e;let⟨d,@g,rfl,t⟩:=hH a;let⟨b,@h,rfl,D⟩:=hH t;obtain rfl:=qg D;exact c b3 k Tb B S7 bX d b
def ft.Md{fd:f3}(L:ft Q f Tu z x fd)(c:∀(b3 k Tb:ae) (B:Option af) (S7 bX:ae) (d b g:ae),jg (Θ f Tu (gZ z) (fy z) (c9 z) .none b3 k Tb B S7 bX) ⟨[d,b,g],[]⟩=pure (SA.zip [d,b,g]))(e:SA.length=3:=by rfl):gQ Q fd SA []:=
 L.binds λb3 k Tb B S7 bX SP a=>by
  replace a:=a.trans e;let⟨d,@i,rfl,t⟩:=hH a;let⟨b,@j,rfl,D⟩:=hH t;let⟨g,@l,rfl,h⟩:=hH D;obtain rfl:=qg h;exact c b3 k Tb B S7 bX d b g
def ft.GY{fd:f3}(L:ft Q f Tu z x fd)(c:∀(b3 k Tb:ae) (B:Option af) (S7 bX:ae) (d b g p:ae),jg (Θ f Tu (gZ z) (fy z) (c9 z) .none b3 k Tb B S7 bX) ⟨[d,b,g,p],[]⟩=pure (SA.zip [d,b,g,p]))(e:SA.length=4:=by rfl):gQ Q fd SA []:=
 L.binds λb3 k Tb B S7 bX SP a=>by
  replace a:=a.trans e;let⟨d,@j,rfl,t⟩:=hH a;let⟨b,@l,rfl,D⟩:=hH t;let⟨g,@m,rfl,h⟩:=hH D;let⟨p,@n,rfl,i⟩:=hH h;obtain rfl:=qg i;exact c b3 k Tb B S7 bX d b g p
def ft.Jv{fd:f3}(L:ft Q f Tu z x fd)(c:∀(b3 k Tb:ae) (B:Option af) (S7 bX:ae) (d b g p a:ae),jg (Θ f Tu (gZ z) (fy z) (c9 z) .none b3 k Tb B S7 bX) ⟨[d,b,g,p,a],[]⟩=pure (SA.zip [d,b,g,p,a]))(h:SA.length=5:=by rfl):gQ Q fd SA []:=
 L.binds λb3 k Tb B S7 bX SP e=>by
  replace e:=e.trans h;let⟨d,@m,rfl,t⟩:=hH e;let⟨b,@n,rfl,D⟩:=hH t;let⟨g,@o,rfl,i⟩:=hH D;let⟨p,@q,rfl,j⟩:=hH i;let⟨a,@r,rfl,l⟩:=hH j;obtain rfl:=qg l;exact c b3 k Tb B S7 bX d b g p a
structure eR where
 P:bl
 w:a8
 K:Φ
 aw:aC->Option ae
 base:a0
def c1(Q:Φ)(f:aC)(z:bQ)(x:af):Prop:=(∃fd,ft Q f f z x fd/\Ψ Q cT f=Z (Z<|.ref x))
def dd(Q:Φ)(aw:aC->Option ae)(f:aC)(z:bQ)(x:af)(SA:List aC):Prop:=(∃fd,ft Q f f z x fd/\gQ Q fd SA []/\aw f=Z (.ref x))
def b5(S:bl)(l:a8)(Q:Φ)(aw:aC->Option ae)(Sz:a0)(q:Nat)(f:aC)(z:bQ)(x:af)(SA:List aC)(s:Nat)(U:cX):Prop:=(∃fd,ft Q f f z x fd/\gQ Q fd SA []/\aw f=Z (.ref x)/\gG S l Q aw Sz hK q x fd SA (jA s U))
abbrev fp(g:eR):=b5 g.P g.w g.K g.aw g.base
def Dk{TV:ae}{F B:Option af}{TY:Array (Option ae)}{b3 k Tb S7 bX:ae}(d:Ψ Q cT f=Z (Z<|.ref x))(H:Q.lookup x=Z ⟨TV,F,.func<|Θ f f (gZ z) (fy z) (c9 z) .none b3 k Tb B S7 bX,TY⟩)(g:Φb Q S7 f=V)(q:Γ Q (.ref x)=V):c1 Q f z x:=⟨_,HX H g q,d⟩
section
variable{S:bl}{l:a8}{Q:Φ}{aw:aC->Option ae}{Sz c:a0}{q s:Nat}{f:aC}{z:bQ}{x:af}{SA:List aC}{U:cX}
def c1.dE(u:c1 Q f z x)(e:Q.In c)(b:c.Ns cT aw)(g:∀(b3 k Tb:ae) (B:Option af) (S7 bX d:ae),jg (Θ f f (gZ z) (fy z) (c9 z) .none b3 k Tb B S7 bX) ⟨[d],[]⟩=pure (SA.zip [d]):=by intros;rfl)(h:SA.length=1:=by rfl):dd Q aw f z x SA:=
 have ⟨_,a,d⟩:=u
 ⟨_,a,a.MG g h,gB e b d⟩
def c1.cE(u:c1 Q f z x)(e:Q.In c)(g:c.Ns cT aw)(h:∀(b3 k Tb:ae) (B:Option af) (S7 bX d b:ae),jg (Θ f f (gZ z) (fy z) (c9 z) .none b3 k Tb B S7 bX) ⟨[d,b],[]⟩=pure (SA.zip [d,b]):=by intros;rfl)(i:SA.length=2:=by rfl):dd Q aw f z x SA:=
 have ⟨_,a,d⟩:=u
 ⟨_,a,a.LW h i,gB e g d⟩
def c1.mQ(u:c1 Q f z x)(e:Q.In c)(h:c.Ns cT aw)(i:∀(b3 k Tb:ae) (B:Option af) (S7 bX d b g:ae),jg (Θ f f (gZ z) (fy z) (c9 z) .none b3 k Tb B S7 bX) ⟨[d,b,g],[]⟩=pure (SA.zip [d,b,g]):=by intros;rfl)(j:SA.length=3:=by rfl):dd Q aw f z x SA:=
 have ⟨_,a,d⟩:=u
 ⟨_,a,a.Md i j,gB e h d⟩
def c1.lB(u:c1 Q f z x)(e:Q.In c)(h:c.Ns cT aw)(i:∀(b3 k Tb:ae) (B:Option af) (S7 bX d b g p:ae),jg (Θ f f (gZ z) (fy z) (c9 z) .none b3 k Tb B S7 bX) ⟨[d,b,g,p],[]⟩=pure (SA.zip [d,b,g,p]):=by intros;rfl)(j:SA.length=4:=by rfl):dd Q aw f z x SA:=
 have ⟨_,a,d⟩:=u
 ⟨_,a,a.GY i j,gB e h d⟩
def c1.l6(u:c1 Q f z x)(e:Q.In c)(i:c.Ns cT aw)(j:∀(b3 k Tb:ae) (B:Option af) (S7 bX d b g p a:ae),jg (Θ f f (gZ z) (fy z) (c9 z) .none b3 k Tb B S7 bX) ⟨[d,b,g,p,a],[]⟩=pure (SA.zip [d,b,g,p,a]):=by intros;rfl)(l:SA.length=5:=by rfl):dd Q aw f z x SA:=
 have ⟨_,h,d⟩:=u
 ⟨_,h,h.Jv j l,gB e i d⟩
def b5.m(az:b5 S l Q aw Sz q f z x SA s U):aw f=Z (.ref x):=have ⟨_,_,_,M,_⟩:=az;M
def b5.fd{fd:f3}(az:b5 S l Q aw Sz q f z x SA s U)(c:ft Q f f z x fd):gG S l Q aw Sz hK q x fd SA (jA s U):=by
 let⟨@e,d,X,X,N⟩:=az;let⟨TV,F,b3,k,Tb,B,S7,bX,@TY,a,H,X⟩:=c.ex;let⟨g,h,i,j,m,n,o,p,@r,t,b,X⟩:=d.ex;rw[H]at b;cases b;exact N
def MQ(u:c1 Q f z x)(e:Q.In c)(g:c.Ns cT aw){eD:af}(h:aw f=Z (.ref eD)){r:aC}(i:∀(b3 k Tb:ae) (B:Option af) (S7 bX:ae) (m:av) (v:ae),l_ m (Θ f f (gZ z) (fy z) (c9 z) .none b3 k Tb B S7 bX) ⟨[v],[]⟩ [(r,v)])(az:∀Sz,b5 S l Q aw Sz q f z x [r] s U):
  ∃fd:f3,(∀(m:av) (v:ae),l_ m fd ⟨[v],[]⟩ [(r,v)])/\∀Sz:a0,Q.In Sz->Sz.Ns cT aw->gG S l Q aw Sz hK q eD fd [r] (jA s U):=by
 let⟨@fd,a,d⟩:=u;cases h.symm.trans (gB e g d);refine⟨fd,?_,λb X X=>(az b).fd a⟩;let⟨TV,F,b3,k,Tb,B,S7,bX,@TY,rfl,H,X⟩:=a.ex;exact i b3 k Tb B S7 bX
def L8{N:bo}(L:dd Q aw f z x SA)(SF:kj SS SA (c9 z))(c:SA.length=s)(d:∀j∈SR,j<s)(e:SS.Nodup->∀(S7:ae) (O:bp) (S2:List dU) (m:av) (h:ax) (Sn:fA),d_ q (O.deeper<|ib f (c9 z) m.heap.objs.size x S7)->hE (h7 hK S l Q aw Sz SS f (c9 z) x S7 O S2 m h Sn).nJ SR (fy z) N):
  b5 S l Q aw Sz (q+1) f z x SA s (c8 s SS.length SR N):=
 have ⟨_,a,b,M⟩:=L
 ⟨_,a,b,M,JM a SF c d<|e SF.ao⟩
end
section
variable{e:aK}
variable{M:Nat}
def Ir(az:b5 e.prog e.w e.K e.aw e.base q f z x SA s U)(c:d_ M e.A)(d:dP e f)(g:fl e (a::Sl) N)(h:q<=M:=by decide)(i:(f==("__debug__" : aC))=aq:=by decide)(j:bw (a::Sl) e.env=(aq,b1 a e.env)::bw Sl e.env:=by rfl)(k:(e8 SD<|bw Sl e.env).any (·.1)=aq:=by rfl):
  b4 e (.Call (.Name f r) (a::Sl) [] SD) (a3 s U N):=
 have ⟨_,m,b,M,L⟩:=az
 Li L (c.mono h) d M m.dz b g i j k
def xt{j:Nat}{A:aC}(az:b5 e.prog e.w e.K e.aw e.base q A z x SA s U)(c:d_ M e.A)(d:bE e (.Name f r) (kR j))(g:fl e (a::Sl) N)(h:q<=M:=by decide)(i:bw (a::Sl) e.env=(aq,b1 a e.env)::bw Sl e.env:=by rfl)(k:(e8 SD<|bw Sl e.env).any (·.1)=aq:=by rfl):
  b4 e (.Call (.Name f r) (a::Sl) [] SD) (o9 j x s U N):=
 have ⟨_,m,b,_,L⟩:=az
 Q2 L (c.mono h) d m.dz b g i k
def a4{j:Int}{B SD}:dv e (.Constant (.int j) B SD) (ag<|aA<|.int j):=aM gs
def ar(j:Nat){f:aC}{SD:cn}(a:e.N[j]?=Z f:=by rfl)(b:t5 e.env.scope f:=by first|exact Or.inl rfl|exact Or.inr (Or.inl rfl)|exact Or.inr (Or.inr rfl))(hd:(f==("__debug__" : aC))=aq:=by decide)(c:(f==("__classdict__" : aC))=aq:=by decide):dv e (.Name f SD) (ah j):=K5 (z5 a b hd c)
def bj{N:aE bC}(b:dv e a N)(c:bw [a] e.env=(aq,b1 a e.env)::bw [] e.env:=by rfl):fl e [a] (ai N ay):=de b lY c
def iz(a:d_ M e.A)(c:dv e d Tx)(f:dv e b Tq)(g:u3 b:=by exact λ_ X=>rfl):b4 e (.Subscript d b SD) (ac bD Tx Tq):=KW (NH (by have:=a.un;lia)) c f g
def bU{x:a_}{N:aE bC}(b:dv e a N)(d:dv e x c)(f:bw [a,x] e.env=(aq,b1 a e.env)::bw [x] e.env:=by rfl)(D:bw [x] e.env=(aq,b1 x e.env)::bw [] e.env:=by rfl):fl e [a,x] (ai N<|ai c ay):=de b (bj d D) f
def fz{x p:a_}{N q:aE bC}(b:dv e a N)(d:dv e x c)(hd:dv e p q)(f:bw [a,x,p] e.env=(aq,b1 a e.env)::bw [x,p] e.env:=by rfl)(t:bw [x,p] e.env=(aq,b1 x e.env)::bw [p] e.env:=by rfl)(D:bw [p] e.env=(aq,b1 p e.env)::bw [] e.env:=by rfl):fl e [a,x,p] (ai N<|ai c<|ai q ay):=de b (bU d hd t D) f
def dp(j:Nat){f:aC}{a:a_}{N:aE ak}{SD B:cn}(b:e.N.Nodup)(c:b4 e a N)(Sq:e.N[j]?=Z f:=by rfl)(d:jP e.env.scope f:=by exact Or.inl rfl)(g:j∉SR:=by decide)(h:mg a (Z<|.Name f B) SD.line e.env=pure aq:=by rfl)(i:e.fn f=V\/e.env.scope.names.lookup f=Z .local:=by first|exact .inl rfl|exact .inr rfl|assumption):iY e SR (.Assign [.Name f B] a SD) (bS j N):=kJ b Sq d c g h i
def gi(j:Nat){f:aC}{SD:cn}(a:e.N.Nodup)(Sq:e.N[j]?=Z f:=by rfl)(b:jP e.env.scope f:=by exact Or.inl rfl)(c:j∉SR:=by decide)(d:e.fn f=V\/e.env.scope.names.lookup f=Z .local:=by first|exact .inl rfl|exact .inr rfl|assumption):hl e SR (.Name f SD) (a9 j):=tj a Sq b c d
def t9:List aC->Bool
 |[]=>V
 |f::H=>!H.contains f&&t9 H
theorem EL:∀{H:List aC},t9 H=V->H.Nodup
 |[],_=>jX
 |f::H,c=>by
  rw[t9,cG,l7]at c;refine iH.mpr ⟨λa=>?_,EL c.2⟩;rw[List.contains_iff_mem.mpr a]at c;cases c.1
def e2(j:Nat){f:aC}{SD:cn}(Sq:e.N[j]?=Z f:=by rfl)(a:t9 e.N=V:=by kernel_rfl)(b:jP e.env.scope f:=by exact Or.inl rfl)(c:j∉SR:=by decide)(d:e.fn f=V\/e.env.scope.names.lookup f=Z .local:=by first|exact .inl rfl|exact .inr rfl|assumption):hl e SR (.Name f SD) (a9 j):=tj (EL a) Sq b c d
def iA{SY TA TN:a_}{SO:gj}(own:List aC)(SX:List Nat){F:jz}{A:e1}{T1:aE ak}(Sq:mi e SY TA F)(b:∀a,hl (e.fI (fS e own SX) SO a) (n5 own.length SX.length) SY A)(c:∀a,b4 (e.fI (fS e own SX) SO a) TN T1)(SF:wQ e.env.scope e.N SO SX=V:=by kernel_rfl)(d:e.calm=V:=by rfl)(ao:SX.Nodup:=by decide)(g:∀f,mm TA e.env f=pure f:=by intro X;rfl):b4 e (.ListComp TN [⟨SY,TA,[],0⟩] SO SD) (cm own.length SX F A dm T1):=
 ve d (ll _ _ SF rfl rfl) ao Sq b (λ_=>y_) c g
def oe{N c:e1}{a}(f:hl e SR d N)(g:hl e SR b c)(h:e.calm=V:=by rfl)(t:(fc [d,b] e.env).map (·.2)=h5 d e.env::(fc [b] e.env).map (·.2):=by rfl)(D:(fc [b] e.env).map (·.2)=h5 b e.env::(fc [] e.env).map (·.2):=by rfl)(i:(fc [d,b] e.env).length=2:=by rfl)(j:(fc [d,b] e.env).findIdx? (·.1)=Y:=by rfl):hl e SR (.Tuple [d,b] a SD) (iy 2<|eP N<|eP c ir):=RG h (tI f (tI g A6 D) t) i j
def dY{id:String}{Tc:List ak->Option ak}(b:gH e (.builtin id) Tc)(c:e.aw f=Y)(d:eB f=Z (.builtin id))(g:fl e (a::Sl) N)(h:dP e f:=by rfl)(i:f ≠ "__name__" := by decide)(j:(f==("__debug__" : aC))=aq:=by decide)(k:bw (a::Sl) e.env=(aq,b1 a e.env)::bw Sl e.env:=by rfl)(l:(e8 SD<|bw Sl e.env).any (·.1)=aq:=by rfl):
  b4 e (.Call (.Name f r) (a::Sl) [] SD) (bT Tc N):=Cr b h c d g i j k l
def bW(az:b5 e.prog e.w e.K e.aw e.base q f z x SA s U)(b:d_ M e.A)(c:fl e (a::Sl) N)(d:dP e f:=by rfl)(g:q<=M:=by decide)(h:(f==("__debug__" : aC))=aq:=by decide)(i:bw (a::Sl) e.env=(aq,b1 a e.env)::bw Sl e.env:=by rfl)(j:(e8 SD<|bw Sl e.env).any (·.1)=aq:=by rfl):
  b4 e (.Call (.Name f r) (a::Sl) [] SD) (a3 s U N):=Ir az b d c g h i j
def dc(a:d_ M e.A)(c:dv e d Tx)(f:dv e b Tq)(g:u3 b:=by exact λ_ X=>rfl):dv e (.Subscript d b SD) (ag<|ac bD Tx Tq):=aM (iz a c f g)
def cZ{Tc:yv}{x:ak->ak->Option ak}(a:eX e (fU Tc) x)(c:dv e d Tx)(f:dv e b Tq):dv e (.BinOp d Tc b SD) (ag<|ac x Tx Tq):=aM (hu a c f)
def el{a}(c:fl e Sl N):dv e (.Tuple Sl a SD) (ag<|cB N):=aM (j7 c)
end
section
variable{S:bl}{l:a8}{Q:Φ}{aw:aC->Option ae}{Sz c:a0}{q s:Nat}{f:aC}{z:bQ}{x:af}{SA:List aC}{U:cX}
def Gj{S:List aC}{i:gj}(d:i.kind=.function:=by rfl)(b:i.isCoroutine=aq:=by rfl)(g:i.isGenerator=aq:=by rfl)(p:SS.Nodup:=by decide +kernel)(a:SS.take S.length=S:=by rfl)(x:∀f∈S,i.names.lookup f=Z .local\/i.names.lookup f=Z .cell:=by decide +kernel)(N:∀A∈i.names,A.2≠.free:=by decide +kernel):kj SS S i:=⟨d,b,g,p,a,x,N⟩
def d5{N:bo}(SS:List aC)(L:dd Q aw f z x SA)(a:SS.Nodup->∀(S7:ae) (O:bp) (S2:List dU) (m:av) (h:ax) (Sn:fA),d_ q (O.deeper<|ib f (c9 z) m.heap.objs.size x S7)->hE (h7 hK S l Q aw Sz SS f (c9 z) x S7 O S2 m h Sn).nJ SR (fy z) N)(SF:kj SS SA (c9 z):=by exact Gj)(b:SA.length=s:=by rfl)(c:∀j∈SR,j<s:=by decide):b5 S l Q aw Sz (q+1) f z x SA s (c8 s SS.length SR N):=L8 L SF b c a
end
end L2
namespace L2
open Spec PyProof.Rows PySem.W
section
variable{Su:bl}{l:a8}{O:bp}{m:av}{Sn:ae->av->Prop}
variable{i:af}
def KD{Sm:oH->av->Prop}{bb A:List af}{U:Array nW->Array nW->Prop}{s:Nat}{S:Nat->ae->Prop}{aS:Nat->av->Prop}(W:WalksS Su l O.in1 i bb A U s S aS)(c:∀j m,aS j m->m.TypeIs (.ref i) "list_reverseiterator")(SF:af)(a:Nat)(d:aS 0 m)(e:SF∉bb)(f:i∈bb)(g:m.heap.get? SF=Z {cls:=.type "list",data:=.seq #[] a})(h:∀Ss b k,Moved (SF::A) U m Ss->Ss.heap.get? SF=Z {cls:=.type "list",dict:=Y,data:=.seq b k,slots:=#[]}->qU S b s->Sm (.ok<|.ret<|.ref SF) Ss)(n:s<=sizeLine):codeAny (aQ Su l) O (.builtin "list.__iadd__" ⟨[.ref SF,.ref i],[]⟩) Sm m:=by
 refine lK F.entry_list_iadd ?_;rw[l3 Cz _];show wpAny _ O.in1 (bk.List.listExtendWith (.ref SF) (.ref i)<|.ref SF) _ _ _;exact QW W c SF _ a d e f g h n
variable{H:af}{SM:Array ae}
def PR{E:List ae->av->Prop}(r:O.handled=Y)(s:H≠i)(o:m.heap.IsList H SM)(p:m.heap.IsRevIter i H ((SM.size:Int)-1))(t:SM.size<=sizeLine)(u:∀(T:a0) (bt:Nat) (e:Array ae),(∀b n,b≠i->m.heap.get? b=Z n->T.get? b=Z n)->m.heap.objs.size<=T.objs.size->qU (λj v=>SM[SM.size-1-j]?=Z v) e SM.size->E e.toList {m with heap:=T,toks:=bt}):
  wpAny (aQ Su l) O (collect<|.ref i) E Sn m:=by
 have B:i<m.heap.objs.size:=let ⟨n,a,_⟩:=p;b9 a
 have C:H<m.heap.objs.size:=let ⟨n,a,_⟩:=o;b9 a
 have w:m.heap.objs.size∉[i,H]:=λd=>by
  simp only[bL,nZ,ic]at d;rcases d with c|c<;>lia
 unfold collect;refine aD (wpAny_runValue<|lK F.entry_proto_collect ?_);rw[l3 F.plain_proto_collect _];show wpAny _ O.in1 (p3 [] >>= λH=>again<|.builtin "list.__iadd__" ⟨[H,.ref i],[]⟩) _ _ m;refine aD (h9<|a7 ⟨lb Cz _,?_⟩);have h:∀g n,m.heap.get? g=Z n->(m.heap.push {cls:=.type "list",data:=.seq ([]:List ae).toArray}).get? g=Z n:=λg n a=>cw _ a;have x:(m.heap.push {cls:=.type "list",data:=.seq ([]:List ae).toArray}).get? m.heap.objs.size=Z {cls:=.type "list",data:=.seq ([]:List ae).toArray}:=dH _ rfl;refine KD (m:={m with heap:=m.heap.push {cls:=.type "list",data:=.seq ([]:List ae).toArray} }) (O:=O) (nR.listRev (prog:=Su) (w:=l) (A:=O.in1) r i H s SM).toS (λj m f=>f.2.1.typeIs) m.heap.objs.size _ ⟨hi _,?_,o.at λn a=>h _ n a⟩ w (.head _) x (λSs e D d q y=>?_) t
 ·have:(SM.size:Int)-1-((0:Nat):Int)=(SM.size:Int)-1:=⋯
  rw[this];exact p.at λn a=>h _ n a
 ·show wpAny _ O (load m.heap.objs.size >>= _) _ _ Ss;refine aD (wpAny_load q<|a7 ?_);rw[Moved.eq_with d];refine u Ss.heap Ss.toks e (λb n z a=>d.heap b n (λk=>?_)<|h b n a) (p4<|b9 q) y;rcases bL.mp k with A|k
  ·exact dJ (b9 a) A
  ·exact z (cO.mp k)
def Qr{E:ae->av->Prop}(k:O.handled=Y)(o:H≠i)(p:m.heap.IsList H SM)(f:m.heap.IsRevIter i H ((SM.size:Int)-1))(g:SM.size<=sizeLine)(q:∀(T:a0) (bt:Nat) (h:Array ae),(∀b n,b≠i->m.heap.get? b=Z n->T.get? b=Z n)->m.heap.objs.size<=T.objs.size->qU (λj v=>SM[SM.size-1-j]?=Z v) h SM.size->E (.ref T.objs.size) {m with heap:=T.push {cls:=.type "tuple",data:=.seq h},toks:=bt}):
  wpAny (aQ Su l) O (call (.type "tuple") [.ref i]) E Sn m:=by
 refine EV (Q₁:=λa c=>c.TypeIs a "tuple" /\ E a c) yp (F.typeCall_tuple_1 _) F.entry_object_init (codeAny_of_tree ?_) λa c d=>⟨d.1,F.args_object_init_2 a _,object_init_meets yp.init.lookup yp.made ∅ Su l O.in1 _ c ⟨d.1,rfl,d.2⟩⟩;show wpAny _ _ (do vv "tuple.__new__" ⟨[.type "tuple",.ref i],[]⟩;again (.builtin "tuple.__new__" ⟨[.type "tuple",.ref i],[]⟩)) _ _ m;refine aD (uU (F.newCall_tuple_1 _)<|a7 ⟨lb GF _,lK F.entry_tuple_new ?_⟩);rw[l3 GF _];have w:=sub_tuple_self;have x:=init_tuple_lookup;have y:=madeHere_tuple;have r:m.TypeIs (.ref i) "list_reverseiterator" := f.typeIs
 wp_walk using wpAny_typeOf r,PR (O:=O.in1.in1) k o p f g
 intro T bt e dz s it;have t:e.size<=sizeLine:=by rw[it.1];exact g
 show wpAny _ _ (bk.Tuple.tupleExact e.toList.toArray >>= λv=>ret v) _ _ _;unfold bk.Tuple.tupleExact;refine aD (h9 (a7 ?_) (by show e.toList.toArray.size<=sizeLine;simpa using t));rw[v_];exact⟨⟨_,dH _ rfl,rfl⟩,q _ _ _ dz s it⟩
end
section
variable{e:aK}
def Mq(Q:Φ)(Ti:e_):b2:=(λy h E=>Ti y h λR Sr=>∃r SE,R=[.ref r]/\c2 Q Sr r SE/\∀H,Sr H=Y->E (.ref H) (upd Sr H<|.tup SE.reverse))
variable{d:a_}{r Tz SD l:cn}
def J0{Ti:e_}(u:e.calm=V)(w:dP e "tuple")(x:e.aw "tuple" = Y)(z:dP e "reversed")(A:e.aw "reversed" = Y)(B:g7 e [d] Ti)(C:bw [d] e.env=[(aq,b1 d e.env)]:=by rfl):
  bE e (.Call (.Name "tuple" Tz) [.Call (.Name "reversed" r) [d] [] SD] [] l) (Mq e.K Ti):=by
 intro G m y h E i c;refine pj (m3 i w x (show eB "tuple" = Z (.type "tuple") by decide +kernel) (ql ?_ rfl rfl) ∅ ∅);refine EN ?_;refine Call_ (m3 i z A (show eB "reversed" = Z (.type "reversed") by decide +kernel)<|ql (bP (B SD G m y h _ i c) λSP b ⟨R,Sr,f,F,I⟩=>?_) C rfl);let⟨H,SE,a,L,o⟩:=I;subst a;let⟨J,rfl,M⟩:=iv F;cases M;let⟨Sw,Tg,bI,N⟩:=f.list L;have q:=Tg.length;have k:=bI.isList;refine call_reversed_list k (Dl ?_);have ne:H≠b.heap.objs.size:=let ⟨n,a,_⟩:=k;dJ (b9 a)
 have up:∀g n,b.heap.get? g=Z n->(b.heap.push<|revObj H<|(Sw.toArray.size:Int)-1).get? g=Z n:=λg n a=>cw _ a;have le:b.heap.objs.size<=(b.heap.push<|revObj H<|(Sw.toArray.size:Int)-1).objs.size:=by show _<=(b.heap.objs.push _).size;rw[Array.size_push];lia
 refine Qr (SM:=Sw.toArray) (f.ok.hd u) ne (k.at λn a=>up _ n a) ⟨_,dH _ rfl,rfl,rfl⟩ (by simp only[cJ];lia) λT bt p dz O it=>?_;have P:bR SE.reverse p.toList:=by
  refine uf (show SE.reverse.length=p.toList.length from (by rw[qW];exact q.trans ⇑(it.1.symm))) λj v J t D=>?_;have Sq:j<SE.length:=by
   have:=(fY.mp t).1
   rwa [qW]at this
  rw[List.getElem?_reverse Sq]at t;let⟨al,S,U⟩:=Tg.get t;have:=it.2 j J ⇑D;simp only[cJ,FU]at this;rw[<-q,S]at this;cases this;exact U
 have s:=ee le O;exact⟨.ref _,_,f.laid (S4:=bt) (n:=.tup SE.reverse) (λg n a=>cw _<|dz g n (dJ<|b9 a)<|up g n a) s ⟨by rw[qW];exact N,p.toList,P,⟨_,dH _ rfl,rfl,0,by rw[v_]⟩⟩,rfl,o _<|f.aR.fresh s⟩
@[simp] def zb(N:aE (List bC)):aE ak:=λk=>(N k).bind λr=>(hX r.2 r.1).bind λC=>match C with
 |[.lst f]=>Z (.im<|.tup f.reverse,r.2)
 |_=>Y
def G6{N:aE (List bC)}(i:dP e "tuple")(j:e.aw "tuple" = Y)(m:dP e "reversed")(p:e.aw "reversed" = Y)(c:fl e [d] N)(q:bw [d] e.env=[(aq,b1 d e.env)]:=by rfl)(s:e.calm=V:=by rfl):
  b4 e (.Call (.Name "tuple" Tz) [.Call (.Name "reversed" r) [d] [] SD] [] l) (zb N):=by
 refine eb (J0 s i j m p c q) λy h E x=>?_;let⟨k,L,u,SG,z,ao,A,o⟩:=x;let⟨⟨Sy,So⟩,t,D⟩:=bK.mp A;let⟨C,B,f⟩:=bK.mp D;refine⟨k,L,Sy,So,z,ao,t,λR Sr SI I g S5 F=>?_⟩;have G:=S5.read g B;split at f
 ·cases f;let⟨v,rfl,⟨X,r,w,rfl,S1,S6,X⟩⟩:=fR G;refine⟨r,w,rfl,c2.of S1,λH aO=>?_⟩;have b:cS Sr (upd Sr H<|.tup w.reverse):=(cS.refl Sr).upd aO;exact o _ _ SI [] (g.mono b.tupS λd X n a=>b d n a) ⟨⟨H,_,rfl,eF,(S6.mono b.tupS.tup).rev⟩,rfl⟩ (F.new b jX (λd c=>nomatch c) g.chg)
 ·cases f
end
end L2
namespace G
open L2
def Rv:bo:=((cy<|fu<|dM (aZ<|kP "int"<|ah 0)<|aZ<|fu<|eH<|aZ<|kP "bool"<|ah 0))
def oL:cX:=(c8 1 1 [0] Rv)
def E5:bo:=((cy<|fu<|dM (aZ<|kP "tuple"<|ah 0)<|dM (aZ<|ac d4 (ag<|bT cH<|ai (ah 0) ay)<|ag<|aA<|.int 2)<|dM (aZ<|a3 1 G.oL<|ai (ag<|ac bD (ah 0)<|ag<|aA<|.int 0) ay)<|aZ<|a3 1 G.oL<|ai (ag<|ac bD (ah 0)<|ag<|aA<|.int 1) ay))
def iQ:cX:=(c8 1 1 [0] E5)
def BE:bo:=((cy<|fu<|dM (aZ<|a3 1 G.iQ<|ai (ah 0) ay)<|dM (aZ<|hW fF fF (ag<|aA<|.int 0) (ag<|ac bD (ah 0)<|ag<|aA<|.int 0)<|ag<|aA<|.int 30)<|aZ<|hW fF fF (ag<|aA<|.int 0) (ag<|ac bD (ah 0)<|ag<|aA<|.int 1)<|ag<|aA<|.int 30))
def jd:cX:=(c8 1 1 [0] BE)
def vF(a:af):aE ak:=((o9 1 a 1 G.jd<|ai (ah 0) ay))
def zN(a:af):aE ak:=((ac oN (ah 0)<|ah 1))
def EM(a:af):bo:=((bh (dD (fh (eH<|ez<|ag<|kP "tuple"<|ah 0)<|eH<|ez<|ag<|bT h8<|ai (ag<|cm 1 [1] (b8<|ah 0) (a9 0) dm<|G.vF a) ay) (cy<|aA<|.au aq) eo)<|cy<|bT h8<|ai (ag<|cm 2 [] (jH<|ai (ah 0)<|ai (ag<|f6 (ah 0) (gy<|aA<|.int 1) gK) ay) (iy 2<|eP (a9 0)<|eP (a9 1) ir) dm<|G.zN a) ay))
def rE(a:af):cX:=(c8 2 2 [0,1] (EM a))
def El(a:af):bo:=((cy<|a3 2 (G.rE a)<|ai (ah 0)<|ai (ag<|aA<|.fn a) ay))
def rG(a:af):cX:=(c8 1 1 [0] (El a))
def pZ:bo:=((g8 (aA<|.au V)<|jj 1 (ed 2) gV))
def rS:bo:=((bh (bS 1 sG)<|bh (e4 (b8<|ah 0) (a9 2) G.pZ)<|cy<|ed 1))
def gv:cX:=(c8 1 3 [0] rS)
def Pp:bo:=((bh (bS 1<|ac bD (ah 0)<|ag<|aA<|.int 0)<|bh (bS 2<|ac bD (ah 0)<|ag<|aA<|.int 1)<|cy<|ec<|ai (ag<|cB<|ai (ag<|ac rr (ah 1)<|ag<|aA<|.int 1)<|ai (ah 2) ay)<|ai (ag<|cB<|ai (ah 1)<|ai (ag<|ac rr (ah 2)<|ag<|aA<|.int 1) ay)<|ai (ag<|cB<|ai (ah 1)<|ai (ag<|ac du (ah 2)<|ag<|aA<|.int 1) ay)<|ai (ag<|cB<|ai (ag<|ac du (ah 1)<|ag<|aA<|.int 1)<|ai (ah 2) ay) ay))
def ha:cX:=(c8 1 3 [0] Pp)
def FL:aE ak:=((cB<|ai (ah 0)<|ai (ag<|aA<|.str "in") ay))
def F5:aE Bool:=((aZ<|ac eV (ah 0)<|ah 1))
def wa:bo:=((bh (bS 2<|ac bD (ah 1)<|ag<|aA<|.int 0)<|bh (dD (aZ<|ac d4 (ag<|ac bD (ah 1)<|ag<|aA<|.int 1)<|ag<|aA<|.str "in") (cy<|ec<|ai (ag<|cB<|ai (ag<|ac bD (ah 0)<|ah 2)<|ai (ag<|aA<|.str "out") ay) ay) eo)<|cy<|ac du (ag<|ec<|ai (ag<|cB<|ai (ah 2)<|ai (ag<|aA<|.str "in") ay) ay)<|ag<|cm 1 [0] (b8<|ag<|a3 1 G.ha<|ai (ah 2) ay) (a9 0) G.F5 G.FL))
def ov:cX:=(c8 2 3 [0,1] wa)
def rR:bo:=((dD (aZ<|ac fw (ah 7)<|ah 3) (bh (g8 (ed 6)<|jj 3 (ed 7) gV)<|i3<|gU hO 5 lj<|ai (ah 7) ay) eo))
def q5:bo:=((e4 (b8<|ag<|a3 2 G.ov<|ai (ah 0)<|ai (ah 6) ay) (a9 7) G.rR))
def zG:aE Bool:=((ez<|ah 4))
def yN:bo:=((bh (bS 5<|ec ay)<|bh (e4 (b8<|ah 4) (a9 6) G.q5)<|bS 4<|ed 5))
def Dr:bo:=((bh (bS 2<|cB<|ai (ah 1)<|ai (ag<|aA<|.str "out") ay)<|bh (bS 3<|ub (ed 2)<|aA .aV)<|bh (bS 4<|ec<|ai (ah 2) ay)<|bh (ie G.zG G.yN 1000000)<|cy<|ed 3))
def pb:cX:=(c8 2 8 [0,1] Dr)
def EB:aE Bool:=((aZ<|ac (kD V) (ag<|ac bD (ah 1)<|ah 3)<|ag<|aA .aV))
def uY:bo:=((bh (dD (aZ<|ac d4 (ag<|ac bD (ah 3)<|ag<|aA<|.int 1)<|ag<|aA<|.str "in") (g8 (ac bD (ag<|ac bD (ah 1)<|ah 3)<|ag<|aA<|.int 0)<|jj 0 (ac bD (ah 3)<|ag<|aA<|.int 0) gV) eo)<|bS 3<|ac bD (ah 1)<|ah 3))
def DX:bo:=((bh (bS 3<|cB<|ai (ah 2)<|ai (ag<|aA<|.str "out") ay)<|ie G.EB G.uY 1000000))
def n9:cX:=(c8 3 4 [0,1,2] DX)
def xD:aE Bool:=((aZ<|ac iS (ag<|ac bD (ah 3)<|ag<|nz<|aA<|.int 1)<|ah 1))
def Ff:bo:=((i3<|gU hO 3 lj<|ai (ag<|ac bD (ah 0)<|ag<|ac bD (ah 3)<|ag<|nz<|aA<|.int 1) ay))
def AZ:bo:=((bh (bS 3<|ec<|ai (ah 2) ay)<|bh (ie G.xD G.Ff 1000000)<|cy<|ed 3))
def nQ:cX:=(c8 3 4 [0,1,2] AZ)
def A1:aE ak:=((cB<|ai (ah 0)<|ai (ah 0) ay))
def yG:aE Bool:=((aZ<|ac eV (ag<|cB<|ai (ah 2)<|ai (ag<|aA<|.str "in") ay)<|ah 5))
def sx:bo:=((bh (i3<|gU hO 4 lj<|ai (ag<|ac bD (ag<|ac bD (ah 5)<|ag<|cB<|ai (ah 2)<|ai (ag<|aA<|.str "in") ay)<|ag<|aA<|.int 0) ay)<|bh (i3<|a3 3 G.n9<|ai (ah 3)<|ai (ah 5)<|ai (ag<|ac bD (ah 4)<|ag<|nz<|aA<|.int 1) ay)<|bS 5<|a3 2 G.pb<|ai (ah 3)<|ai (ah 1) ay))
def DT:aE ak:=((ed 0))
def xI:aE Bool:=((dM (aZ<|ac eV (ag<|cB<|ai (ah 0)<|ai (ag<|aA<|.str "in") ay)<|ah 1)<|aZ<|ac fw (ag<|cB<|ai (ah 0)<|ai (ag<|aA<|.str "out") ay)<|ah 1))
def tl:aE ak:=((zb<|ai (ag<|ac du (ag<|ec<|ai (ah 1) ay)<|ag<|a3 3 G.nQ<|ai (ah 2)<|ai (ah 3)<|ai (ah 0) ay) ay))
def BC:bo:=((bh (dD (fh (aZ<|ac d4 (ah 1)<|ah 2)<|aZ<|ac eV (ah 2)<|ag<|a3 1 G.ha<|ai (ah 1) ay) FD eo)<|bh (bS 3<|bT nY<|ai (ag<|cm 1 [] (b8<|ah 0) (a9 0) dm G.A1) ay)<|bh (bS 4<|ec ay)<|bh (bS 5<|a3 2 G.pb<|ai (ah 3)<|ai (ah 1) ay)<|bh (ie G.yG G.sx 1000000)<|bh (bS 6<|cm 1 [5] (b8<|ah 0) (a9 0) G.xI G.DT)<|bh (bS 7<|cm 1 [2,3,1] (b8<|ah 4) (a9 0) dm G.tl)<|cy<|cB<|ai (ag<|bT k4<|ai (ah 6) ay)<|ai (ag<|bT k4<|ai (ag<|bT mN<|ai (ah 7) ay) ay) ay))
def pw:cX:=(c8 3 8 [0,1,2] BC)
def wk:aE ak:=((ed 0))
def sC:aE Bool:=((dM (aZ<|ac iS (ah 0)<|ah 1)<|aZ<|ac fw (ah 0)<|ag<|a3 1 G.ip<|ai (ah 1) ay))
def zc:bo:=((bh (bS 2<|ac bD (ah 1)<|ag<|a3 2 G.ei<|ai (ah 0)<|ai (ag<|bT cH<|ai (ah 1) ay) ay)<|bh (bS 3<|cm 1 [2] (b8<|ah 1) (a9 0) G.sC G.wk)<|bh (dD (aZ<|ac d4 (ah 3)<|ag<|ec ay) (cy<|aA .aV) eo)<|cy<|cB<|ai (ah 2)<|ai (ag<|ac bD (ah 3)<|ag<|a3 2 G.ei<|ai (ah 0)<|ai (ag<|bT cH<|ai (ah 3) ay) ay) ay))
def n1:cX:=(c8 2 4 [0,1] zc)
end G
namespace bM
variable{aj:Type}[DecidableEq aj]
structure dI(L:List aj)(e:aj->aj->Prop)(d b:aj)(x:aj->aj)(i:List aj):Prop where
 eD:x d=d
 pD:x b=b
 fB:∀g,x g≠g->g∈L/\x g∈L/\e (x g) g
 one:∀g p,x g≠g->x p≠p->x g=x p->x g≠d->g=p
 on:∀g,x g≠g->x g≠d->x (x g)≠x g
 ao:i.Nodup
 last:∀H∈i,x H≠H/\e H b/\∀p,x p≠p->x p≠H
 ends:∀g,x g≠g->(∀p,x p≠p->x p≠g)->g∈i
structure Rs(L:List aj)(e:aj->aj->Prop)(d b:aj)(x:aj->aj)(SF:aj->Bool->Prop):Prop where
 start:SF d V
 back:∀g,SF g aq->SF (x g) V
 cU:∀g,SF g V->SF g aq
 next:∀g p,SF g V->e g p->SF p aq
 yJ:¬ SF b aq
variable{L:List aj}{e:aj->aj->Prop}{d b:aj}{x:aj->aj}{i:List aj}{SF:aj->Bool->Prop}
def Cut(SF:aj->Bool->Prop)(g:aj):Prop:=(SF g aq/\¬ SF g V)
def Cut.fB(Sm:Rs L e d b x SF){g:aj}(c:Cut SF g):x g≠g:=λa=>c.2 (by have:=Sm.back g c.1;rwa [a]at this)
def it(x:aj->aj):Nat->aj->aj
 |0,g=>g
 |s+1,g=>it x s (x g)
theorem iC(x:aj->aj):∀(s:Nat) (g:aj),it x (s+1) g=x (it x s g)
 |0,g=>rfl
 |s+1,g=>iC x s (x g)
theorem up(Sm:Rs L e d b x SF){g:aj}(c:SF g V):∀s,SF (it x s g) V
 |0=>c
 |s+1=>by rw[iC];exact Sm.back _ (Sm.cU _<|up Sm c s)
theorem lE(x:aj->aj)(M:Nat):∀(s:Nat) (g:aj),it x (M+s) g=it x M (it x s g)
 |0,g=>rfl
 |s+1,g=>lE x M s (x g)
def dI.ne(W:dI L e d b x i){g:aj}(c:x g≠g):g≠d:=λa=>c (a ▸ W.eD)
theorem dI.pull(W:dI L e d b x i){g p:aj}:∀s:Nat,(∀j,j<=s->x (it x j g)≠it x j g)->(∀j,j<=s->x (it x j p)≠it x j p)->it x s g=it x s p->g=p
 |0,_,_,a=>a
 |s+1,c,hd,a=>by
  rw[iC,iC]at a;refine W.pull s (λj Sq=>c j (by omega)) (λj Sq=>hd j (by omega)) (W.one _ _ (c s (by omega)) (hd s (by omega)) a λf=>?_);have:=c (s+1) (bq _);rw[iC,f]at this;exact this W.eD
def dI.dist(W:dI L e d b x i){H:aj}(f:H∈i){j B:Nat}(k:j<B)(c:∀q,q<=B->x (it x q H)≠it x q H):it x j H≠it x B H:=λa=>by
 obtain⟨q,rfl⟩:∃q,B=j+(q+1):=⟨B-j-1,by omega⟩;rw[lE]at a;have:=W.pull j (g:=H) (p:=it x (q+1) H) (λM h=>c M (by omega)) (λM h=>by rw[<-lE];exact c _ (by omega)) a;rw[iC]at this;exact (W.last H f).2.2 _ (c q (by omega)) this.symm
def u1{L:List aj}{N:Nat->aj}{s:Nat}(b:∀j<s,N j∈L)(hd:∀j B,j<B->B<s->N j≠N B):s<=L.length:=by
 have ao:((range s).map N).Nodup:=by
  rw[n8,mX];exact AN.imp_of_mem λ{f A} a d c=>hd f A c (g6.mp d)
 have:=ao.length_le_of_subset (l₂:=L) (by
  intro f a;let⟨j,Sq,rfl⟩:=cV.mp a;exact b j (g6.mp Sq))
 rwa [bu,iI]at this
def dI.comes(W:dI L e d b x i){H:aj}(k:H∈i):∃s,it x (s+1) H=d/\∀q,q<=s->x (it x q H)≠it x q H:=by
 have S_:∃M,x (it x M H)=it x M H:=rl λg=>by
  have all:∀q,x (it x q H)≠it x q H:=λq a=>g ⟨q,a⟩;have:=u1 (L:=L) (N:=λq=>it x q H) (s:=L.length+1) (λj X=>(W.fB _<|all j).1) λj B l X=>W.dist k l λq X=>all q;omega
 obtain⟨M,f,lt⟩:∃M,x (it x M H)=it x M H/\∀q<M,x (it x q H)≠it x q H:=by
  let⟨M,f⟩:=S_;induction M using Nat.strongRecOn with
  |ind M m=>
   by_cases c:∃q<M,x (it x q H)=it x q H
   ·let⟨q,h,a⟩:=c;exact m q h a
   ·exact⟨M,f,λq h a=>c ⟨q,h,a⟩⟩
 cases M with
 |zero=>exact absurd f (W.last H k).1
 |succ s=>
  refine⟨s,rl λg=>?_,λq h=>lt q (by omega)⟩;rw[iC]at f g;exact W.on _ (lt s (by omega)) g f
def dI.meets(W:dI L e d b x i)(Sm:Rs L e d b x SF){H:aj}(h:H∈i):∃s,Cut SF (it x s H)/\∀q,q<=s->x (it x q H)≠it x q H:=by
 let⟨SS,l,fB⟩:=W.comes h;have m:¬ SF (it x 0 H) V:=λf=>Sm.yJ (Sm.next _ _ f (W.last H h).2.1);have SJ:∀s,s<=SS+1->(∀q,q<=s->¬ SF (it x q H) V)\/∃q<s,¬ SF (it x q H) V/\SF (it x (q+1) H) V:=λs=>by
  induction s with
  |zero=>exact λ_=>.inl λq g=>by rw[yI.mp g];exact m
  |succ s n=>
   intro r;rcases n (by omega) with c|⟨q,g,a⟩
   ·by_cases f:SF (it x (s+1) H) V
    ·exact .inr ⟨s,by omega,c s<|bq _,f⟩
    ·refine .inl λq g=>?_;rcases kn q (s+1) with o|o
     ·exact c q (by omega)
     ·rw[show q=s+1 by omega];exact f
   ·exact .inr ⟨q,by omega,a⟩
 rcases SJ (SS+1) (bq _) with c|⟨q,g,p,k⟩
 ·exact absurd Sm.start (by have:=c (SS+1) (bq _);rwa [l]at this)
 ·have M:=fB q (by omega);rw[iC]at k;exact⟨q,⟨Sm.next _ _ k (W.fB _ M).2.2,p⟩,λj Sq=>fB j (by omega)⟩
def Rs.once(Sm:Rs L e d b x SF){H:aj}{s M:Nat}(t:Cut SF (it x s H))(D:Cut SF (it x M H)):s=M:=by
 have SJ:∀{s M:Nat},s<M->Cut SF (it x s H)->Cut SF (it x M H)->False:=λ{s M} c t D=>by
  obtain⟨q,rfl⟩:∃q,M=q+(s+1):=⟨M-s-1,by omega⟩;rw[lE,iC]at D;exact D.2 (up Sm (Sm.back _ t.1) q)
 rcases q6 s M with c|c|c
 ·exact absurd (SJ c t D) id
 ·exact c
 ·exact absurd (SJ c D t) id
def dI.inj(W:dI L e d b x i){H M:aj}(f:H∈i)(g:M∈i){j B:Nat}(t:∀q,q<=j->x (it x q H)≠it x q H)(D:∀q,q<=B->x (it x q M)≠it x q M)(a:it x j H=it x B M):H=M:=by
 have SJ:∀{H M:aj},H∈i->M∈i->∀{j B:Nat},j<=B->(∀q,q<=j->x (it x q H)≠it x q H)->(∀q,q<=B->x (it x q M)≠it x q M)->it x j H=it x B M->H=M:=λ{H M} f g {j B} h t D a=>by
  obtain⟨q,rfl⟩:∃q,B=j+q:=⟨B-j,by omega⟩;rw[lE]at a;have:=W.pull j t (λo k=>by rw[<-lE];exact D _ (by omega)) a;cases q with
  |zero=>exact this
  |succ q=>
   rw[iC]at this;exact absurd this.symm ((W.last H f).2.2 _ (D q (by omega)))
 rcases Nat.le_total j B with c|c
 ·exact SJ f g c t D a
 ·exact (SJ g f c D t a.symm).symm
def dI.H7(W:dI L e d b x i)(Sm:Rs L e d b x SF){g:aj}(l:Cut SF g):∃H∈i,∃s,it x s H=g/\∀q,q<=s->x (it x q H)≠it x q H:=by
 have go:∀(k q:Nat) (p:aj),L.length+1<=k+q->it x q p=g->(∀j,j<=q->x (it x j p)≠it x j p)->∃H∈i,∃s,it x s H=g/\∀q,q<=s->x (it x q H)≠it x q H:=λk=>by
  induction k with
  |zero=>
   intro q p n a fB;exfalso;have:=u1 (L:=L) (N:=λj=>it x j p) (s:=q+1) (λj Sq=>(W.fB _ (fB j (by omega))).1) λj B w y h=>by
    have h:it x j p=it x B p:=h;obtain⟨o,rfl⟩:∃o,q=o+B:=⟨q-B,by omega⟩;obtain⟨u,rfl⟩:∃u,B=j+(u+1):=⟨B-j-1,by omega⟩;have r:it x (o+j) p=g:=by rw[lE,h,<-lE];exact a
    have t:it x (u+1) g=g:=by
     have:it x ((u+1)+(o+j)) p=g:=by rw[show u+1+(o+j)=o+(j+(u+1)) by omega];exact a
     rw[lE,r]at this;exact this
    exact l.2 (by rw[<-t];exact up Sm (Sm.back _ l.1) u)
   omega
  |succ k v=>
   intro q p n a fB;by_cases c:∃f,x f≠f/\x f=p
   ·let⟨f,m,rfl⟩:=c;refine v (q+1) f (by omega) a λj Sq=>?_;cases j with
    |zero=>exact m
    |succ j=>exact fB j (by omega)
   ·exact⟨p,W.ends p (fB 0<|hi _) λf m h=>c ⟨f,m,h⟩,q,a,fB⟩
 exact go (L.length+1) 0 g (by omega) rfl λj Sq=>by rw[yI.mp Sq];exact Cut.fB Sm l
def dI.many(W:dI L e d b x i)(Sm:Rs L e d b x SF)(w:L.Nodup){o:aj->Bool}(l:∀g∈L,o g=V↔Cut SF g):(L.filter o).length=i.length:=by
 have m:∀H:aj,∃g:aj,H∈i->Cut SF g/\∃s,it x s H=g/\∀q,q<=s->x (it x q H)≠it x q H:=λH=>by
  by_cases c:H∈i
  ·let⟨s,t,D⟩:=W.meets Sm c;exact⟨_,λ_=>⟨t,s,rfl,D⟩⟩
  ·exact⟨H,λy=>absurd y c⟩
 obtain⟨h,j⟩:∃h:aj->aj,∀H,H∈i->Cut SF (h H)/\∃s,it x s H=h H/\∀q,q<=s->x (it x q H)≠it x q H:=⟨λH=>(m H).choose,λH=>(m H).choose_spec⟩;have ao:(i.map h).Nodup:=by
  rw[n8,mX];refine (n8.mp W.ao).imp_of_mem λ{f A} n p c a=>c ?_;let⟨X,s,z,B⟩:=j f n;let⟨X,M,C,E⟩:=j A p;exact W.inj n p B E (by rw[z,C,a])
 have Tb:(L.filter o).Perm (i.map h):=(Ct (w.filter _) ao).mpr λg=>by
  rw[gM,cV];constructor
  ·rintro⟨t,D⟩;have r:=(l g t).mp D;let⟨H,k,s,a,fB⟩:=W.H7 Sm r;let⟨F,M,u,X⟩:=j H k;refine⟨H,k,?_⟩;rw[<-u,<-a,Sm.once (H:=H) (s:=M) (M:=s) (by rw[u];exact F) (by rw[a];exact r)]
  ·rintro⟨H,k,rfl⟩;have:=(j H k).1;have v:=(W.fB _<|Cut.fB Sm this).1;exact⟨v,(l _ v).mpr this⟩
 rw[Tb.length_eq,bu]
end bM
namespace bM
variable{aj:Type}[DecidableEq aj]{L:List aj}{e:aj->aj->Prop}{d b:aj}{x N:aj->aj}{i:List aj}
structure pF(L:List aj)(e:aj->aj->Prop)(d b:aj)(x N:aj->aj)(q:Nat)(g p:Nat->aj):Prop where
 l2:p 0=d
 ds:∀j<q,p (j+1)=x (g j)
 step:∀j<q,g j=p j\/e (p j) (g j)
 ci:∀j B,j<q->B<q->g j=g B->j=B
 p6:∀j B,j<=q->B<=q->p j=p B->j=B
 nb:∀j<q,g j≠b
 cv:∀j<q,N (g j)=p j
 fe:∀f,(∀j<q,g j≠f)->N f=x f
variable{q:Nat}{g p:Nat->aj}
def pF.na(W:dI L e d b x i)(S:pF L e d b x N q g p){j:Nat}(Sq:j<q):g j≠d:=λa=>by
 have:=S.ds j Sq;rw[a,W.eD,<-S.l2]at this;exact absurd (S.p6 _ _ (by omega) (by omega) this) (by omega)
def pF.out(S:pF L e d b x N q g p){j:Nat}(Sq:j<=q)(c:p j≠d):∃B<q,j=B+1/\p j=x (g B):=by
 cases j with
 |zero=>exact absurd S.l2 c
 |succ B=>exact⟨B,by omega,rfl,S.ds B (by omega)⟩
def lay(W:dI L e d b x i)(S:pF L e d b x N q g p)(D:∀f A,e f A->f∈L/\A∈L)(E:e (p q) b)(I:¬ e d b):dI L e d b N (i++[p q]):=by
 have F:p q≠d:=λa=>I (by rw[<-a];exact E);have r:∀f,(∃j<q,g j=f)\/∀j<q,g j≠f:=λf=>by
  by_cases c:∃j<q,g j=f
  ·exact .inl c
  ·exact .inr λj Sq a=>c ⟨j,Sq,a⟩
 have y:∀H∈i,∀j,j<=q->p j≠H:=λH n j Sq a=>by
  have z:=(W.last H n).1;let⟨B,k,rfl,m⟩:=S.out Sq (by rw[a];exact W.ne z);rw[a]at m;by_cases M:x (g B)=g B
  ·rw[M]at m;rw[m]at z;exact z M
  ·exact (W.last H n).2.2 _ M m.symm
 have w:∀f,x f≠f->(∀j<q,g j≠f)->x f≠d->∀j,j<=q->p j≠x f:=λf h aX na j Sq a=>by
  let⟨B,k,rfl,m⟩:=S.out Sq (by rw[a];exact na);rw[a]at m;by_cases M:x (g B)=g B
  ·have:=W.on f h na;rw[m,M,M]at this;exact this rfl
  ·exact aX B k (W.one _ _ M h m.symm (by rw[<-m];exact na))
 have G:∀j,j<=q->p j≠d->(∀B<q,g B≠p j)->x (p j)≠p j:=λj Sq na J=>by
  let⟨B,k,rfl,m⟩:=S.out Sq na;by_cases M:x (g B)=g B
  ·rw[M]at m;exact absurd m.symm (J B k)
  ·rw[m];exact W.on _ M (by rw[<-m];exact na)
 refine⟨?_,?_,λf h=>?_,λf A h s a na=>?_,λf h na=>?_,?_,λH n=>?_,λf h aX=>?_⟩
 ·rw[S.fe d λj Sq=>S.na W Sq];exact W.eD
 ·rw[S.fe b λj Sq=>S.nb j Sq];exact W.pD
 ·rcases r f with ⟨j,Sq,rfl⟩|c
  ·rw[S.cv j Sq]at h ⊢;have ad:=(S.step j Sq).resolve_left λt=>h t.symm;exact⟨(D _ _ ad).2,(D _ _ ad).1,ad⟩
  ·rw[S.fe f c]at h ⊢;exact W.fB f h
 ·rcases r f with ⟨j,Sq,rfl⟩|u<;>rcases r A with ⟨B,k,rfl⟩|l
  ·rw[S.cv j Sq,S.cv B k]at a;rw[S.p6 j B (by omega) (by omega) a]
  ·rw[S.cv j Sq,S.fe A l]at a;rw[S.cv j Sq,a]at na;rw[S.fe A l]at s;exact absurd a (w A s l na j (by omega))
  ·rw[S.fe f u,S.cv B k]at a;rw[S.fe f u]at na h;exact absurd a.symm (w f h u na B (by omega))
  ·rw[S.fe f u,S.fe A l]at a;rw[S.fe f u]at na h;rw[S.fe A l]at s;exact W.one f A h s a na
 ·rcases r f with ⟨j,Sq,rfl⟩|u
  ·rw[S.cv j Sq]at h na ⊢;rcases r (p j) with ⟨B,k,v⟩|c
   ·rw[<-v,S.cv B k,v];intro t;have:=S.p6 B j (by omega) (by omega) t;subst this;exact h v.symm
   ·rw[S.fe _ c];exact G j (by omega) na c
  ·rw[S.fe f u]at h na ⊢;rcases r (x f) with ⟨B,k,v⟩|c
   ·rw[<-v,S.cv B k,v];exact w f h u na B (by omega)
   ·rw[S.fe _ c];exact W.on f h na
 ·refine dn.mpr ⟨W.ao,by simp,λf u A l a=>?_⟩;rw[cO]at l;subst a l;exact y _ u q (bq _) rfl
 ·rcases dt.mp n with n|n
  ·refine⟨?_,(W.last H n).2.1,λA s a=>?_⟩
   ·rcases r H with ⟨j,Sq,rfl⟩|c
    ·rw[S.cv j Sq];exact y _ n j (by omega)
    ·rw[S.fe H c];exact (W.last H n).1
   ·rcases r A with ⟨B,k,rfl⟩|l
    ·rw[S.cv B k]at a;exact y H n B (by omega) a
    ·rw[S.fe A l]at a s;exact (W.last H n).2.2 A s a
  ·rw[cO]at n;subst n;refine⟨?_,E,λA s a=>?_⟩
   ·rcases r (p q) with ⟨B,k,v⟩|c
    ·rw[<-v,S.cv B k,v];intro t;exact absurd (S.p6 B q (by omega) (bq _) t) (by omega)
    ·rw[S.fe _ c];exact G q (bq _) F c
   ·rcases r A with ⟨B,k,rfl⟩|l
    ·rw[S.cv B k]at a;exact absurd (S.p6 B q (by omega) (bq _) a) (by omega)
    ·rw[S.fe A l]at a s;exact w A s l (by rw[a];exact F) q (bq _) a.symm
 ·by_cases hd:∃j,j<=q/\p j=f
  ·let⟨j,Sq,rfl⟩:=hd;rcases kn j q with o|o
   ·exfalso;refine aX (g j) ?_ (S.cv j o);rw[S.cv j o];intro t;rw[t,S.cv j o,t]at h;exact h rfl
   ·rw[show j=q by omega];exact c3 _ (.head _)
  ·have ao:∀j,j<=q->p j≠f:=λj Sq a=>hd ⟨j,Sq,a⟩;refine c5 _ (W.ends f ?_ λA s a=>?_)
   ·rcases r f with ⟨j,Sq,rfl⟩|c
    ·exact λt=>ao (j+1) (by omega) ((S.ds j Sq).trans t)
    ·rw[S.fe f c]at h;exact h
   ·rcases r A with ⟨B,k,rfl⟩|l
    ·exact ao (B+1) (by omega) ((S.ds B k).trans a)
    ·exact aX A (by rw[S.fe A l];exact s) (by rw[S.fe A l];exact a)
end bM
namespace bM
variable{aj:Type}[DecidableEq aj]{L:List aj}{e:aj->aj->Prop}{d b:aj}{x N:aj->aj}{i:List aj}
def uE(x:aj->aj)(e:aj->aj->Prop)(r m:aj×Bool):Prop:=((r.2=aq/\m=(x r.1,V))\/(r.2=V/\m.2=aq/\(m.1=r.1\/e r.1 m.1)))
structure kO(x:aj->aj)(e:aj->aj->Prop)(d:aj)(Sv:List ((aj×Bool)×Option (aj×Bool))):Prop where
 ao:(Sv.map (·.1)).Nodup
 par:∀(j:Nat) (m r:aj×Bool),Sv[j]?=Z (m,Z r)->∃B<j,∃o,Sv[B]?=Z (r,o)/\uE x e r m
 root:∀(j:Nat) (m:aj×Bool),Sv[j]?=Z (m,Y)->m=(d,V)
variable{Sv:List ((aj×Bool)×Option (aj×Bool))}
structure nK(x:aj->aj)(e:aj->aj->Prop)(d:aj)(Sv:List ((aj×Bool)×Option (aj×Bool)))(q:Nat)(g p:Nat->aj)(u h:Nat->Nat):Prop where
 l2:p 0=d
 gx:Sv[h 0]?=Z ((d,V),Y)
 ds:∀j<q,p (j+1)=x (g j)
 step:∀j<q,g j=p j\/e (p j) (g j)
 lc:∀j<q,Sv[u j]?=Z ((g j,aq),Z (p j,V))
 ld:∀j<q,Sv[h (j+1)]?=Z ((p<|j+1,V),Z (g j,aq))
 bg:∀j<q,h j<u j
 bx:∀j<q,u j<h (j+1)
def kO.path(F:kO x e d Sv):∀(j:Nat) {f:aj}{o:Option (aj×Bool)},Sv[j]?=Z ((f,V),o)->∃q g p u h,nK x e d Sv q g p u h/\p q=f/\h q=j:=by
 intro j;induction j using Nat.strongRecOn with
 |ind j w=>
  intro f o c;cases o with
  |none=>
   have a:=F.root j _ c;have S_:f=d:=congrArg Prod.fst a;subst S_;exact⟨0,λ_=>f,λ_=>f,λ_=>j,λ_=>j,⟨rfl,c,λ_ b=>absurd b (by omega),λ_ b=>absurd b (by omega),λ_ b=>absurd b (by omega),λ_ b=>absurd b (by omega),λ_ b=>absurd b (by omega),λ_ b=>absurd b (by omega)⟩,rfl,rfl⟩
  |some r=>
   let⟨B,y,z,l,a⟩:=F.par j _ r c;let⟨A,D⟩:=r;rcases a with ⟨m,n⟩|⟨_,n,_⟩
   ·have m:D=aq:=m;subst m;have S_:f=x A:=congrArg Prod.fst n;cases z with
    |none=>have:=congrArg Prod.snd (F.root B _ l);cases this
    |some s=>
     let⟨E,G,O,H,I⟩:=F.par B _ s l;let⟨b,J⟩:=s;rcases I with ⟨_,i⟩|⟨i,_,L⟩
     ·have:=congrArg Prod.snd i;cases this
     ·have i:J=V:=i;subst i;let⟨q,g,p,u,h,S,v,N⟩:=w E (by omega) H;refine⟨q+1,λM=>if M<q then g M else A,λM=>if M<=q then p M else f,λM=>if M<q then u M else B,λM=>if M<=q then h M else j,⟨?_,?_,λM k=>?_,λM k=>?_,λM k=>?_,λM k=>?_,λM k=>?_,λM k=>?_⟩,?_,?_⟩
      ·simpa using S.l2
      ·simpa using S.gx
      ·by_cases t:M<q
       ·simp only[aN t,aN (show M+1<=q by omega)];exact S.ds M t
       ·simp only[aT t,aT (show ¬ M+1<=q by omega)];exact S_
      ·by_cases t:M<q
       ·simp only[aN t,aN (show M<=q by omega)];exact S.step M t
       ·simp only[aT t,aN (show M<=q by omega)];rw[show M=q by omega,v];exact L
      ·by_cases t:M<q
       ·simp only[aN t,aN (show M<=q by omega)];exact S.lc M t
       ·simp only[aT t,aN (show M<=q by omega)];rw[show M=q by omega,v];exact l
      ·by_cases t:M<q
       ·simp only[aN t,aN (show M+1<=q by omega)];exact S.ld M t
       ·simp only[aT t,aT (show ¬ M+1<=q by omega)];exact c
      ·by_cases t:M<q
       ·simp only[aN t,aN (show M<=q by omega)];exact S.bg M t
       ·simp only[aT t,aN (show M<=q by omega)];rw[show M=q by omega,N];exact G
      ·by_cases t:M<q
       ·simp only[aN t,aN (show M+1<=q by omega)];exact S.bx M t
       ·simp only[aT t,aT (show ¬ M+1<=q by omega)];exact y
      ·simp only[aT (show ¬ q+1<=q by omega)]
      ·simp only[aT (show ¬ q+1<=q by omega)]
   ·cases n
def kO.mJ(F:kO x e d Sv){j B:Nat}{m:aj×Bool}{o u:Option (aj×Bool)}(t:Sv[j]?=Z (m,o))(D:Sv[B]?=Z (m,u)):j=B:=by
 have lt:j<(Sv.map (·.1)).length:=by rw[bu];exact (fY.mp t).1
 exact (List.getElem?_inj lt F.ao).mp (by rw[gJ,gJ,t,D];rfl)
section
variable{q:Nat}{g p:Nat->aj}{u h:Nat->Nat}
theorem nK.up(S:nK x e d Sv q g p u h){j:Nat}:∀{B:Nat},j<=B->B<=q->h j<=h B
 |0,c,_=>by rw[yI.mp c];exact bq _
 |B+1,c,a=>by
  rcases kn j (B+1) with o|o
  ·have:=S.up (j:=j) (B:=B) (by omega) (by omega);have:=S.bg B (by omega);have:=S.bx B (by omega);omega
  ·rw[show j=B+1 by omega];exact bq _
def nK.wz(S:nK x e d Sv q g p u h){j:Nat}(Sq:j<=q):∃o,Sv[h j]?=Z ((p j,V),o):=by
 cases j with
 |zero=>exact⟨Y,by rw[S.l2];exact S.gx⟩
 |succ j=>exact⟨_,S.ld j (by omega)⟩
def kO.iJ(F:kO x e d Sv)(S:nK x e d Sv q g p u h)(nb:∀j<q,g j≠b)(cv:∀j<q,N (g j)=p j)(fe:∀f,(∀j<q,g j≠f)->N f=x f):pF L e d b x N q g p:=by
 refine⟨S.l2,S.ds,S.step,λj B Sq c a=>?_,λj B Sq c a=>?_,nb,cv,fe⟩
 ·have t:=S.lc j Sq;rw[a]at t;have:=F.mJ t (S.lc B c);rcases q6 j B with o|o|o
  ·have:=S.up (j:=j+1) (B:=B) (by omega) (by omega);have:=S.bx j Sq;have:=S.bg B c;omega
  ·exact o
  ·have:=S.up (j:=B+1) (B:=j) (by omega) (by omega);have:=S.bx B c;have:=S.bg j Sq;omega
 ·let⟨X,t⟩:=S.wz Sq;let⟨X,D⟩:=S.wz c;rw[a]at t;have:=F.mJ t D;rcases q6 j B with o|o|o
  ·have:=S.up (j:=j+1) (B:=B) (by omega) (by omega);have:=S.bx j (by omega);have:=S.bg j (by omega);omega
  ·exact o
  ·have:=S.up (j:=B+1) (B:=j) (by omega) (by omega);have:=S.bx B (by omega);have:=S.bg B (by omega);omega
end
end bM
namespace bM
variable{aj:Type}[DecidableEq aj]{L:List aj}{e:aj->aj->Prop}{d b:aj}{x N:aj->aj}{i:List aj}
def cU(x:aj->aj)(H:aj)(s:Nat):List aj:=((range<|s+1).map λj=>it x j H)
def lG(x:aj->aj)(d H:aj)(s:Nat):Prop:=(it x (s+1) H=d/\∀q,q<=s->x (it x q H)≠it x q H)
def dI.nb(W:dI L e d b x i){g:aj}(c:x g≠g):g≠b:=λa=>c (a ▸ W.pD)
def q4{H f:aj}{s:Nat}:f∈cU x H s↔∃j,j<=s/\it x j H=f:=by
 unfold cU;rw[cV];exact⟨λ⟨j,Sq,a⟩=>⟨j,by rw[g6]at Sq;omega,a⟩,λ⟨j,Sq,a⟩=>⟨j,g6.mpr (by omega),a⟩⟩
def dI.Lx(W:dI L e d b x i){H:aj}(a:H∈i){s:Nat}(c:lG x d H s):(cU x H s).Nodup:=by
 unfold cU;rw[n8,mX];exact AN.imp_of_mem λ{f A} h g o=>W.dist a o λq j=>c.2 q (by rw[g6]at g;omega)
def dI.zM(W:dI L e d b x i){H f:aj}{s:Nat}(c:lG x d H s)(a:f∈cU x H s):f∈L/\f≠d/\f≠b:=by
 let⟨j,Sq,rfl⟩:=q4.mp a;have M:=c.2 j Sq;exact⟨(W.fB _ M).1,W.ne M,W.nb M⟩
def dI.apart(W:dI L e d b x i){H M f:aj}(a:H∈i)(c:M∈i){j B:Nat}(t:lG x d H j)(D:lG x d M B)(g:f∈cU x H j)(h:f∈cU x M B):H=M:=by
 let⟨r,n,k⟩:=q4.mp g;let⟨o,p,l⟩:=q4.mp h;exact W.inj a c (λq m=>t.2 q (by omega)) (λq m=>D.2 q (by omega)) (k.trans l.symm)
def dI.Po(W:dI L e d b x i){s:aj->Nat}(c:∀H∈i,lG x d H<|s H):(i.flatMap λH=>cU x H<|s H).Nodup:=by
 have SJ:∀h:List aj,h.Nodup->(∀H∈h,H∈i)->(h.flatMap λH=>cU x H<|s H).Nodup:=λh=>by
  induction h with
  |nil=>intro X X;exact jX
  |cons M h k=>
   intro ao sub;rw[iH]at ao;rw[oX];refine dn.mpr ⟨W.Lx (sub M<|.head _)<|c M<|sub M<|.head _,k ao.2 λH g=>sub H<|.tail _ g,λf l A j a=>?_⟩;subst a;let⟨H,g,j⟩:=yt.mp j;exact ao.1 (W.apart (sub M<|.head _) (sub H<|.tail _ g) (c M<|sub M<|.head _) (c H<|sub H<|.tail _ g) l j ▸ g)
 exact SJ i W.ao λH g=>g
def dI.steps(W:dI L e d b x i){H:aj}{s:Nat}(c:lG x d H s){j:Nat}(Sq:j<=s):e (it x (j+1) H) (it x j H):=by
 rw[iC];exact (W.fB _<|c.2 j Sq).2.2
def dI.da(W:dI L e d b x i){bs:List aj}(c:∀f,e f b->f∈bs):i.length<=bs.length:=by
 have:=W.ao.length_le_of_subset (l₂:=bs) λf a=>c f (W.last f a).2.1;exact this
def dI.nil:dI L e d b id []:=⟨rfl,rfl,λg c=>absurd rfl c,λg p c=>absurd rfl c,λg c=>absurd rfl c,jX,(λH a=>absurd a iN),λg c=>absurd rfl c⟩
def Rs.of{SF:aj->Bool->Prop}(h:SF d V)(f:∀m I,SF m.1 m.2->uE x e m I->SF I.1 I.2)(nb:¬ SF b aq):Rs L e d b x SF:=
 ⟨h,λg c=>f (g,aq) (x g,V) c<|.inl ⟨rfl,rfl⟩,λg c=>f (g,V) (g,aq) c<|.inr ⟨rfl,rfl,.inl rfl⟩,λg p c a=>f (g,V) (p,aq) c<|.inr ⟨rfl,rfl,.inr a⟩,nb⟩
end bM
namespace G
open L2
variable{M:Int}{R i X:List aI}{b H d A f g:aI}{S0:Type}{s:Nat}{p:ak}{So k:aP}{N:aE ak}{x:aI->aI}
abbrev cF:=aI×Bool
variable{SN SQ W:List cF}{l I m:cF}
def vp:Bool->ab
 |false=>.str "in"
 |true=>.str "out"
def hn(m:cF):List ab:=([aa m.1,vp m.2])
def bG(m:cF):ab:=(.tup (hn m))
def C8(c:hn m=hn I):m=I:=by
 let⟨g,n⟩:=m;let⟨p,r⟩:=I;unfold hn at c;simp only[Bz,and_true]at c;rw[xW];refine⟨v9 c.1,?_⟩;cases n<;>cases r
 ·rfl
 ·exact absurd c.2 ∅
 ·exact absurd c.2 ∅
 ·rfl
def wy(m:cF):ab.keys 7 (hn m)=V:=by let⟨g,n⟩:=m;cases n<;>rfl
def bA(X:List aI)(x:aI->aI):List (List ab×ab):=(X.map λg=>(c_ g,aa<|x g))
def xF(c:g∈X):d1 (bA X x) (c_ g)=Z (aa<|x g):=by
 induction X with
 |nil=>cases c
 |cons f u d=>
  unfold d1 bA;rw[dK,jV];by_cases a:f=g
  ·subst a;simp
  ·have:decide (c_ f=c_ g)=aq:=cN λb=>a (pl b);rw[this];exact d ((bL.mp c).resolve_left λb=>a b.symm)
def zz(X:List aI)(x:aI->aI)(g:aI):(d1 (bA X x)<|c_ g).isSome=decide (g∈X):=by
 by_cases c:g∈X
 ·rw[xF c,cW c];rfl
 ·rw[cN c,qI,BV];intro b;let⟨r,d,a⟩:=pX.mp b;let⟨f,e,rfl⟩:=cV.mp d;exact c (pl (gg a) ▸ e)
def kC(x:aI->aI)(f A:aI):aI->aI:=(λa=>if a=f then A else x a)
def L5(c:f∈X):fE (bA X x) (c_ f) (aa A)=bA X (kC x f A):=by
 unfold fE;have:=zz X x f;rw[qI,cW c]at this;rw[aN this];unfold bA;rw[hI];refine nG λg W=>?_;show (if c_ g=c_ f then (c_ g,aa A) else (c_ g,aa<|x g))=(c_ g,aa<|kC x f A g);unfold kC;by_cases a:g=f
 ·rw[aN (by rw[a]),aN a]
 ·rw[aT λb=>a<|pl b,aT a]
abbrev fG:=List (cF×Option cF)
variable{Sv:fG}
def ro:Option cF->ab
 |none=>.aV
 |some m=>bG m
def cz(Sv:fG):List (List ab×ab):=(Sv.map λr=>(hn r.1,ro r.2))
abbrev cA(Sv:fG):List cF:=Sv.map (·.1)
def Np(ao:(cA Sv).Nodup){m:cF}{o:Option cF}(c:(m,o)∈Sv):d1 (cz Sv) (hn m)=Z (ro o):=by
 induction Sv with
 |nil=>cases c
 |cons f u d=>
  unfold d1 cz;rw[dK,jV];replace ao:=iH.mp (show (f.1::cA u).Nodup from ao);by_cases a:f.1=m
  ·have:f=(m,o):=by
    rcases bL.mp c with c|c
    ·exact c.symm
    ·exact absurd (cV.mpr ⟨_,c,rfl⟩) (a ▸ ao.1)
   subst this;simp
  ·have:decide (hn f.1=hn m)=aq:=cN λb=>a (C8 b);rw[this];exact d ao.2 ((bL.mp c).resolve_left λb=>a (by rw[<-b]))
def zT(Sv:fG)(m:cF):((cz Sv).any λr=>decide (r.1=hn m))=decide (m∈cA Sv):=by
 rw[qi,pX,j5,cV];constructor
 ·rintro⟨r,c,a⟩;let⟨f,b,rfl⟩:=cV.mp c;exact⟨f,b,C8<|gg a⟩
 ·rintro⟨f,b,rfl⟩;exact⟨_,cV.mpr ⟨f,b,rfl⟩,cW rfl⟩
def IT(Sv:fG)(m:cF):(d1 (cz Sv)<|hn m).isSome=decide (m∈cA Sv):=by rw[qI,zT]
def Mw{o:Option cF}(c:m∉cA Sv):fE (cz Sv) (hn m) (ro o)=cz (Sv++[(m,o)]):=by
 unfold fE;rw[aT (by rw[zT,cN c];exact d7)];unfold cz;rw[fQ];rfl
def wV(Sv:fG)(m:cF):eL (bG m) (.aF<|cz Sv)=Z (decide (m∈cA Sv)):=by
 unfold bG;rw[xU,aN<|wy m,IT]
def Ik(X:List aI)(x:aI->aI)(g:aI):eL (aa g) (.aF<|bA X x)=Z (decide (g∈X)):=by
 show eL (.tup<|c_ g) _=_;rw[xU,aN<|ng g,zz]
def rH(g:aI):ha [.im (aa g)]=Z (aU<|cf g,[.im (aa g)]):=rfl
def h3(X:List aI)(x:aI->aI)(m:cF):List cF:=(if m.2 then (m.1,aq)::((cf m.1).filter λp=>decide (p∈X)).map λp=>(p,aq) else [(x m.1,V)])
def G2(g:aI):(cf g).length=4:=rfl
def RH(a:m.1∈X):ov [.aF (bA X x),.im<|bG m]=Z (.lst<|(h3 X x m).map bG,[.aF (bA X x),.im<|bG m]):=by
 let⟨g,n⟩:=m;have b:bD (.aF<|bA X x) (.im<|aa g)=Z (.im<|aa<|x g):=by
  show (if ab.keys 7 (c_ g)=V then (d1 (bA X x)<|c_ g).map ak.im else Y)=_;rw[aN (ng g),xF a];rfl
 cases n with
 |false=>
  unfold ov wa;refine cK (k:=[Z (.aF<|bA X x),Z<|.im<|bG (g,aq),Z<|.im<|aa g]) rfl (bH (So:=[Z (.aF<|bA X x),Z<|.im<|bG (g,aq),Z<|.im<|aa g]) rfl ?_) rfl;refine f5 ?_;refine fC (So:=[Z (.aF<|bA X x),Z<|.im<|bG (g,aq),Z<|.im<|aa g]) rfl (et<|AL (bz (aY<|qE (bz (aY<|ef b) rfl) rfl (hN rfl) rfl) rfl) rfl (hN rfl) rfl)
 |true=>
  unfold ov wa;refine cK (k:=[Z (.aF<|bA X x),Z<|.im<|bG (g,V),Z<|.im<|aa g]) rfl (bH (So:=[Z (.aF<|bA X x),Z<|.im<|bG (g,V),Z<|.im<|aa g]) rfl<|bH (So:=[Z (.aF<|bA X x),Z<|.im<|bG (g,V),Z<|.im<|aa g]) rfl<|et ?_) rfl;have dG:cm 1 [0] (b8<|ag<|a3 1 G.ha<|ai (ah 2) ay) (a9 0) G.F5 G.FL [Z (.aF<|bA X x),Z<|.im<|bG (g,V),Z<|.im<|aa g]=Z (.lst<|((cf g).filter λp=>decide (p∈X)).map λp=>bG (p,aq),[Z (.aF<|bA X x),Z<|.im<|bG (g,V),Z<|.im<|aa g]):=by
   refine gb (w:=(cf g).map aa) (n:=Y) (So:=[Z (.aF<|bA X x),Z<|.im<|bG (g,V),Z<|.im<|aa g]) rfl (kN aa (λp=>decide (p∈X)) (λp=>bG (p,aq)) _ [] (λp W=>?_) (by rw[G2];decide)) rfl;refine⟨[Z (.im<|aa p),Z<|.aF<|bA X x],[Z (.im<|aa p),Z<|.aF<|bA X x],rfl,bV<|ef ?_,λ_=>rfl,λ_=>⟨[Z (.im<|aa p),Z<|.aF<|bA X x],rfl,rfl⟩⟩;show (eL (aa p)<|.aF<|bA X x).map (λu=>ak.im<|.au u)=_;rw[Ik];rfl
  refine cx (aY rfl) (aY dG) rfl rfl ?_;have c:(((cf g).filter λp=>decide (p∈X)).map λp=>bG (p,aq)).length<=4:=by
   rw[bu];exact qD _ _
  show (if [bG (g,aq)].length+_<=100000 then Z (ak.lst<|[bG (g,aq)]++_) else Y)=_;rw[aN (by rw[fi];lia)];unfold h3;rw[aN rfl,dK,hI];rfl
def CZ{j:Nat}{g a:ak}{q:ab}(c:N k=Z (.im q,k))(b:k[j]?=Z (Z g))(d:gV g (.im q) p=Z a)(e:k.set j (Z a)=So):jj j N gV p k=Z So:=by
 unfold jj;rw[b];show (N k).bind _=_;rw[c];show (match k[j]? with|some (Z g)=>(gV g (.im q) p).map λa=>k.set j (Z a)|_=>Y)=_;rw[b];show (gV g (.im q) p).map _=_;rw[d,<-e];rfl
def i5(X:List aI)(f A:aI):Prop:=(f∈X/\A∈X/\A∈cf f)
structure gr(X:List aI)(x:aI->aI)(d:aI)(Sv:fG)(W SQ:List cF)(l:cF)(SN:List cF):Prop where
 eM:bM.kO x (i5 X) d Sv
 gx:Sv[0]?=Z ((d,V),Y)
 inf:∀m∈cA Sv,m.1∈X
 g4:∀m∈W,m∈cA Sv
 eu:∀m∈SQ,m∈cA Sv
 cl:∀m∈cA Sv,m∉W->m∉SQ->∀I∈h3 X x m,I∈cA Sv\/(m=l/\I∈SN)
def FR(a:m.1∈X)(c:I∈h3 X x m):bM.uE x (i5 X) m I:=by
 let⟨g,n⟩:=m;cases n with
 |false=>exact .inl ⟨rfl,cO.mp c⟩
 |true=>
  rcases bL.mp c with rfl|c
  ·exact .inr ⟨rfl,rfl,.inl rfl⟩
  ·let⟨p,hd,rfl⟩:=cV.mp c;let⟨t,D⟩:=gM.mp hd;exact .inr ⟨rfl,rfl,.inr ⟨a,gg D,t⟩⟩
def Rh(c:bM.uE x (i5 X) m I):I∈h3 X x m:=by
 let⟨g,n⟩:=m;rcases c with ⟨t,D⟩|⟨t,D,a⟩
 ·cases t;rw[D];exact .head _
 ·cases t;let⟨p,r⟩:=I;cases D;rcases a with a|⟨_,b,d⟩
  ·cases a;exact .head _
  ·exact .tail _ (cV.mpr ⟨p,gM.mpr ⟨d,cW b⟩,rfl⟩)
def Ic(d:∀g∈X,x g∈X){m I:cF}(b:m.1∈X)(c:I∈h3 X x m):I.1∈X:=by
 rcases FR b c with ⟨_,a⟩|⟨_,_,a|a⟩
 ·rw[a];exact d _ b
 ·rw[a];exact b
 ·exact a.2.1
def gr.len(SF:gr X x d Sv W SQ l SN):Sv.length<=2*X.length:=by
 have:=SF.eM.ao.length_le_of_subset (l₂:=(X.map λg=>(g,aq))++X.map λg=>(g,V)) λm a=>by
  have c:=SF.inf m a;let⟨g,n⟩:=m;cases n with
  |false=>exact c5 _ (cV.mpr ⟨g,c,rfl⟩)
  |true=>exact c3 _ (cV.mpr ⟨g,c,rfl⟩)
 rw[dj,bu,bu,bu]at this;lia
def gr.skip(SF:gr X x d Sv W SQ l (I::SN))(c:I∈cA Sv):gr X x d Sv W SQ l SN:=
 ⟨SF.eM,SF.gx,SF.inf,SF.g4,SF.eu,λm e t D J f=>by
  rcases SF.cl m e t D J f with a|⟨a,b⟩
  ·exact .inl a
  ·rcases bL.mp b with rfl|b
   ·exact .inl c
   ·exact .inr ⟨a,b⟩⟩
def gr.put(u:∀g∈X,x g∈X){d:aI}{Sv:fG}{W SQ:List cF}{l I:cF}{SN:List cF}(SF:gr X x d Sv W SQ l (I::SN))(n:l∈cA Sv)(p:I∈h3 X x l)(c:I∉cA Sv):gr X x d (Sv++[(I,Z l)]) W (SQ++[I]) l SN:=by
 have e:cA (Sv++[(I,Z l)])=cA Sv++[I]:=by unfold cA;rw[fQ];rfl
 have q:=SF.inf l n;refine⟨⟨?_,λj m r a=>?_,λj m a=>?_⟩,?_,λm b=>?_,λm b=>?_,λm b=>?_,λm b t D J v=>?_⟩
 ·show (cA<|Sv++[(I,Z l)]).Nodup;rw[e];exact dn.mpr ⟨SF.eM.ao,fk _ _,λf i A w a=>c (by rw[cO.mp w]at a;rw[<-a];exact i)⟩
 ·rcases kn j Sv.length with Sq|Sq
  ·rw[ly Sq]at a;let⟨B,h,o,y,C⟩:=SF.eM.par j m r a;exact⟨B,h,o,by rw[ly ⋯];exact y,C⟩
  ·have E:j=Sv.length:=by
    have:=(fY.mp a).1;rw[dj,fi]at this;lia
   subst E;rw[pJ (bq _),C4]at a;cases a;let⟨f,i,a⟩:=cV.mp n;let⟨B,h,F⟩:=wx.mp i;refine⟨B,h,f.2,?_,FR q p⟩;rw[ly h,fT h,F,<-a]
 ·rcases kn j Sv.length with Sq|Sq
  ·rw[ly Sq]at a;exact SF.eM.root j m a
  ·rw[pJ Sq]at a;rcases Nat.eq_zero_or_pos (j-Sv.length) with z|z
   ·rw[z]at a;cases a
   ·obtain⟨s,G⟩:∃s,j-Sv.length=s+1:=⟨j-Sv.length-1,⋯⟩;rw[G]at a;cases a
 ·have:0<Sv.length:=(fY.mp SF.gx).1;rw[ly this];exact SF.gx
 ·rw[e]at b;rcases dt.mp b with b|b
  ·exact SF.inf m b
  ·rw[cO.mp b];exact Ic u q p
 ·rw[e];exact c5 _ (SF.g4 m b)
 ·rw[e];rcases dt.mp b with b|b
  ·exact c5 _ (SF.eu m b)
  ·exact c3 _ b
 ·rw[e]at b ⊢;have H:m∈cA Sv:=(dt.mp b).resolve_right λz=>D (c3 _ z);rcases SF.cl m H t (λz=>D<|c5 _ z) J v with z|⟨z,k⟩
  ·exact .inl (c5 _ z)
  ·rcases bL.mp k with rfl|k
   ·exact .inl (c3 _<|.head _)
   ·exact .inr ⟨z,k⟩
abbrev gP(X:List aI)(x:aI->aI)(d:aI)(Sv:fG)(S8:Option ak)(SQ:List cF)(y E:Option ak):aP:=[Z (.aF<|bA X x),Z<|.im<|aa d,Z<|.im<|bG (d,V),Z<|.aF<|cz Sv,S8,Z<|.lst<|SQ.map bG,y,E]
def Me(t:X.length<=1000)(i:∀g∈X,x g∈X){d:aI}{Sv:fG}{W SQ:List cF}{l I:cF}{SN:List cF}{S8:Option ak}(SF:gr X x d Sv W SQ l (I::SN))(j:l∈cA Sv)(k:I∈h3 X x l)(v:SQ.length<=Sv.length):
  ∃b f,rR (gP X x d Sv S8 SQ (Z<|.im<|bG l)<|Z<|.im<|bG I)=Z (.aX,gP X x d b S8 f (Z<|.im<|bG l)<|Z<|.im<|bG I)/\gr X x d b W f l SN/\(∀m∈cA Sv,m∈cA b)/\b.length+SQ.length=Sv.length+f.length:=by
 have w:=SF.len;have e:fw (.im<|bG I) (.aF<|cz Sv)=Z (.im<|.au<|!decide (I∈cA Sv)):=by
  show (eL (bG I)<|.aF<|cz Sv).map (λu=>ak.im<|.au<|!u)=_;rw[wV];rfl
 by_cases c:I∈cA Sv
 ·rw[cW c]at e;exact⟨Sv,SQ,eT (bV<|ef e) rfl,SF.skip c,λm h=>h,rfl⟩
 ·rw[cN c]at e;refine⟨Sv++[(I,Z l)],SQ++[I],?_,SF.put i j k c,λm h=>?_,by rw[dj,dj,fi,fi];lia⟩
  ·unfold rR;refine fC (bV<|ef e) (bH (So:=gP X x d (Sv++[(I,Z l)]) S8 SQ (Z<|.im<|bG l) (Z<|.im<|bG I)) (og (p:=.im (bG l)) (So:=gP X x d Sv S8 SQ (Z<|.im<|bG l) (Z<|.im<|bG I)) rfl ?_) (o_ (oA (g:=.lst (SQ.map bG)) rfl rfl (bz rfl rfl) rfl rfl (uC (by rw[bu];lia)) ?_)))
   ·have a:=Mw (o:=Z l) c;have n:=wy I;have q:(cz Sv).length<100000:=by unfold cz;rw[bu];lia
    have r:gV (.aF<|cz Sv) (.im<|bG I) (.im<|bG l)=Z (.aF<|cz<|Sv++[(I,Z l)]):=by
     show (if ab.keys 7 (hn I)=V/\(cz Sv).length<100000 then Z (ak.aF<|fE (cz Sv) (hn I)<|bG l) else Y)=_;rw[aN ⟨n,q⟩];exact congrArg (λs=>Z<|ak.aF s) a
    exact CZ rfl rfl r rfl
   ·show _=[Z (.aF<|bA X x),Z<|.im<|aa d,Z<|.im<|bG (d,V),Z<|.aF<|cz<|Sv++[(I,Z l)],S8,Z<|.lst<|(SQ++[I]).map bG,Z<|.im<|bG l,Z<|.im<|bG I];rw[fQ];rfl
  ·show m∈cA (Sv++[(I,Z l)]);unfold cA;rw[fQ];exact c5 _ h
theorem Di{X:List aI}{x:aI->aI}(e:X.length<=1000)(f:∀g∈X,x g∈X){d:aI}{W:List cF}{l:cF}{S8:Option ak}:∀(SN:List cF) {Sv:fG}{SQ:List cF} (E:Option ak),gr X x d Sv W SQ l SN->l∈cA Sv->(∀I∈SN,I∈h3 X x l)->SQ.length<=Sv.length->
  ∃a b j,dB (a9 7) rR (SN.map bG) (gP X x d Sv S8 SQ (Z<|.im<|bG l) E)=Z (.aX,gP X x d a S8 b (Z<|.im<|bG l) j)/\gr X x d a W b l []/\(∀m∈cA Sv,m∈cA a)/\a.length+SQ.length=Sv.length+b.length
 |[],Sv,SQ,E,SF,_,_,_=>⟨Sv,SQ,E,rfl,SF,λm c=>c,rfl⟩
 |I::SN,Sv,SQ,E,SF,h,i,k=>by
  let⟨t,u,n,o,S1,bg⟩:=Me (S8:=S8) e f SF h (i I<|.head _) k;let⟨L2,p,Tp,q,r,S6,bx⟩:=Di e f SN (Z<|.im<|bG I) o (S1 l h) (λJ s=>i J<|.tail _ s) ⋯;refine⟨L2,p,Tp,?_,r,λm c=>S6 m<|S1 m c,⋯⟩;rw[dK,dB];show (rR<|gP X x d Sv S8 SQ (Z<|.im<|bG l)<|Z<|.im<|bG I).bind _=_;rw[n];exact q
theorem C3{X:List aI}{x:aI->aI}(i:X.length<=1000)(j:∀g∈X,x g∈X){d:aI}{S8:Option ak}:∀(W:List cF) {Sv:fG}{SQ:List cF}{c:cF} (y E:Option ak),gr X x d Sv W SQ c []->SQ.length<=Sv.length->
  ∃e f p q r,dB (a9 6) q5 (W.map bG) (gP X x d Sv S8 SQ y E)=Z (.aX,gP X x d e S8 f q r)/\gr X x d e [] f p []/\e.length+SQ.length=Sv.length+f.length
 |[],Sv,SQ,c,y,E,SF,_=>⟨Sv,SQ,c,y,E,rfl,SF,rfl⟩
 |l::W,Sv,SQ,c,y,E,SF,s=>by
  have k:=SF.g4 l (.head _);have u:gr X x d Sv W SQ l (h3 X x l):=⟨SF.eM,SF.gx,SF.inf,λm h=>SF.g4 m<|.tail _ h,SF.eu,λm h t D J o=>by
   by_cases a:m=l
   ·subst a;exact .inr ⟨rfl,o⟩
   ·rcases SF.cl m h (λb=>(bL.mp b).elim a t) D J o with b|⟨_,b⟩
    ·exact .inl b
    ·cases b⟩
  let⟨v,z,S5,A,B,S1,bg⟩:=Di (S8:=S8) i j (h3 X x l) E u k (λI C=>C) s;let⟨L2,F,H,L,M,N,O,bx⟩:=C3 i j W (Z<|.im<|bG l) S5 B ⋯;refine⟨L2,F,H,L,M,?_,O,⋯⟩;rw[dK,dB];show (q5<|gP X x d Sv S8 SQ (Z<|.im<|bG l) E).bind _=_;have P:q5 (gP X x d Sv S8 SQ (Z<|.im<|bG l) E)=Z (.aX,gP X x d v S8 z (Z<|.im<|bG l) S5):=by
   unfold q5;refine gS (n:=Y) (w:=(h3 X x l).map bG) (So:=gP X x d Sv S8 SQ (Z<|.im<|bG l) E) ?_ A rfl;have on:=RH (x:=x) (SF.inf l k);have Q:a3 2 G.ov (ai (ah 0)<|ai (ah 6) ay) (gP X x d Sv S8 SQ (Z<|.im<|bG l) E)=Z (.lst<|(h3 X x l).map bG,gP X x d Sv S8 SQ (Z<|.im<|bG l) E):=bO (Sy:=[.aH 0,.aH 6]) rfl rfl rfl on rfl;unfold b8;rw[hD Q];rfl
  rw[P];exact N
structure ze(X:List aI)(x:aI->aI)(d:aI)(Sv:fG):Prop where
 eM:bM.kO x (i5 X) d Sv
 gx:Sv[0]?=Z ((d,V),Y)
 inf:∀m∈cA Sv,m.1∈X
 cl:∀m∈cA Sv,∀I∈h3 X x m,I∈cA Sv
def Fg(q:X.length<=1000)(s:∀g∈X,x g∈X){d:aI}(u:d∈X):∃Sv,pb [.aF (bA X x),.im<|aa d]=Z (.aF<|cz Sv,[.aF (bA X x),.im<|aa d])/\ze X x d Sv:=by
 have w:bM.kO x (i5 X) d [((d,V),Y)]:=by
  refine⟨fk _ _,λj m r a=>?_,λj m a=>?_⟩
  ·cases j with
   |zero=>cases a
   |succ j=>cases a
  ·cases j with
   |zero=>cases a;rfl
   |succ j=>cases a
 have z:gr X x d [((d,V),Y)] [(d,V)] [] (d,V) []:=⟨w,rfl,λm c=>by rw[cO.mp c];exact u,λm c=>c,(λm c=>nomatch c),λm c t=>absurd c t⟩;let⟨SG,A,⟨Sv,l,Td,y,E,rfl,SF⟩⟩:=oV (g:=zG) (b:=yN) (λM k=>∃Sv W l Td y E,k=[Z (.aF<|bA X x),Z<|.im<|aa d,Z<|.im<|bG (d,V),Z<|.aF<|cz Sv,Z<|.lst<|W.map bG,Td,y,E]/\gr X x d Sv W [] l []/\2*(2*X.length-Sv.length)+W.length<=M) (λk=>∃Sv l Td y E,k=[Z (.aF<|bA X x),Z<|.im<|aa d,Z<|.im<|bG (d,V),Z<|.aF<|cz Sv,Z<|.lst [],Td,y,E]/\gr X x d Sv [] [] l [])
  (λM k B=>by
   let⟨Sv,W,l,Td,y,E,rfl,SF,C⟩:=B;cases W with
   |nil=>exact⟨aq,_,rfl,(λe=>by cases e),λ_=>⟨Sv,l,Td,y,E,rfl,SF⟩⟩
   |cons v W=>
    refine⟨V,_,rfl,λ_=>?_,(λe=>by cases e)⟩;let⟨h,i,D,o,p,F,f,bg⟩:=C3 (S8:=Z .cL) q s (v::W) y E SF (hi _);have le:=f.len;rw[ju]at bg;rw[dA]at C;refine⟨.aX,[Z (.aF<|bA X x),Z<|.im<|aa d,Z<|.im<|bG (d,V),Z<|.aF<|cz h,Z<|.lst<|i.map bG,Z .cL,o,p],?_,.inl rfl,2*(2*X.length-h.length)+i.length,⋯,h,i,D,Z .cL,o,p,rfl,⟨f.eM,f.gx,f.inf,f.eu,(λm c=>nomatch c),λm c t U=>f.cl m c (λe=>nomatch e) t⟩,bq _⟩;unfold yN;refine bH (So:=gP X x d Sv (Z<|.lst<|(v::W).map bG) [] y E) rfl (bH (gS (n:=Z (4,.lst<|(v::W).map bG)) (So:=gP X x d Sv (Z .cL) [] y E) rfl F rfl) rfl)) 1000000 _ [Z (.aF<|bA X x),Z<|.im<|aa d,Z<|.im<|bG (d,V),Z<|.aF<|cz [((d,V),Y)],Z<|.lst<|[(d,V)].map bG,Y,Y,Y] ⟨_,_,_,Y,Y,Y,rfl,z,bq _⟩ (by rw[fi,fi];lia)
 refine⟨Sv,?_,SF.eM,SF.gx,SF.inf,λm c I G=>?_⟩
 ·unfold pb Dr;exact cK (k:=[Z (.aF<|bA X x),Z<|.im<|aa d,Z<|.im<|bG (d,V),Z .cL,Z<|.lst [],Td,y,E]) rfl (bH (So:=[Z (.aF<|bA X x),Z<|.im<|aa d,Z<|.im<|bG (d,V),Y,Y,Y,Y,Y]) rfl<|bH (So:=[Z (.aF<|bA X x),Z<|.im<|aa d,Z<|.im<|bG (d,V),Z<|.aF<|cz [((d,V),Y)],Y,Y,Y,Y]) rfl<|bH (So:=[Z (.aF<|bA X x),Z<|.im<|aa d,Z<|.im<|bG (d,V),Z<|.aF<|cz [((d,V),Y)],Z<|.lst<|[(d,V)].map bG,Y,Y,Y]) rfl<|bH A rfl) rfl
 ·rcases SF.cl m c (λe=>nomatch e) (λe=>nomatch e) I G with e|⟨_,e⟩
  ·exact e
  ·cases e
def HU{M:Nat}{SR:List Nat}{N:bo}{C G:List ak}(b:C.length=s)(a:N (C.map Z++replicate (M-s) Y)=Z (.aX,k))(c:iV SR C k 0=G):c8 s M SR N C=Z (.im .aV,G):=by
 unfold c8;rw[aN b,a,<-c]
def sW(ao:(cA Sv).Nodup){m:cF}{o:Option cF}(c:(m,o)∈Sv):bD (.aF<|cz Sv) (.im<|bG m)=Z (.im<|ro o):=by
 show (if ab.keys 7 (hn m)=V then (d1 (cz Sv)<|hn m).map ak.im else Y)=_;rw[aN (wy m),Np ao c];rfl
def RM(c:g∈X):bD (.aF<|bA X x) (.im<|aa g)=Z (.im<|aa<|x g):=by
 show (if ab.keys 7 (c_ g)=V then (d1 (bA X x)<|c_ g).map ak.im else Y)=_;rw[aN (ng g),xF c];rfl
def kU(f A:aI):iS (.im<|aa f) (.im<|aa A)=Z (.im<|.au<|!decide (f=A)):=by
 show (if (ab.bI 8 (aa f)&&ab.bI 8 (aa A))=V then Z (ak.im<|.au<|!cq (aa f) (aa A)) else Y)=_;rw[kQ,kQ,aN<|show (V&&V)=V from rfl,ru]
def Q4(f A:aI):d4 (.im<|aa f) (.im<|aa A)=Z (.im<|.au<|decide (f=A)):=by
 show (if (ab.bI 8 (aa f)&&ab.bI 8 (aa A))=V then Z (ak.im<|.au<|cq (aa f)<|aa A) else Y)=_;rw[kQ,kQ,aN<|show (V&&V)=V from rfl,ru]
def Gg(c:i5 X f A):i5 X A f:=by
 refine⟨c.2.1,c.1,?_⟩;have:=c.2.2;let⟨d,b⟩:=f;let⟨g,p⟩:=A;unfold cf at this ⊢;simp only[bL,iN,ic,xW]at this ⊢;lia
def Il{q:Nat}{g p:Nat->aI}{u h:Nat->Nat}(J:X.length<=1000)(C:∀f∈X,x f∈X)(SF:ze X x d Sv)(S:bM.nK x (i5 X) d Sv q g p u h)(E:p q=H):
  ∃N:aI->aI,n9 [.aF (bA X x),.aF<|cz Sv,.im<|aa H]=Z (.im .aV,[.aF (bA X N),.aF<|cz Sv,.im<|aa H])/\(∀f∈X,N f∈X)/\(∀j<q,N (g j)=p j)/\∀f,(∀j<q,g j≠f)->N f=x f:=by
 have ao:=SF.eM.ao;have y:∀j B,j<q->B<q->g j=g B->j=B:=λj B Sq e a=>by
  have t:=S.lc j Sq;rw[a]at t;have:=SF.eM.mJ t (S.lc B e);rcases q6 j B with o|o|o
  ·have:=S.up (j:=j+1) (B:=B) ⋯ ⋯;have:=S.bx j Sq;have:=S.bg B e;lia
  ·exact o
  ·have:=S.up (j:=B+1) (B:=j) ⋯ ⋯;have:=S.bx B e;have:=S.bg j Sq;lia
 have l:∀{j:Nat}{m:cF}{o:Option cF},Sv[j]?=Z (m,o)->(m,o)∈Sv:=λa=>jS a;have z:∀j<q,g j∈X:=λj Sq=>SF.inf _ (cV.mpr ⟨_,l<|S.lc j Sq,rfl⟩);have F:∀j,j<=q->p j∈X:=λj Sq=>by
  let⟨o,a⟩:=S.wz Sq;exact SF.inf _ (cV.mpr ⟨_,l a,rfl⟩)
 let⟨SG,A,⟨N,Tj,rfl,n,r,v⟩⟩:=oV (g:=EB) (b:=uY) (λM k=>∃(N:aI->aI) (m:cF),k=[Z (.aF<|bA X N),Z<|.aF<|cz Sv,Z<|.im<|aa H,Z<|.im<|bG m]/\(∀f∈X,N f∈X)/\∃B,(∀j,B<=j->j<q->N (g j)=p j)/\(∀f,(∀j,B<=j->j<q->g j≠f)->N f=x f)/\((B<=q/\M=2*B/\m=(p B,V))\/(∃s,B=s+1/\s<q/\M=2*s+1/\m=(g s,aq))))
  (λk=>∃(N:aI->aI) (Tj:Option ak),k=[Z (.aF<|bA X N),Z<|.aF<|cz Sv,Z<|.im<|aa H,Tj]/\(∀f∈X,N f∈X)/\(∀j<q,N (g j)=p j)/\∀f,(∀j<q,g j≠f)->N f=x f)
  (λM k G=>by
   obtain⟨N,m,rfl,n,B,r,v,⟨e,rfl,rfl⟩|⟨s,rfl,w,rfl,rfl⟩⟩:=G
   ·cases B with
    |zero=>
     have a:=sW ao (l S.gx);rw[S.l2];exact⟨aq,_,bV<|cx (aY<|ef a) rfl rfl rfl rfl,(λc=>by cases c),λ_=>⟨N,_,rfl,n,λj Sq=>r j (hi _) Sq,λf i=>v f λj W Sq=>i j Sq⟩⟩
    |succ s=>
     have a:=sW ao (l<|S.ld s e);refine⟨V,_,bV<|cx (aY<|ef a) rfl rfl rfl rfl,λ_=>?_,(λc=>by cases c)⟩;refine⟨.aX,[Z (.aF<|bA X N),Z<|.aF<|cz Sv,Z<|.im<|aa H,Z<|.im<|bG (g s,aq)],?_,.inl rfl,2*s+1,⋯,N,_,rfl,n,s+1,r,v,.inr ⟨s,rfl,e,rfl,rfl⟩⟩;unfold uY;exact bH (eT (So:=[Z (.aF<|bA X N),Z<|.aF<|cz Sv,Z<|.im<|aa H,Z<|.im<|bG (p<|s+1,V)]) rfl rfl) (j2 (ef a) (fs rfl) rfl)
   ·have a:=sW ao (l<|S.lc s w);refine⟨V,_,bV<|cx (aY<|ef a) rfl rfl rfl rfl,λ_=>?_,(λc=>by cases c)⟩;refine⟨.aX,[Z (.aF<|bA X<|kC N (g s)<|p s),Z<|.aF<|cz Sv,Z<|.im<|aa H,Z<|.im<|bG (p s,V)],?_,.inl rfl,2*s,⋯,kC N (g s)<|p s,_,rfl,λf i=>?_,s,λj t D=>?_,λf i=>?_,.inl ⟨⋯,rfl,rfl⟩⟩
    ·unfold uY;have I:gV (.aF<|bA X N) (.im<|aa<|g s) (.im<|aa<|p s)=Z (.aF<|bA X<|kC N (g s)<|p s):=by
      show (if ab.keys 7 (c_<|g s)=V/\(bA X N).length<100000 then Z (ak.aF<|fE (bA X N) (c_<|g s)<|aa<|p s) else Y)=_;rw[aN ⟨ng _,by unfold bA;rw[bu];lia⟩,L5<|z s w]
     refine bH (So:=[Z (.aF<|bA X<|kC N (g s)<|p s),Z<|.aF<|cz Sv,Z<|.im<|aa H,Z<|.im<|bG (g s,aq)]) (fC (So:=[Z (.aF<|bA X N),Z<|.aF<|cz Sv,Z<|.im<|aa H,Z<|.im<|bG (g s,aq)]) rfl<|og (cx (aY<|ef a) rfl rfl rfl<|show bD (.im<|ro<|Z (p s,V)) (aJ 0)=Z (.im<|aa<|p s) from rfl)<|CZ (q:=aa (g s)) rfl rfl I rfl) (j2 (ef a) (fs rfl) rfl)
    ·unfold kC;split
     ·exact F s ⋯
     ·exact n f i
    ·unfold kC;by_cases c:j=s
     ·rw[c,aN rfl]
     ·rw[aT λo=>c<|y j s D w o];exact r j ⋯ D
    ·unfold kC;rw[aT λo=>i s (bq _) w o.symm];exact v f λj t D=>i j ⋯ D) 1000000 (2*q) [Z (.aF<|bA X x),Z<|.aF<|cz Sv,Z<|.im<|aa H,Z<|.im<|bG (p q,V)] ⟨x,_,rfl,C,q,λj t D=>⋯,λf W=>rfl,.inl ⟨bq _,rfl,rfl⟩⟩ (by
   have:q<=X.length:=by
    refine bM.u1 (N:=g) z λj B t D a=>?_;have:=y j B ⋯ D a;lia
   lia)
 refine⟨N,?_,n,r,v⟩;unfold n9 DX;refine HU (k:=[Z (.aF<|bA X N),Z<|.aF<|cz Sv,Z<|.im<|aa H,Tj]) rfl (bH (So:=[Z (.aF<|bA X x),Z<|.aF<|cz Sv,Z<|.im<|aa H,Z<|.im<|bG (H,V)]) rfl ?_) rfl;rw[<-E]at A ⊢;exact A
theorem DV{X:List aI}{x:aI->aI}(a:∀f∈X,x f∈X){H:aI}(b:H∈X):∀s,bM.it x s H∈X
 |0=>b
 |s+1=>by rw[bM.iC];exact a _ (DV a b s)
def Ig(o:s<10000)(h:∀f∈X,x f∈X)(i:H∈X)(t:bM.it x (s+1) H=d)(D:∀j,j<=s->bM.it x j H≠d):
  nQ [.aF (bA X x),.im<|aa d,.im<|aa H]=Z (aU<|bM.cU x H s++[d],[.aF (bA X x),.im<|aa d,.im<|aa H]):=by
 have rs:∀M,(range<|M+1+1).map (λj=>bM.it x j H)=(range<|M+1).map (λj=>bM.it x j H)++[bM.it x (M+1) H]:=λM=>by rw[w8,fQ];rfl
 have fin:∀M,dx (((range<|M+1).map<|λj=>bM.it x j H).map aa) (-1)=Z (aa<|bM.it x M H):=λM=>uT (by
  rw[w8,fQ,fQ];simp)
 let⟨SG,l,rfl⟩:=oV (g:=xD) (b:=Ff) (λM k=>∃B,B<=s+1/\M=s+1-B/\k=[Z (.aF<|bA X x),Z<|.im<|aa d,Z<|.im<|aa H,Z<|aU<|(range<|B+1).map λj=>bM.it x j H])
  (λk=>k=[Z (.aF<|bA X x),Z<|.im<|aa d,Z<|.im<|aa H,Z<|aU<|(range<|s+1+1).map λj=>bM.it x j H])
  (λM k m=>by
   let⟨B,p,rfl,rfl⟩:=m;have n:=kU (bM.it x B H) d;have e:bD (aU<|(range<|B+1).map λj=>bM.it x j H) (aJ<|-1)=Z (.im<|aa<|bM.it x B H):=by
    show (dx (((range<|B+1).map<|λj=>bM.it x j H).map aa)<|-1).map ak.im=_;rw[fin];rfl
   have a:xD [Z (.aF<|bA X x),Z<|.im<|aa d,Z<|.im<|aa H,Z<|aU<|(range<|B+1).map λj=>bM.it x j H]=Z (!decide (bM.it x B H=d),[Z (.aF<|bA X x),Z<|.im<|aa d,Z<|.im<|aa H,Z<|aU<|(range<|B+1).map λj=>bM.it x j H]):=bV (cx (aY<|cx rfl (aY rfl) rfl rfl e) rfl rfl rfl n);rcases kn B (s+1) with q|r
   ·rw[cN (D B ⋯)]at a;refine⟨V,_,a,λ_=>?_,(λc=>by cases c)⟩;refine⟨.aX,_,o_ (oA (g:=aU ((range<|B+1).map λj=>bM.it x j H)) rfl rfl (bz (aY<|cx rfl (aY<|cx rfl (aY rfl) rfl rfl e) rfl rfl<|RM<|DV h i B) rfl) rfl rfl (uC (by rw[bu,bu,iI];lia)) rfl),.inl rfl,s+1-(B+1),⋯,B+1,⋯,rfl,?_⟩;rw[rs];show [_,_,_,Z<|ak.lst<|((range<|B+1).map λj=>bM.it x j H).map aa++[aa (x<|bM.it x B H)]]=[_,_,_,Z<|ak.lst<|(((range<|B+1).map λj=>bM.it x j H)++[bM.it x (B+1) H]).map aa];rw[fQ,bM.iC];rfl
   ·have:B=s+1:=⋯
    subst this;rw[cW t]at a;exact⟨aq,_,a,(λc=>by cases c),λ_=>rfl⟩) 1000000 (s+1) [Z (.aF<|bA X x),Z<|.im<|aa d,Z<|.im<|aa H,Z<|aU [H]] ⟨0,hi _,rfl,rfl⟩ ⋯
 unfold nQ AZ;refine cK (k:=[Z (.aF<|bA X x),Z<|.im<|aa d,Z<|.im<|aa H,Z .cL]) rfl (bH (So:=[Z (.aF<|bA X x),Z<|.im<|aa d,Z<|.im<|aa H,Z<|aU [H]]) rfl<|bH l ?_) rfl;rw[rs,t];rfl
theorem AR:∀(SA b:List (List ab×ab)),((b++SA).map (·.1)).Nodup->SA.foldl (λd r=>fE d r.1 r.2) b=b++SA
 |[],b,_=>(cp b).symm
 |r::SA,b,c=>by
  rw[lQ];have a:fE b r.1 r.2=b++[r]:=by
   unfold fE;rw[aT];intro e;let⟨f,g,h⟩:=pX.mp e;rw[fQ]at c;exact (dn.mp c).2.2 f.1 (cV.mpr ⟨f,g,rfl⟩) r.1 (.head _) (gg h)
  rw[a,AR SA (b++[r]) (by rw[b6];exact c),b6];rfl
def Oh{SA:List (List ab×ab)}(c:(SA.map (·.1)).Nodup):g_ SA=SA:=AR SA [] c
def tQ{TG:Type}{N:S0->TG}{H:List S0}(inj:∀f∈H,∀A∈H,N f=N A->f=A)(ao:H.Nodup):(H.map N).Nodup:=by
 rw[n8,mX];exact ao.imp_of_mem λ{f A} b d c a=>c (inj f b A d a)
def Kq(X:List aI):kX (X.map λg=>.tup [aa g,aa g])=Z (bA X id):=by
 induction X with
 |nil=>rfl
 |cons g u a=>
  rw[dK];show (kX<|u.map λg=>.tup [aa g,aa g]).map (λm=>(c_ g,aa g)::m)=_;rw[a];rfl
def JJ(ao:X.Nodup)(b:X.length<=1000):nY [.lst (X.map λg=>.tup [aa g,aa g])]=Z (.aF<|bA X id):=by
 have t:((bA X id).all λr=>ab.keys 7 r.1)=V:=by
  rw[i8];intro r c;let⟨f,e,rfl⟩:=cV.mp c;exact ng f
 have D:(bA X id).length<=1000:=by unfold bA;rw[bu];exact b
 have d:g_ (bA X id)=bA X id:=Oh (by
  unfold bA;rw[hI];exact tQ (λf W A W a=>pl a) ao)
 show (kX<|X.map λg=>.tup [aa g,aa g]).bind _=_;rw[Kq];show (if ((bA X id).all λr=>ab.keys 7 r.1)=V/\(bA X id).length<=1000 then Z (ak.aF<|g_<|bA X id) else Y)=_;rw[aN ⟨t,D⟩,d]
abbrev dy:=List aI
variable{Ta:List dy}
def aL(l:dy):ab:=(.tup (l.map aa))
def q_:ab->dy
 |.tup H=>H.map nD
 |_=>[]
def tZ(l:dy):q_ (aL l)=l:=by
 show (l.map aa).map nD=l;rw[hI];exact (nG λg X=>w_ g).trans (nd l)
def I_{J v:dy}(c:aL J=aL v):J=v:=by rw[<-tZ J,c,tZ]
def MF{H:List ab}{SH:List dy}(c:H.Perm (SH.map aL)):∃b:List dy,b.Perm SH/\H=b.map aL:=by
 have a:H=(H.map q_).map aL:=by
  rw[hI];refine (nd H).symm.trans (nG λf d=>?_);let⟨l,X,rfl⟩:=cV.mp (c.mem_iff.mp d);show aL l=aL (q_<|aL l);rw[tZ]
 refine⟨H.map q_,?_,a⟩;have:=c.map q_;rw[hI]at this;exact this.trans (AB<|(nG λl X=>tZ l).trans<|nd SH)
theorem yD:∀SA:dy,ab.di 5 (SA.map aa)=V
 |[]=>rfl
 |g::SA=>by rw[dK,ab.di,yD SA];rfl
theorem qS:∀J v:dy,fq 5 (J.map aa) (v.map aa)=V
 |[],[]=>rfl
 |[],b::v=>yD (b::v)
 |d::J,[]=>yD (d::J)
 |d::J,b::v=>by
  rw[dK,dK,fq,qS J v];rfl
def OQ(ao:Ta.Nodup)(c:Ta.length<=63)(ne:∀l∈Ta,l≠[]):nE (Ta.map aL):=by
 refine⟨⟨by rw[bu];exact c,λf b A d=>?_,tQ (λf X A X a=>I_ a) ao⟩,.inr λf b=>?_⟩
 ·let⟨J,X,rfl⟩:=cV.mp b;let⟨v,X,rfl⟩:=cV.mp d;exact qS J v
 ·let⟨J,e,rfl⟩:=cV.mp b;cases J with
  |nil=>exact absurd rfl (ne _ e)
  |cons g u=>rfl
def qp(Ta:List dy):Prop:=(Ta.Pairwise λd b=>bc (aL d) (aL b)=V)
def IU(ao:Ta.Nodup)(a:Ta.length<=63)(ne:∀l∈Ta,l≠[]):∃F:List dy,iO (Ta.map aL)=Z (.lst<|F.map aL)/\F.Perm Ta/\qp F:=by
 have n:=OQ ao a ne;let⟨F,t,D⟩:=MF (jB<|Ta.map aL);refine⟨F,?_,t,?_⟩
 ·unfold iO;rw[aN (tv.mpr n),D]
 ·have:=uw n.ord.ao n.ord.js;rw[D]at this;exact mX.mp this
open Classical in
def eA(x:aI->aI)(d H:aI):Nat:=(if c:∃s,bM.lG x d H s then c.choose else 0)
def ho(x:aI->aI)(d b H:aI):dy:=(d::((bM.cU x H<|eA x d H).reverse++[b]))
def gC(Sv:fG)(g:aI):Bool:=(decide ((g,aq)∈cA Sv) && !decide ((g,V)∈cA Sv))
structure es(X:List aI)(d b:aI)(x:aI->aI)(i:List aI)(Sv:fG):Prop where
 w:bM.dI X (i5 X) d b x i
 hf:∀f∈X,x f∈X
 s:ze X x d Sv
def es.jI(SQ:es X d b x i Sv){H:aI}(a:H∈i):bM.lG x d H (eA x d H):=by
 have c:∃s,bM.lG x d H s:=SQ.w.comes a;unfold eA;rw[dif_pos c];exact c.choose_spec
def es.da(SQ:es X d b x i Sv):i.length<=4:=SQ.w.da (bs:=cf b) λf c=>(Gg c).2.2
def es.xg(SQ:es X d b x i Sv){H:aI}(a:H∈i):eA x d H+1<=X.length:=by
 have c:=SQ.jI a;exact bM.u1 (N:=λj=>bM.it x j H) (λj Sq=>(SQ.w.fB _ (c.2 j ⋯)).1) λj B t D=>SQ.w.dist a t λq e=>c.2 q ⋯
def es.J2(SQ:es X d b x i Sv):(i.map<|ho x d b).Nodup:=by
 refine tQ (λf c A e a=>?_) SQ.w.ao;unfold ho at a;have h:=List.append_inj_left' (List.cons.inj a).2 rfl;have j:bM.cU x f (eA x d f)=bM.cU x A (eA x d A):=List.reverse_inj.mp h;have g:f∈bM.cU x f (eA x d f):=bM.q4.mpr ⟨0,hi _,rfl⟩;exact SQ.w.apart c e (SQ.jI c) (SQ.jI e) g (j ▸ g)
def es.next(I:X.length<=1000)(E:d≠b)(nb:b∉cf d)(SQ:es X d b x i Sv)(c:(b,aq)∈cA Sv):
  ∃(H:aI) (N:aI->aI),((b,aq),Z (H,V))∈Sv/\n9 [.aF (bA X x),.aF<|cz Sv,.im<|aa H]=Z (.im .aV,[.aF (bA X N),.aF<|cz Sv,.im<|aa H])/\bM.dI X (i5 X) d b N (i++[H])/\∀f∈X,N f∈X:=by
 let⟨⟨m,o⟩,F,a⟩:=cV.mp c;cases a;let⟨j,Sq,J⟩:=wx.mp F;have D:Sv[j]?=Z ((b,aq),o):=by rw[fT Sq,J]
 cases o with
 |none=>exact absurd (SQ.s.eM.root j _ D) ↥0
 |some r=>
  let⟨B,am,an,L,M⟩:=SQ.s.eM.par j _ _ D;let⟨H,n⟩:=r;rcases M with ⟨_,a⟩|⟨O,_,k⟩
  ·exact absurd a ↥0
  ·cases O;let⟨q,g,p,u,h,S,v,ap⟩:=SQ.s.eM.path B L;have G:∀y<q,g y≠b:=λy T e=>by
    have t:=S.lc y T;rw[e]at t;have:=SQ.s.eM.mJ t D;have:=S.bx y T;have:=S.up (j:=y+1) (B:=q) ⋯ (bq _);lia
   have P:i5 X H b:=by
    rcases k with k|k
    ·exfalso;have k:b=H:=k;cases q with
     |zero=>exact E (S.l2.symm.trans<|v.trans k.symm)
     |succ q=>
      have z:=S.ds q (oI _);rw[v,<-k]at z;have Q:=G q (oI _);have:=SQ.w.on (g q) (λe=>Q (by rw[<-e,<-z])) (by rw[<-z];exact λe=>E e.symm);rw[<-z]at this;exact this SQ.w.pD
    ·exact k
   let⟨N,a,R,U,al⟩:=Il I SQ.hf SQ.s S v;refine⟨H,N,F,a,?_,R⟩;have:=bM.lay SQ.w (SQ.s.eM.iJ S G U al) (λf A e=>⟨e.1,e.2.1⟩) (by rw[v];exact P) λe=>nb e.2.2;rw[v]at this;exact this
def t8(b:aI)(n:Bool){k:aP}{j:Nat}(c:k[j]?=Z (Z<|.im<|aa b)):cB (ai (ah j)<|ai (ag<|aA<|vp n) ay) k=Z (.im<|bG (b,n),k):=by
 refine qE (Sy:=[.aH j,.bY<|.im<|vp n]) (C:=[.im (aa b),.im<|vp n]) (So:=k) ?_ ?_ (hN rfl) rfl
 ·simp -implicitDefEqProofs [c]
 ·simp -implicitDefEqProofs [c]
abbrev f_(X:List aI)(d b:aI)(x:aI->aI)(i:List aI)(Sv:fG)(y E:Option ak):aP:=[Z (aB X),Z<|.im<|aa d,Z<|.im<|aa b,Z<|.aF<|bA X x,Z<|aU i,Z<|.aF<|cz Sv,y,E]
def zr(g:aI)(n:Bool)(Sv:fG):eV (.im<|bG (g,n)) (.aF<|cz Sv)=Z (.im<|.au<|decide ((g,n)∈cA Sv)):=by
 show (eL (bG (g,n))<|.aF<|cz Sv).map (λu=>ak.im<|.au u)=_;rw[wV];rfl
def Ni(g:aI)(n:Bool)(Sv:fG):fw (.im<|bG (g,n)) (.aF<|cz Sv)=Z (.im<|.au<|!decide ((g,n)∈cA Sv)):=by
 show (eL (bG (g,n))<|.aF<|cz Sv).map (λu=>ak.im<|.au<|!u)=_;rw[wV];rfl
def Lb(e:X.length<=1000)(j:d∈X)(k:d≠b)(nb:b∉cf d)(SQ:es X d b x i Sv)(c:(b,aq)∈cA Sv):
  ∃(H:aI) (N:aI->aI) (a:fG),sx (f_ X d b x i Sv Y Y)=Z (.aX,f_ X d b N (i++[H]) a Y Y)/\es X d b N (i++[H]) a:=by
 let⟨H,N,l,n,W,f⟩:=SQ.next e k nb c;let⟨a,o,SF⟩:=Fg e f j;refine⟨H,N,a,?_,W,f,SF⟩;have t:=SQ.da;unfold sx;have p:cB (ai (ah 2)<|ai (ag<|aA<|.str "in") ay) (f_ X d b x i Sv Y Y)=Z (.im<|bG (b,aq),f_ X d b x i Sv Y Y):=t8 b aq rfl;have q:ac bD (ag<|ac bD (ah 5)<|ag<|cB<|ai (ah 2)<|ai (ag<|aA<|.str "in") ay) (ag<|aA<|.int 0) (f_ X d b x i Sv Y Y)=Z (.im<|aa H,f_ X d b x i Sv Y Y):=
  cx (aY<|cx rfl (aY p) rfl rfl<|sW SQ.s.eM.ao l) rfl rfl rfl rfl;have h:(i.map aa)++[aa H]=(i++[H]).map aa:=by rw[fQ];rfl
 refine bH (So:=f_ X d b x (i++[H]) Sv Y Y) (o_ (oA (g:=aU i) rfl rfl (bz (aY q) rfl) rfl rfl (uC (by rw[bu];lia)) (by rw[h];rfl))) ?_;have r:bD (aU<|i++[H]) (aJ<|-1)=Z (.im<|aa H):=by
  show (dx ((i++[H]).map aa)<|-1).map ak.im=_;rw[<-h,uT<|tY];rfl
 refine bH (So:=f_ X d b N (i++[H]) Sv Y Y) (o_<|bO (Sy:=[.aH 3,.aH 5,.bY<|.im<|aa H]) (bz rfl<|bz rfl<|bz (aY<|cx rfl (aY rfl) rfl rfl r) rfl) rfl rfl n rfl) ?_;exact jc (bO (Sy:=[.aH 3,.aH 1]) rfl rfl rfl o rfl) (fs rfl) rfl
def PI(g:X.length<=1000)(SQ:es X d b x i Sv){H:aI}(c:H∈i):tl [Z (.im<|aa H),Z<|.im<|aa b,Z<|.aF<|bA X x,Z<|.im<|aa d]=Z (.im<|aL<|ho x d b H,[Z (.im<|aa H),Z<|.im<|aa b,Z<|.aF<|bA X x,Z<|.im<|aa d]):=by
 have L:=SQ.jI c;have h:=SQ.xg c;have a:=Ig (X:=X) (x:=x) (d:=d) (H:=H) (s:=eA x d H) ⋯ SQ.hf (SQ.w.fB H<|L.2 0<|hi _).1 L.1 λj Sq=>SQ.w.ne (L.2 j Sq);have e:(bM.cU x H<|eA x d H).length=eA x d H+1:=by unfold bM.cU;rw[bu,iI]
 have f:a3 3 G.nQ (ai (ah 2)<|ai (ah 3)<|ai (ah 0) ay) [Z (.im<|aa H),Z<|.im<|aa b,Z<|.aF<|bA X x,Z<|.im<|aa d]=Z (aU<|bM.cU x H (eA x d H)++[d],[Z (.im<|aa H),Z<|.im<|aa b,Z<|.aF<|bA X x,Z<|.im<|aa d]):=bO (Sy:=[.aH 2,.aH 3,.aH 0]) rfl rfl rfl a rfl;have ad:ac du (ag<|ec<|ai (ah 1) ay) (ag<|a3 3 G.nQ<|ai (ah 2)<|ai (ah 3)<|ai (ah 0) ay) [Z (.im<|aa H),Z<|.im<|aa b,Z<|.aF<|bA X x,Z<|.im<|aa d]=Z (aU (b::(bM.cU x H (eA x d H)++[d])),[Z (.im<|aa H),Z<|.im<|aa b,Z<|.aF<|bA X x,Z<|.im<|aa d]):=by
  refine cx (aY rfl) (aY f) rfl rfl ?_;show (if [aa b].length+((bM.cU x H (eA x d H)++[d]).map aa).length<=100000 then Z (ak.lst<|[aa b]++(bM.cU x H (eA x d H)++[d]).map aa) else Y)=_;rw[aN (by rw[bu,dj,e,fi,fi];lia)];rfl
 unfold tl zb;rw[bz (aY ad) rfl];show Z (ak.im<|.tup ((b::(bM.cU x H (eA x d H)++[d])).map aa).reverse,_)=_;rw[<-List.map_reverse];unfold aL ho;rw[w4,E6];rfl
def K4(ao:X.Nodup)(e:X.length<=1000)(m:d∈X)(Q:b∈X)(o:d≠b)(nb:b∉cf d):
  ∃(x:aI->aI) (i:List aI) (Sv:fG) (F:List dy),pw [aB X,.im<|aa d,.im<|aa b]=Z (.im<|.tup [.tup ((X.filter<|gC Sv).map aa),.tup<|F.map aL],[aB X,.im<|aa d,.im<|aa b])/\es X d b x i Sv/\(b,aq)∉cA Sv/\F.Perm (i.map<|ho x d b)/\qp F:=by
 let⟨f,t,v⟩:=Fg (x:=id) e (λg c=>c) m;have y:es X d b id [] f:=⟨bM.dI.nil,λg c=>c,v⟩;have z:cm 1 [] (b8<|ah 0) (a9 0) dm G.A1 [Z (aB X),Z<|.im<|aa d,Z<|.im<|aa b,Y,Y,Y,Y,Y]=Z (.lst<|X.map λg=>.tup [aa g,aa g],[Z (aB X),Z<|.im<|aa d,Z<|.im<|aa b,Y,Y,Y,Y,Y]):=by
  refine gb (w:=X.map aa) (n:=Y) (So:=[Z (aB X),Z<|.im<|aa d,Z<|.im<|aa b,Y,Y,Y,Y,Y]) rfl (gm aa (λg=>.tup [aa g,aa g]) _ (λg W=>?_) ⋯) rfl;exact⟨[Z (.im<|aa g)],_,[Z (.im<|aa g)],rfl,rfl,rfl,rfl⟩
 let⟨SG,A,⟨x,i,Sv,rfl,SQ,B⟩⟩:=oV (g:=yG) (b:=sx) (λM k=>∃x i Sv,k=f_ X d b x i Sv Y Y/\es X d b x i Sv/\4-i.length<=M) (λk=>∃x i Sv,k=f_ X d b x i Sv Y Y/\es X d b x i Sv/\(b,aq)∉cA Sv)
  (λM k C=>by
   let⟨x,i,Sv,rfl,SQ,p⟩:=C;have h:yG (f_ X d b x i Sv Y Y)=Z (decide ((b,aq)∈cA Sv),f_ X d b x i Sv Y Y):=bV (cx (aY<|t8 b aq rfl) rfl rfl rfl<|zr b aq Sv);by_cases c:(b,aq)∈cA Sv
   ·rw[cW c]at h;let⟨H,N,D,a,q⟩:=Lb e m o nb SQ c;have:=q.da;rw[dj,fi]at this;exact⟨V,_,h,λ_=>⟨.aX,_,a,.inl rfl,4-(i++[H]).length,by rw[dj,fi];lia,N,_,D,rfl,q,bq _⟩,(λj=>by cases j)⟩
   ·rw[cN c]at h;exact⟨aq,_,h,(λj=>by cases j),λ_=>⟨x,i,Sv,rfl,SQ,c⟩⟩) 1000000 4 (f_ X d b id [] f Y Y) ⟨id,[],f,rfl,y,Nat.sub_le _ _⟩ ⋯
 have da:=SQ.da;have R:(i.map<|ho x d b).length=i.length:=bu _;let⟨F,r,Tb,up⟩:=IU SQ.J2 ⋯ (λl E=>by
  let⟨H,W,rfl⟩:=cV.mp E;exact s_ _ _)
 refine⟨x,i,Sv,F,?_,SQ,B,Tb,up⟩;have I:cm 1 [5] (b8<|ah 0) (a9 0) G.xI G.DT (f_ X d b x i Sv Y Y)=Z (aU<|X.filter<|gC Sv,f_ X d b x i Sv Y Y):=by
  refine gb (w:=X.map aa) (n:=Y) (So:=f_ X d b x i Sv Y Y) rfl (kN aa (gC Sv) aa _ [] (λg W=>?_) (by rw[ju];lia)) rfl;refine⟨[Z (.im<|aa g),Z<|.aF<|cz Sv],[Z (.im<|aa g),Z<|.aF<|cz Sv],rfl,?_,λ_=>rfl,λ_=>⟨[Z (.im<|aa g),Z<|.aF<|cz Sv],rfl,rfl⟩⟩;have S1:aZ (ac eV (ag<|cB<|ai (ah 0)<|ai (ag<|aA<|.str "in") ay)<|ah 1) [Z (.im<|aa g),Z<|.aF<|cz Sv]=Z (decide ((g,aq)∈cA Sv),[Z (.im<|aa g),Z<|.aF<|cz Sv]):=bV (cx (aY<|t8 g aq rfl) rfl rfl rfl<|zr g aq Sv);have S6:aZ (ac fw (ag<|cB<|ai (ah 0)<|ai (ag<|aA<|.str "out") ay)<|ah 1) [Z (.im<|aa g),Z<|.aF<|cz Sv]=Z (!decide ((g,V)∈cA Sv),[Z (.im<|aa g),Z<|.aF<|cz Sv]):=bV (cx (aY<|t8 g V rfl) rfl rfl rfl<|Ni g V Sv);unfold xI gC;cases s:decide ((g,aq)∈cA Sv) with
  |false=>rw[s]at S1;exact kB S1
  |true=>rw[s]at S1;exact eg S1 (S6.trans (by rw[zC]))
 have J:cm 1 [2,3,1] (b8<|ah 4) (a9 0) dm G.tl (f_ X d b x i Sv (Z<|aU<|X.filter<|gC Sv) Y)=Z (.lst<|i.map λH=>aL<|ho x d b H,f_ X d b x i Sv (Z<|aU<|X.filter<|gC Sv) Y):=by
  refine gb (w:=i.map aa) (n:=Z (4,aU i)) (So:=[Z (aB X),Z<|.im<|aa d,Z<|.im<|aa b,Z<|.aF<|bA X x,Z .cL,Z<|.aF<|cz Sv,Z<|aU<|X.filter<|gC Sv,Y]) rfl (gm aa (λH=>aL<|ho x d b H) _ (λH p=>?_) ⋯) rfl;exact⟨[Z (.im<|aa H),Z<|.im<|aa b,Z<|.aF<|bA X x,Z<|.im<|aa d],_,[Z (.im<|aa H),Z<|.im<|aa b,Z<|.aF<|bA X x,Z<|.im<|aa d],rfl,rfl,PI e SQ p,rfl⟩
 have L:mN [.lst (i.map λH=>aL<|ho x d b H)]=Z (.lst<|F.map aL):=by
  rw[hI]at r;cases i with
  |nil=>
   have:F=[]:=List.perm_nil.mp Tb;rw[this];rfl
  |cons H u=>exact r
 have O:aZ (ac d4 (ah 1)<|ah 2) [Z (aB X),Z<|.im<|aa d,Z<|.im<|aa b,Y,Y,Y,Y,Y]=Z (aq,[Z (aB X),Z<|.im<|aa d,Z<|.im<|aa b,Y,Y,Y,Y,Y]):=bV (ef ((Q4 d b).trans (by rw[cN o])));have P:aZ (ac eV (ah 2)<|ag<|a3 1 G.ha<|ai (ah 1) ay) [Z (aB X),Z<|.im<|aa d,Z<|.im<|aa b,Y,Y,Y,Y,Y]=Z (aq,[Z (aB X),Z<|.im<|aa d,Z<|.im<|aa b,Y,Y,Y,Y,Y]):=by
  refine bV (cx rfl (aY<|bO (Sy:=[.aH 1]) rfl rfl rfl (rH d) rfl) rfl rfl ?_);show (eL (aa b)<|aU<|cf d).map (λu=>ak.im<|.au u)=_;rw[rg,cN nb];rfl
 unfold pw BC;refine cK (k:=f_ X d b x i Sv (Z<|aU<|X.filter<|gC Sv) (Z<|.lst<|i.map λH=>aL<|ho x d b H)) rfl ?_ rfl;refine bH (eT (dO O P) rfl) (bH (So:=[Z (aB X),Z<|.im<|aa d,Z<|.im<|aa b,Z<|.aF<|bA X id,Y,Y,Y,Y]) (j2 (dh (bz (aY z) rfl) rfl<|JJ ao e) (fs rfl) rfl) ?_);refine bH (So:=[Z (aB X),Z<|.im<|aa d,Z<|.im<|aa b,Z<|.aF<|bA X id,Z<|aU [],Y,Y,Y]) rfl (bH (So:=f_ X d b id [] f Y Y) (jc (bO (Sy:=[.aH 3,.aH 1]) rfl rfl rfl t rfl) (fs rfl) rfl)<|bH A ?_);refine bH (j2 I (fs rfl) rfl) (bH (j2 J (fs rfl) rfl)<|et<|qE (bz (aY<|dh (bz rfl rfl) rfl rfl)<|bz (aY<|dh (bz (aY<|dh (bz rfl rfl) rfl L) rfl) rfl rfl) rfl) rfl (hN rfl) rfl)
def x9(H:List aI)(g:aI):fw (.im<|aa g) (aU H)=Z (.im<|.au<|!decide (g∈H)):=by
 show (eL (aa g)<|aU H).map (λu=>ak.im<|.au<|!u)=_;rw[rg];rfl
def JV(bs:List aI):d4 (aU bs) (.lst [])=Z (.im<|.au<|decide (bs=[])):=by
 show (if (ab.di 8 (bs.map aa)&&ab.di 8 [])=V then Z (ak.im<|.au<|fN (bs.map aa) []) else Y)=_;rw[qV,aN<|show (V&&ab.di 8 [])=V from rfl];cases bs with
 |nil=>rfl
 |cons d u=>rfl
def Hu(H:List aI)(g:aI):fw (.im<|aa g) (aB H)=Z (.im<|.au<|!decide (g∈H)):=by
 show (eL (aa g)<|aB H).map (λu=>ak.im<|.au<|!u)=_;rw[Ef];rfl
def Af(H:List aI)(g:aI):eV (.im<|aa g) (aB H)=Z (.im<|.au<|decide (g∈H)):=by
 show (eL (aa g)<|aB H).map (λu=>ak.im<|.au u)=_;rw[Ef];rfl
def N9(H:List aI)(g:aI):eV (.im<|aa g) (aU H)=Z (.im<|.au<|decide (g∈H)):=by
 show (eL (aa g)<|aU H).map (λu=>ak.im<|.au u)=_;rw[rg];rfl
def PU{c:ak}(h:en (s+2) c)(N:X.length<=1000)(y:X≠[]):∃T,en s T/\(n1 [c,aB X]=Z (.im .aV,[T,aB X])\/∃d b,d∈X/\b∈X/\d≠b/\b∉cf d/\n1 [c,aB X]=Z (.im<|.tup [aa d,aa b],[T,aB X])):=by
 have O:=j_.mpr y;let⟨v,t,z,A,P,Sr⟩:=gX (s:=s+1) (M:=(X.length:Int)) h ⋯ ⋯;obtain⟨d,m⟩:∃d,X[v.toNat]?=Z d:=⟨X[v.toNat]'⋯,by simp⟩;let⟨o,rfl⟩:=h.lst;let⟨e,rfl⟩:=Sr.lst;have B:cH [aB X]=Z (aJ (X.length:Int)):=by
  show Z (ak.im<|.int ((X.map aa).length:Int))=_;rw[bu]
 have C:bD (aB X) (aJ v)=Z (.im<|aa d):=by
  show (dx (X.map aa) v).map ak.im=_;rw[pA A m];rfl
 have p:bS 2 (ac bD (ah 1)<|ag<|a3 2 G.ei<|ai (ah 0)<|ai (ag<|bT cH<|ai (ah 1) ay) ay) [Z (.lst o),Z<|aB X,Y,Y]=Z (.aX,[Z (.lst e),Z<|aB X,Z<|.im<|aa d,Y]):=
  jc (rh (So:=[Z (.lst o),Z<|aB X,Y,Y]) (S3:=[Z (.lst e),Z<|aB X,Y,Y]) rfl (hD<|bO (Sy:=[.aH 0,.bY<|aJ (X.length:Int)]) (bz rfl<|bz (aY<|dh (bz rfl rfl) rfl B) rfl) rfl rfl z rfl) rfl rfl C) (fs rfl) rfl;have E:cm 1 [2] (b8<|ah 1) (a9 0) G.sC G.wk [Z (.lst e),Z<|aB X,Z<|.im<|aa d,Y]=Z (aU<|X.filter λg=>!decide (g=d) && !decide (g∈cf d),[Z (.lst e),Z<|aB X,Z<|.im<|aa d,Y]):=by
  refine gb (w:=X.map aa) (n:=Y) (So:=[Z (.lst e),Z<|aB X,Z<|.im<|aa d,Y]) rfl (kN aa (λg=>!decide (g=d) && !decide (g∈cf d)) aa _ [] (λg W=>?_) (by rw[ju];lia)) rfl;refine⟨[Z (.im<|aa g),Z<|.im<|aa d],[Z (.im<|aa g),Z<|.im<|aa d],rfl,?_,λ_=>rfl,λ_=>⟨[Z (.im<|aa g),Z<|.im<|aa d],rfl,rfl⟩⟩;have S1:aZ (ac iS (ah 0)<|ah 1) [Z (.im<|aa g),Z<|.im<|aa d]=Z (!decide (g=d),[Z (.im<|aa g),Z<|.im<|aa d]):=bV (ef<|kU g d);have S6:aZ (ac fw (ah 0)<|ag<|a3 1 G.ip<|ai (ah 1) ay) [Z (.im<|aa g),Z<|.im<|aa d]=Z (!decide (g∈cf d),[Z (.im<|aa g),Z<|.im<|aa d]):=bV (cx rfl (aY<|bO (Sy:=[.aH 1]) rfl rfl rfl (t_ d) rfl) rfl rfl<|x9 (cf d) g);unfold sC;cases q:(!decide (g=d)) with
  |false=>rw[q]at S1;exact kB S1
  |true=>rw[q]at S1;exact eg S1 (S6.trans (by rw[zC]))
 have i:bS 3 (cm 1 [2] (b8<|ah 1) (a9 0) G.sC G.wk) [Z (.lst e),Z<|aB X,Z<|.im<|aa d,Y]=Z (.aX,[Z (.lst e),Z<|aB X,Z<|.im<|aa d,Z<|aU<|X.filter λg=>!decide (g=d) && !decide (g∈cf d)]):=j2 E (fs rfl) rfl;generalize r:(X.filter λg=>!decide (g=d) && !decide (g∈cf d))=a at i;have f:aZ (ac d4 (ah 3)<|ag<|ec ay) [Z (.lst e),Z<|aB X,Z<|.im<|aa d,Z<|aU a]=Z (decide (a=[]),[Z (.lst e),Z<|aB X,Z<|.im<|aa d,Z<|aU a]):=bV (cx rfl (aY rfl) rfl rfl<|JV a);by_cases j:a=[]
 ·rw[cW j]at f;refine⟨.lst e,Sr.mono ⋯,.inl ?_⟩;unfold n1 zc;exact cK (k:=[Z (.lst e),Z<|aB X,Z<|.im<|aa d,Z<|aU a]) rfl (bH p<|bH i<|f5<|fC f rfl) rfl
 ·rw[cN j]at f;have TC:=j_.mpr j;have aH:a.length<=X.length:=by rw[<-r];exact qD _ _
  let⟨J,D,F,H,Q,SK⟩:=gX (s:=s) (M:=(a.length:Int)) Sr ⋯ ⋯;obtain⟨b,u⟩:∃b,a[J.toNat]?=Z b:=⟨a[J.toNat]'⋯,by simp⟩;let⟨l,rfl⟩:=SK.lst;have x:=jS u;rw[<-r]at x;let⟨dE,cE⟩:=gM.mp x;rw[cG,l7,l7,oa,oa]at cE;refine⟨.lst l,SK,.inr ⟨d,b,jS m,dE,λI=>cE.1 I.symm,cE.2,?_⟩⟩;have bg:cH [aU a]=Z (aJ (a.length:Int)):=by
   show Z (ak.im<|.int ((a.map aa).length:Int))=_;rw[bu]
  have L:bD (aU a) (aJ J)=Z (.im<|aa b):=by
   show (dx (a.map aa) J).map ak.im=_;rw[pA H u];rfl
  unfold n1 zc;refine cK (k:=[Z (.lst l),Z<|aB X,Z<|.im<|aa d,Z<|aU a]) rfl (bH p<|bH i<|bH (eT f rfl)<|et<|qE (Sy:=[.aH 2,.bY<|.im<|aa b]) (So:=[Z (.lst l),Z<|aB X,Z<|.im<|aa d,Z<|aU a]) (j8 rfl<|j8 (hD<|rh (So:=[Z (.lst e),Z<|aB X,Z<|.im<|aa d,Z<|aU a]) rfl (hD<|bO (Sy:=[.aH 0,.bY<|aJ (a.length:Int)]) (bz rfl<|bz (aY<|dh (bz rfl rfl) rfl bg) rfl) rfl rfl F rfl) rfl rfl L) rfl) rfl (hN rfl) rfl) rfl
theorem EX{S0:Type}(x:S0->Bool):∀w:List S0,ka (w.map λu=>.au<|x u)=Z (w.map x)
 |[]=>rfl
 |f::w=>by
  show (ka<|w.map λu=>.au<|x u).map _=_;rw[EX x w];rfl
def oT(x:S0->Bool)(w:List S0):h8 [.lst (w.map λu=>.au<|x u)]=Z (.im<|.au<|w.all x):=by
 show (ka _).map _=_;rw[EX,p8,vo];rfl
def ia(l:dy):Bool:=((l.zip<|l.drop 1).all λr=>decide (r.2∈cf r.1))
def lT.ao(c:lT R):R.Nodup:=by
 refine n8.mpr (c.imp λ{f A} a z=>?_);rw[z,xK]at a;cases a
def MH(f A:aI)(u:dy):ia (f::A::u)=(decide (A∈cf f)&&ia (A::u)):=rfl
def df.trans{a:aI}(c:df X f A)(q:df X A a):df X f a:=by
 induction q with
 |self=>exact c
 |step _ t D b=>exact .step b t D
def df.cU(a:f∈X)(c:df X f A):A∈X:=by
 cases c with
 |self=>exact a
 |step _ t _=>exact t
theorem Ky(c:A∈cf f):f∈cf A:=(Gg (X:=[f,A]) ⟨.head _,.tail _<|.head _,c⟩).2.2
def df.sym(a:f∈X)(c:df X f A):df X A f:=by
 induction c with
 |self=>exact .self
 |step b t D d=>exact (df.step .self (df.cU a b)<|Ky D).trans d
def DP{m:aI}(c:∀f,f∈X↔df R m f){d b:aI}(a:d∈X)(e:b∈X):df X d b:=by
 have SJ:∀f,df R m f->df X m f:=λf g=>by
  induction g with
  |self=>exact .self
  |step h t D i=>exact .step i ((c _).mpr<|.step h t D) D
 have j:m∈X:=(c m).mpr .self;exact (df.sym j<|SJ d<|(c d).mp a).trans (SJ b<|(c b).mp e)
def QS(f A:aI)(m I:Int):bc (aa (f.1+m,f.2+I)) (aa (A.1+m,A.2+I))=bc (aa f) (aa A):=by
 have b:∀j B:Int,ab.beq (.int<|j) (.int B)=decide (j=B):=λj B=>by rw[ab.beq]
 have a:∀f A:aI,bc (aa f) (aa A)=if f.1=A.1 then decide (f.2<A.2) else decide (f.1<A.1):=λf A=>by
  show (if ab.beq (.int f.1) (.int A.1)=V then (if ab.beq (.int f.2) (.int A.2)=V then aq else decide (f.2<A.2)) else decide (f.1<A.1))=_;rw[b,b];by_cases t:f.1=A.1
  ·rw[cW t,aN rfl,aN t];by_cases D:f.2=A.2
   ·rw[cW D,aN rfl,D,cN<|Int.lt_irrefl _]
   ·rw[cN D,aT d7]
  ·rw[cN t,aT d7,aT t]
 rw[a,a];simp only[Int.add_left_inj,Int.add_lt_add_iff_right]
def Ra(m I:Int)(c:df R d f):df (R.map λg=>(g.1+m,g.2+I)) (d.1+m,d.2+I) (f.1+m,f.2+I):=by
 induction c with
 |self=>exact .self
 |step _ t D a=>
  refine .step a (cV.mpr ⟨_,t,rfl⟩) ?_;unfold cf at D ⊢;simp only[bL,iN,ic,pU]at D ⊢;lia
def MZ{m I:Int}(c:df (R.map λg=>(g.1+m,g.2+I)) (d.1+m,d.2+I) f):df R d (f.1-m,f.2-I):=by
 induction c with
 |self=>
  have:(((d.1+m,d.2+I):aI).1-m,((d.1+m,d.2+I):aI).2-I)=d:=by rw[pU];exact⟨uI _ _,uI _ _⟩
  rw[this];exact .self
 |@step A e _ t D a=>
  let⟨g,b,rfl⟩:=cV.mp t;have:(((g.1+m,g.2+I):aI).1-m,((g.1+m,g.2+I):aI).2-I)=g:=by rw[pU];exact⟨uI _ _,uI _ _⟩
  rw[this];refine .step a b ?_;unfold cf at D ⊢;simp only[bL,iN,ic,pU]at D ⊢;lia
def HQ(d:0<M)(I:M<=60){c:ak}(h:en (s+400) c):∃T R,oY [c,aJ M]=Z (aU R,[T,aJ M])/\en s T/\R≠[]/\R.length<=M.toNat/\∀g∈R,iT g:=by
 let⟨v,t,e,J,L,Sr⟩:=gX (s:=s+399) (M:=M) h d ⋯;have i:rn v:=⟨⋯,⋯⟩;let⟨SG,l,⟨D,R,Tj,S8,rfl,SK,m,o,p⟩⟩:=w2 (SY:=a9 3) (b:=sj) (w:=gk 0 v.toNat) (λj k=>∃c R Tj S8,k=[Z c,Z<|aJ M,Z<|aU R,Tj,S8]/\en (s+398-2*j) c/\R≠[]/\R.length<=j+1/\∀g∈R,iT g) (k:=[Z t,Z<|aJ M,Z<|aU [(12,12)],Y,Y]) ⟨t,[(12,12)],Y,Y,rfl,Sr.mono ⋯,by simp,by simp,λg r=>by rw[cO.mp r];exact⟨by decide,by decide,by decide,by decide⟩⟩
  (λj f k u x=>by
   let⟨c,R,Tj,S8,rfl,y,Te,Tf,z⟩:=x;have Sq:j<v.toNat:=by
    have:=(fY.mp u).1
    rwa [gk,bu,iI]at this
   let⟨T,A,N,a,P,B,O,C⟩:=KJ (s:=s+398-2*(j+1)) (M:=M) (q:=Z (.im f)) (S8:=S8) (y.mono ⋯) Te ⋯ z;exact⟨[Z c,Z<|aJ M,Z<|aU R,Z<|.im f,S8],.aX,_,rfl,a,.inl rfl,T,A,_,_,rfl,P,B,⋯,C⟩)
 have E:(gk 0 v.toNat).length=v.toNat:=by rw[gk,bu,iI]
 rw[E]at SK o;refine⟨D,R,?_,SK.mono ⋯,m,⋯,p⟩;let⟨F,rfl⟩:=h.lst;let⟨G,rfl⟩:=Sr.lst;let⟨H,rfl⟩:=SK.lst;unfold oY E8;refine sR [Z (.lst H),Z<|aJ M,Z .cL,Tj,S8] rfl ((hh (So:=[Z (.lst F),Z<|aJ M,Z<|aU [(12,12)],Y,Y]) rfl).trans<|(hh<|uo (n:=Y) (w:=gk 0 v.toNat) (So:=[Z (.lst G),Z<|aJ M,Z<|aU [(12,12)],Y,Y]) ?_ l).trans rfl) rfl;simp -implicitDefEqProofs [e,i]
def Kx(r:0<M)(x:M<=60){c:ak}{d l e:Int}{R:List (Int×Int)}(h:en (s+402) c)(J:0<=d)(L:d<6)(f:(0,0)∈R)(N:R.length<=49)(i:∀g∈R,iT g):
  ∃T b y,mid [Z c,Z<|aJ M,Z<|aJ d,Z<|aJ l,Z<|aJ e,Z<|aU R,Y,Y,Y,Y]=Z (.aX,[Z T,Z<|aJ M,Z<|aJ d,Z<|aJ l,Z<|aJ e,Z<|aU b,y,Y,Y,Y])/\en s T/\b≠[]/\(b.length<=R.length\/b.length<=M.toNat)/\∀g∈b,iT g:=by
 have O:=zd f;have o:∀d:Int,∃T b y,e4 (jm<|ai (ag<|a3 2 G.ei<|ai (ah 0)<|ai (ag<|ac du (ag<|aA<|.int 1)<|ag<|ac mI (ag<|bT cH<|ai (ah 5) ay)<|ag<|aA<|.int 2) ay) ay) (a9 6) G.pd [Z c,Z<|aJ M,Z<|aJ d,Z<|aJ l,Z<|aJ e,Z<|aU R,Y,Y,Y,Y]=Z (.aX,[Z T,Z<|aJ M,Z<|aJ d,Z<|aJ l,Z<|aJ e,Z<|aU b,y,Y,Y,Y])/\en s T/\b≠[]/\(b.length<=R.length\/b.length<=M.toNat)/\∀g∈b,iT g:=λd=>by
  let⟨v,t,z,P,S,Sr⟩:=gX (s:=s+200) (M:=1+(R.length:Int)/2) (h.mono ⋯) ⋯ ⋯;have A:rn v:=⟨⋯,⋯⟩;let⟨D,j,y,B,SK,k,p,m⟩:=Ij (S5:=Z (aJ M)) (Tp:=Z (aJ d)) (Tj:=Z (aJ l)) (S8:=Z (aJ e)) (E:=Y) (Tt:=Y) (Q:=Y) (y:=Y) v.toNat Sr (R:=R) ⋯ ⋯ i;refine⟨D,j,y,?_,SK,k,⋯,m⟩;let⟨C,rfl⟩:=h.lst;let⟨F,rfl⟩:=Sr.lst;refine (uo (n:=Y) (w:=gk 0 v.toNat) (So:=[Z (.lst F),Z<|aJ M,Z<|aJ d,Z<|aJ l,Z<|aJ e,Z<|aU R,Y,Y,Y,Y]) ?_ B).trans rfl;simp -implicitDefEqProofs [z,A]
 have q:∀d:Int,∃T b y,bS 5 (a3 2 G.oY<|ai (ah 0)<|ai (ah 1) ay) [Z c,Z<|aJ M,Z<|aJ d,Z<|aJ l,Z<|aJ e,Z<|aU R,Y,Y,Y,Y]=Z (.aX,[Z T,Z<|aJ M,Z<|aJ d,Z<|aJ l,Z<|aJ e,Z<|aU b,y,Y,Y,Y])/\en s T/\b≠[]/\(b.length<=R.length\/b.length<=M.toNat)/\∀g∈b,iT g:=λd=>by
  let⟨D,j,a,SK,k,p,m⟩:=HQ (s:=s) r x (h.mono ⋯);refine⟨D,j,Y,?_,SK,k,.inr p,m⟩;let⟨C,rfl⟩:=h.lst;let⟨al,rfl⟩:=SK.lst;simp -implicitDefEqProofs [a]
 have H:d=0\/d=1\/d=2\/d=3\/d=4\/d=5:=⋯
 unfold mid;rcases H with rfl|rfl|rfl|rfl|rfl|rfl
 ·exact⟨c,R,Y,rfl,h.mono ⋯,vG f,⋯,i⟩
 ·let⟨T,b,y,a,u⟩:=o 1;exact⟨T,b,y,a,u⟩
 ·let⟨T,b,y,a,u⟩:=o 2;exact⟨T,b,y,a,u⟩
 ·exact⟨c,R.filter pI,Y,Ht ⋯,h.mono ⋯,vG (gM.mpr ⟨f,by decide⟩),by have:=qD pI R;lia,λg I=>i g (gM.mp I).1⟩
 ·let⟨T,b,y,a,u⟩:=q 4;exact⟨T,b,y,a,u⟩
 ·let⟨T,b,y,a,u⟩:=q 5;exact⟨T,b,y,a,u⟩
def HO(O:0<M)(P:M<=60){c:ak}(h:en (s+500) c):∃T d,pC [c,aJ M]=Z (aB d,[T,aJ M])/\en s T/\d≠[]/\(d.length<=7\/d.length<=M.toNat)/\lT d/\(∃(S:List aI) (k:aI),∀f,f∈d↔df S k f)/\∀g∈d,0<=g.1/\g.1<=30/\0<=g.2/\g.2<=30:=by
 let⟨e,t,U,al,am,Sr⟩:=gX (s:=s+499) (M:=6) h ⋯ ⋯;let⟨l,D,an,dE,cE,SK⟩:=gX (s:=s+498) (M:=7) Sr ⋯ ⋯;obtain⟨n,x⟩:∃n:Int,n=M/(1+l):=⟨_,rfl⟩;obtain⟨i,p⟩:∃i:Int,i=(if n<7 then n else 7):=⟨_,rfl⟩;obtain⟨j,q⟩:∃j:Int,j=(if i>1 then i else 1):=⟨_,rfl⟩;have ev:i<=7:=by rw[p];split<;>lia
 have ex:j<=7/\0<j:=by rw[q];split<;>lia
 let⟨a,r,ap,fd,as,z⟩:=gX (s:=s+497) (M:=j) SK ⋯ ⋯;have o:0<1+l:=⋯
 have u:1+l<=7:=⋯
 have B:0<1+a:=⋯
 have v:1+a<=7:=⋯
 have a1:0<(1+a)*(1+l):=DY B o;have fn:(1+a)*(1+l)<=49:=zO v u ⋯ ⋯;have a2:(((1+a)*(1+l)).toNat:Int)<=7*(1+l):=by rw[Int.toNat_of_nonneg (uq a1)];exact FN v (uq o)
 let⟨fr,R,y,bd,C,Te,Tf,F⟩:=Kx (s:=s+3) O P (d:=e) (l:=1+l) (e:=1+a) (R:=lP (1+l) ((1+a)*(1+l)).toNat) (z.mono ⋯) al am (Mi ⋯) (by rw[CD];lia) (Rm o u a2);rw[CD]at Tf;have f0:=j_.mpr Te;let⟨G,f1,be,bi,f2,H⟩:=gX (s:=s+2) (M:=(R.length:Int)) C ⋯ ⋯;obtain⟨b,w⟩:∃b,R[G.toNat]?=Z b:=⟨R[G.toNat]'⋯,by simp⟩;have f4:((1+a)*(1+l)).toNat<=7\/((1+a)*(1+l)).toNat<=M.toNat:=by
  by_cases k:a=0
  ·subst k;left;lia
  ·right;have t:1+a<=n:=by
    have:a<j:=as;rw[q]at this;split at this
    ·rw[p]at this;split at this<;>lia
    ·lia
   have D:=FN t (uq o);have r:=Int.ediv_mul_le M (show (1+l)≠0 by lia);rw[<-x]at r;exact Int.toNat_le_toNat (Int.le_trans D r)
 let⟨d,bm,S1,S6,f8,bn⟩:=Ii (f:=aU R) (R:=R) (b:=b) (.inl rfl) ⋯;have ga:d.length<=R.length:=bn.length_le_of_subset λf bs=>by
  cases (S6 f).mp bs with
  |self=>exact jS w
  |step _ t _=>exact t
 let⟨m,I,bv,ca,⟨To,ge,gl,L⟩,N⟩:=Nu (s:=s) (S5:=Z (aJ M)) (Tp:=Z (aJ e)) (Tj:=Z (aJ<|1+l)) (S8:=Z (aJ<|1+a)) (Td:=Z (aU R)) (y:=y) (E:=Z (aB d)) (Tt:=Y) (Q:=Y) H;refine⟨bv,d.map λg=>(g.1+m,g.2+I),?_,N,?_,by rw[bu];lia,mX.mpr (S1.imp λ{f A} c=>by rw[QS];exact c),⟨R.map λg=>(g.1+m,g.2+I),(b.1+m,b.2+I),λf=>?_⟩,λg cd=>?_⟩
 ·let⟨go,rfl⟩:=h.lst;let⟨ce,rfl⟩:=Sr.lst;let⟨ch,rfl⟩:=SK.lst;let⟨ci,rfl⟩:=z.lst;let⟨gt,rfl⟩:=C.lst;let⟨cl,rfl⟩:=H.lst;let⟨co,rfl⟩:=N.lst;have L:=pA bi w;unfold pC Es;refine sR [Z (.lst co),Z<|aJ M,Z<|aJ e,Z<|aJ<|1+l,Z<|aJ<|1+a,Z<|aU R,y,Z<|aB d,Z<|aJ m,Z<|aJ I] rfl
   ((hh (So:=[Z (.lst ce),Z<|aJ M,Z<|aJ e,Y,Y,Y,Y,Y,Y,Y]) ?_).trans
   ((hh (So:=[Z (.lst ch),Z<|aJ M,Z<|aJ e,Z<|aJ<|1+l,Y,Y,Y,Y,Y,Y]) ?_).trans
   ((hh (So:=[Z (.lst ci),Z<|aJ M,Z<|aJ e,Z<|aJ<|1+l,Z<|aJ<|1+a,Y,Y,Y,Y,Y]) ?_).trans
   ((hh<|M7 o u B v).trans
   ((hh bd).trans
   ((hh (So:=[Z (.lst cl),Z<|aJ M,Z<|aJ e,Z<|aJ<|1+l,Z<|aJ<|1+a,Z<|aU R,y,Z<|aB d,Y,Y]) ?_).trans
   ((hh ca).trans (et (Jg ⋯))))))))) rfl
  ·simp -implicitDefEqProofs [U]
  ·simp -implicitDefEqProofs [an]
  ·have cr:1+l<1073741824:=⋯
   have cs:p9 [aJ 7,aJ n]=Z (aJ i):=by rw[Og,<-p]
   have db:rk [aJ 1,aJ i]=Z (aJ j):=by rw[KN,<-q]
   simp -implicitDefEqProofs [ap,o,cr,<-x,cs,db]
  ·simp -implicitDefEqProofs [be,L,bm]
 ·have:=(S6 b).mpr .self;exact λk=>by rw[List.map_eq_nil_iff]at k;rw[k]at this;cases this
 ·rw[cV];constructor
  ·rintro⟨J,ds,rfl⟩;exact Ra m I ((S6 J).mp ds)
  ·intro c;refine⟨(f.1-m,f.2-I),(S6 _).mpr ?_,by rw[pU];exact⟨F7 _ _,F7 _ _⟩⟩;exact MZ c
 ·let⟨J,dL,rfl⟩:=cV.mp cd;have eq:iT J:=by
   cases (S6 J).mp dL with
   |self=>exact F _ (jS w)
   |step _ t _=>exact F J t
  let⟨g1,g2,g3,hd⟩:=eq;exact⟨by show 0<=J.1+m;lia,by show J.1+m<=30;lia,by show 0<=J.2+I;lia,by show J.2+I<=30;lia⟩
abbrev hd(p m I:Int):ak:=.lst [.int p,.int m,.int I]
abbrev ht(b:Bool):ak:=.im (.au b)
def fo(SH:List (Int×Int))(g:Int×Int):List (Int×Int):=(if g∈SH then SH else SH++[g])
def GP(SH:List (Int×Int))(g:Int×Int):fE (a5 SH) (c_ g) (.au V)=a5 (fo SH g):=by
 unfold fo;by_cases c:g∈SH
 ·rw[aN c];unfold fE;rw[aN (by rw[ua];simpa using c)];unfold a5;rw[hI];refine nG λf X=>?_;show (if c_ f=c_ g then (c_ f,ab.au V) else (c_ f,ab.au V))=_;split<;>rfl
 ·rw[aT c];exact D9 c
abbrev yb(c:ak)(S5:Option ak)(a b d e f:Int)(SH:List (Int×Int))(Tt Q Tv T g h:Option ak):aP:=[Z c,S5,Z<|aJ a,Z<|aJ b,Z<|aJ d,Z<|aJ e,Z<|aJ f,Z<|.aF<|a5 SH,Tt,Q,Tv,T,g,h]
def jE(R:List (Int×Int)):Prop:=(R.Pairwise λd b=>bc (aa d) (aa b)=V)
def Kz{SH:List (Int×Int)}(ao:SH.Nodup)(a:SH.length<=63):∃R:List (Int×Int),hZ bc (SH.map aa)=R.map aa/\R.Perm SH/\jE R:=by
 have n:=wI ao a;let⟨@R,t,D⟩:=D5 (jB<|SH.map aa);refine⟨R,D,t,?_⟩;have:=uw n.ord.ao n.ord.js;rw[D]at this;exact mX.mp this
abbrev cg:=Int×Int
theorem pS(e:Option ak):∀(R SH:List cg) (Tp:Option ak),SH.length+R.length<100000->∃b,dB (a9 2) pZ (R.map aa) [e,Z<|.aF<|a5 SH,Tp]=Z (.aX,[e,Z<|.aF<|a5<|R.foldl fo SH,b])
 |[],SH,Tp,_=>⟨Tp,rfl⟩
 |g::R,SH,Tp,c=>by
  have d:gV (.aF<|a5 SH) (.im<|.tup<|c_ g) (ht V)=Z (.aF<|a5<|fo SH g):=by
   rw[<-GP];exact aN ⟨rfl,by unfold a5;rw[bu];rw[dA]at c;lia⟩
  have h:(fo SH g).length<=SH.length+1:=by
   unfold fo;split
   ·lia
   ·rw[dj];exact bq _
  let⟨@b,f⟩:=pS e R (fo SH g) (Z<|.im<|aa g) (by rw[dA]at c;lia);refine⟨b,?_⟩;have a:pZ [e,Z<|.aF<|a5 SH,Z<|.im<|aa g]=Z (.aX,[e,Z<|.aF<|a5<|fo SH g,Z<|.im<|aa g]):=by
   unfold pZ;refine og rfl ?_;show (gV (.aF<|a5 SH) (.im<|.tup<|c_ g)<|ht V).map _=_;rw[d];rfl
  rw[dK,dB];show (pZ [e,Z<|.aF<|a5 SH,Z<|.im<|aa g]).bind _=_;rw[a];exact f
theorem w0:∀(R SH:List cg),(SH++R).Nodup->R.foldl fo SH=SH++R
 |[],SH,_=>by rw[cp];rfl
 |g::R,SH,ao=>by
  have a:g∉SH:=λc=>by
   have:=(dn.mp ao).2.2 g c g (.head _);exact this rfl
  rw[lQ,fo,aT a,w0 R (SH++[g]) (by rw[b6];exact ao),b6];rfl
def vW{R:List cg}(ao:R.Nodup)(b:R.length<10000):gv [aB R]=Z (.aF<|a5 R,[aB R]):=by
 let⟨@n,a⟩:=pS (Z<|aB R) R [] Y (by show 0+_<_;lia);rw[w0 R [] ao]at a;unfold gv rS;refine cK (k:=[Z (aB R),Z .cL,n]) rfl (bH (So:=[Z (aB R),Z<|.aF [],Y]) rfl<|bH (gS (n:=Y) rfl a rfl) rfl) rfl
def PG{R:List cg}(ao:R.Nodup)(b:R.length<10000):gv [aU R]=Z (.aF<|a5 R,[aU R]):=by
 let⟨@n,a⟩:=pS (Z .cL) R [] Y (by show 0+_<_;lia);rw[w0 R [] ao]at a;unfold gv rS;refine cK (k:=[Z (aU R),Z .cL,n]) rfl (bH (So:=[Z (aU R),Z<|.aF [],Y]) rfl<|bH (gS (n:=Z (0,aU R)) (So:=[Z .cL,Z<|.aF [],Y]) rfl a rfl) rfl) rfl
def iP(g:cg):List cg:=([(g.1-1,g.2),(g.1,g.2-1),(g.1,g.2+1),(g.1+1,g.2)])
def Ld(g:cg):ha [.im (aa g)]=Z (aU<|iP g,[.im (aa g)]):=rfl
def o2(SH:List cg)(g:cg):eV (.im<|aa g) (.aF<|a5 SH)=Z (ht<|decide (g∈SH)):=by
 rw[<-y6];rfl
def m4(p:ab):Prop:=(∀d,p≠.fn d)
def pg(p:ab):Prop:=(m4 p/\∀Sl,p=.tup Sl->∀A∈Sl,m4 A)
def lL(p:ab):Prop:=(m4 p/\∀C,p=.tup C->C.length<=290/\∀f∈C,pg f)
def mD:ab->Bool
 |.int _=>V
 |_=>aq
def EE{p:ab}(c:m4 p):oL [.im p]=Z (ht<|mD p,[.im p]):=by
 cases p with
 |fn d=>exact absurd rfl (c d)
 |_=>rfl
def hL:ab->Bool
 |.tup [d,b]=>mD d&&mD b
 |_=>aq
def DE{p:ab}(c:pg p):iQ [.im p]=Z (ht<|hL p,[.im p]):=by
 cases p with
 |fn d=>exact absurd rfl (c.1 d)
 |tup C=>
  unfold iQ E5
  match C,c with
  |[],_=>rfl
  |[d],_=>rfl
  |[d,b],c=>
   have h:=EE (c.2 _ rfl d<|.head _);have i:=EE (c.2 _ rfl b<|.tail _<|.head _);refine cK (k:=[Z (.im<|.tup [d,b])]) rfl (et<|hC<|eg (bV rfl)<|eg (bV rfl) ?_) rfl;show _=Z (mD d&&mD b,_);have e:aZ (a3 1 G.oL<|ai (ag<|ac bD (ah 0)<|ag<|aA<|.int 0) ay) [Z (.im<|.tup [d,b])]=Z (mD d,[Z (.im<|.tup [d,b])]):=bV (bO (bz (aY<|cx (p:=.im d) rfl rfl rfl rfl rfl) rfl) rfl rfl h rfl);have j:aZ (a3 1 G.oL<|ai (ag<|ac bD (ah 0)<|ag<|aA<|.int 1) ay) [Z (.im<|.tup [d,b])]=Z (mD b,[Z (.im<|.tup [d,b])]):=bV (bO (bz (aY<|cx (p:=.im b) rfl rfl rfl rfl rfl) rfl) rfl rfl i rfl);cases f:mD d with
   |false=>rw[f]at e;exact kB e
   |true=>rw[f]at e;exact eg e j
  |d::b::g::u,_=>
   have a:d4 (aJ ((d::b::g::u).length:Int)) (aJ 2)=Z (ht aq):=(mB _ _).trans (congrArg (λb=>Z<|ht b) (cN (by rw[dA,dA,dA];lia)));exact cK (k:=[Z (.im<|.tup (d::b::g::u))]) rfl (et<|hC<|eg (bV rfl)<|kB<|bV<|cx (aY<|dh (bz rfl rfl) rfl rfl) rfl rfl rfl a) rfl
 |_=>rfl
def Pe{S3 Ts:aP}{x F:fZ}{Tx Tq cv:aE bC}{f A a:bC}{Te Tf c d:ak}{b e:Bool}(g:Tx k=Z (f,So))(h:Tq So=Z (A,S3))(i:dF S3 f=Z Te)(j:dF S3 A=Z Tf)(l:x Te Tf=Z (ht b))(m:cv S3=Z (a,Ts))(n:dF Ts A=Z c)(o:dF Ts a=Z d)(p:F c d=Z (ht e))(q:Ts=S3):hW x F Tx Tq cv k=Z (ht<|b&&e,S3):=by
 subst q;unfold hW;rw[g];show (Tq So).bind _=_;rw[h];show (dF Ts f).bind _=_;rw[i];show (dF Ts A).bind _=_;rw[j];show (x Te Tf).bind _=_;rw[l];cases b
 ·rfl
 ·show (cv Ts).bind _=_;rw[m];show (dF Ts A).bind _=_;rw[n];show (dF Ts a).bind _=_;rw[o];show (F c d).bind _=_;rw[p];rfl
theorem EF{S0:Type}(x:S0->Bool):∀w:List S0,ka (w.map λu=>.au<|x u)=Z (w.map x)
 |[]=>rfl
 |f::u=>by rw[dK,ka,EF x u];rfl
def yf(x:S0->Bool)(w:List S0):h8 [.lst (w.map λu=>.au<|x u)]=Z (ht<|w.all x):=by
 show (ka _).map _=_;rw[EF,p8,vo];rfl
def JO:ab->Bool
 |.int j=>decide (0<=j)&&decide (j<31)
 |_=>aq
def OB{w:List ab}(a:N k=Z (p,So))(q:h_ p=Z w):b8 (ag N) k=Z ((w,Y),So):=by
 unfold b8;rw[hD a];show (h_ p).map _=_;rw[q];rfl
def u0(d b:cg):Bool:=(decide ((if d.1-b.1<0 then -(d.1-b.1) else d.1-b.1)+(if d.2-b.2<0 then -(d.2-b.2) else d.2-b.2)=1))
def uB{d b:cg}:u0 d b=V↔b∈iP d:=by
 let⟨a,c⟩:=d;let⟨dE,cE⟩:=b;unfold u0 iP;rw[j5];simp only[bL,iN,ic,xW];lia
inductive m_ (R:List cg) (m:cg):cg->Prop
 | self:m_ R m m
 | step {d b:cg}:m_ R m d->b∈R->u0 d b=V->m_ R m b
def Ja(SH:List cg)(g:cg):fw (.im<|aa g) (.aF<|a5 SH)=Z (ht<|!decide (g∈SH)):=by
 have:=o2 SH g;show (eL (aa g)<|.aF<|a5 SH).map (λu=>ak.im<|.au<|!u)=_;have D:(eL (aa g)<|.aF<|a5 SH).map (λu=>ak.im<|.au u)=Z (ht<|decide (g∈SH)):=this;let⟨@u,a,b⟩:=cC.mp D;rw[a];cases b;rfl
end G
namespace cI
def mv{S0:Type}:List S0->List S0
 |[]=>[]
 |[d]=>[d]
 |d::_::u=>d::mv u
open Spec PyProof.Rows
end cI
namespace L2
open Spec PyProof.Rows
end L2
namespace G
open L2
variable{l x R:List cg}{m g:cg}{r:List cg×List cg}{S5:Option ak}
def ry:bo:=((dD (dM (aZ<|ac eV (ah 4)<|ah 0)<|aZ<|ac fw (ah 4)<|ah 2) (bh (g8 (aA<|.au V)<|jj 2 (ed 4) gV)<|i3<|gU hO 3 lj<|ai (ah 4) ay) eo))
def Ga:aE Bool:=((ez<|ah 3))
def sa:bo:=((e4 (b8<|ag<|a3 1 G.ha<|ai (ag<|gU hO 3 qe ay) ay) (a9 4) G.ry))
def Bx:bo:=((bh (bS 2<|ub (ed 1)<|aA<|.au V)<|bh (bS 3<|ec<|ai (ah 1) ay)<|bh (ie G.Ga G.sa 1000000)<|cy<|bT k4<|ai (ag<|bT mN<|ai (ah 2) ay) ay))
def oh:cX:=(c8 2 5 [0,1] Bx)
def Fz(a:af):bo:=((bh (dD (fh (eH<|ez<|ag<|a3 1 (G.rG a)<|ai (ah 0) ay)<|aZ<|ac d4 (ag<|bT cH<|ai (ah 0) ay)<|ag<|aA<|.int 0) (cy<|aA<|.au aq) eo)<|cy<|ac d4 (ag<|bT cH<|ai (ag<|a3 2 G.oh<|ai (ag<|a3 1 G.gv<|ai (ah 0) ay)<|ai (ag<|ac bD (ah 0)<|ag<|aA<|.int 0) ay) ay)<|ag<|bT cH<|ai (ah 0) ay))
def eI(a:af):cX:=(c8 1 1 [0] (Fz a))
theorem ER{S0:Type}[DecidableEq S0]:∀{H M:List S0},H.Nodup->(∀f∈H,f∈M)->H.length<=M.length
 |[],_,_,_=>hi _
 |f::H,M,ao,c=>by
  have aX:=iH.mp ao;have:=ER (M:=M.erase f) aX.2 λA b=>(List.mem_erase_of_ne (λa=>aX.1 (by rw[<-a];exact b))).mpr (c A<|.tail _ b);have a:=List.length_erase_of_mem (c f<|.head _);have r:=zd (c f<|.head _);rw[dA];lia
def dQ(R:List cg)(r:List cg×List cg)(g:cg):List cg×List cg:=(if g∈R/\g∉r.1 then (r.1++[g],r.2++[g]) else r)
abbrev gN(S5:Option ak)(R:List cg)(r:List cg×List cg)(S8:Option ak):aP:=[Z (.aF<|a5 R),S5,Z<|.aF<|a5 r.1,Z<|aU r.2,S8]
def Ks(t:r.1.length<10000)(D:r.2.length<10000):ry (gN S5 R r<|Z<|.im<|aa g)=Z (.aX,gN S5 R (dQ R r g)<|Z<|.im<|aa g):=by
 have S1:aZ (ac eV (ah 4)<|ah 0) (gN S5 R r<|Z<|.im<|aa g)=Z (decide (g∈R),gN S5 R r<|Z<|.im<|aa g):=bV (ef<|o2 R g);have S6:aZ (ac fw (ah 4)<|ah 2) (gN S5 R r<|Z<|.im<|aa g)=Z (!decide (g∈r.1),gN S5 R r<|Z<|.im<|aa g):=bV (ef<|Ja r.1 g);unfold ry dQ;by_cases d:g∈R
 ·rw[cW d]at S1;by_cases b:g∈r.1
  ·rw[cW b]at S6;rw[aT λc=>c.2 b];exact eT (eg S1 S6) rfl
  ·rw[cN b]at S6;rw[aN ⟨d,b⟩];have e:gV (.aF<|a5 r.1) (.im<|.tup<|c_ g) (ht V)=Z (.aF<|a5<|r.1++[g]):=by
    have a:fo r.1 g=r.1++[g]:=by unfold fo;rw[aT b]
    rw[<-a,<-GP];exact aN ⟨rfl,by unfold a5;rw[bu];lia⟩
   refine fC (eg S1 S6) (bH (So:=[Z (.aF<|a5 R),S5,Z<|.aF<|a5<|r.1++[g],Z<|aU r.2,Z<|.im<|aa g]) ?_ ?_)
   ·refine og rfl ?_;show (gV (.aF<|a5 r.1) (.im<|.tup<|c_ g)<|ht V).map _=_;rw[e];rfl
   ·refine o_ (oA rfl rfl (bz rfl rfl) rfl rfl (uC (by rw[bu];lia)) ?_);show _=[Z (.aF<|a5 R),S5,Z<|.aF<|a5<|r.1++[g],Z<|aU<|r.2++[g],Z<|.im<|aa g];unfold aU;rw[fQ];rfl
 ·rw[cN d]at S1;rw[aT λc=>d c.1];exact eT (kB S1) rfl
def IY(R:List cg)(r:List cg×List cg)(g:cg):(dQ R r g).1.length<=r.1.length+1/\(dQ R r g).2.length<=r.2.length+1:=by
 unfold dQ;split
 ·rw[dj,dj];exact⟨bq _,bq _⟩
 ·exact⟨⋯,⋯⟩
theorem Ax{S5:Option ak}{R:List cg}:∀(w:List cg) (r:List cg×List cg) (S8:Option ak),r.1.length+w.length<10000->r.2.length+w.length<10000->∃a,dB (a9 4) ry (w.map aa) (gN S5 R r S8)=Z (.aX,gN S5 R (w.foldl (dQ R) r) a)
 |[],r,S8,_,_=>⟨S8,rfl⟩
 |g::w,r,S8,t,D=>by
  rw[dA]at t D;have H:=IY R r g;let⟨a,b⟩:=Ax (S5:=S5) w (dQ R r g) (Z<|.im<|aa g) ⋯ ⋯;refine⟨a,?_⟩;rw[dK,dB];show (ry<|gN S5 R r<|Z<|.im<|aa g).bind _=_;rw[Ks ⋯ ⋯];exact b
structure lW(R:List cg)(m:cg)(r:List cg×List cg):Prop where
 ao:r.1.Nodup
 xV:m∈r.1
 con:∀f∈r.1,m_ R m f
 sub:∀f∈r.1,f=m\/f∈R
 yu:∀f∈r.2,f∈r.1
def lW.step{R:List cg}{m f:cg}{r:List cg×List cg}(S:lW R m r)(h:f∈r.1){g:cg}(i:g∈iP f):lW R m (dQ R r g):=by
 unfold dQ;split
 ·rename_i c;refine⟨?_,c5 _ S.xV,λA e=>?_,λA e=>?_,λA e=>?_⟩
  ·rw[dn];exact⟨S.ao,fk _ _,λd j b k a=>c.2 (by rw[<-cO.mp k,<-a];exact j)⟩
  ·rcases dt.mp e with z|z
   ·exact S.con A z
   ·rw[cO.mp z];exact .step (S.con f h) c.1 (uB.mpr i)
  ·rcases dt.mp e with z|z
   ·exact S.sub A z
   ·rw[cO.mp z];exact .inr c.1
  ·rcases dt.mp e with z|z
   ·exact c5 _ (S.yu A z)
   ·exact c3 _ z
 ·exact S
def Ko{A:cg}:(A∈r.1->A∈(dQ R r g).1)/\(A∈r.2->A∈(dQ R r g).2)/\(A∈(dQ R r g).1->A∈r.1\/A∈(dQ R r g).2)/\(g∈R->g∈(dQ R r g).1):=by
 unfold dQ;split
 ·rename_i c;refine⟨λz=>c5 _ z,λz=>c5 _ z,λz=>?_,λ_=>c3 _<|.head _⟩;rcases dt.mp z with z|z
  ·exact .inl z
  ·exact .inr (c3 _ z)
 ·rename_i c;refine⟨λz=>z,λz=>z,.inl,λz=>?_⟩;by_cases o:g∈r.1
  ·exact o
  ·exact absurd ⟨z,o⟩ c
theorem Cv{R:List cg}{m f:cg}:∀(w:List cg) (r:List cg×List cg),(∀g∈w,g∈iP f)->f∈r.1->lW R m r->lW R m (w.foldl (dQ R) r)/\(∀A,A∈r.1->A∈(w.foldl (dQ R) r).1)/\(∀A,A∈r.2->A∈(w.foldl (dQ R) r).2)/\(∀A,A∈(w.foldl (dQ R) r).1->A∈r.1\/A∈(w.foldl (dQ R) r).2)/\(∀g∈w,g∈R->g∈(w.foldl (dQ R) r).1)/\(w.foldl (dQ R) r).1.length+r.2.length=(w.foldl (dQ R) r).2.length+r.1.length
 |[],r,_,_,S=>⟨S,λ_ c=>c,λ_ c=>c,λ_ c=>.inl c,λg c=>(by cases c),sk _ _⟩
 |g::w,r,b,d,S=>by
  have M:=λA=>Ko (R:=R) (r:=r) (g:=g) (A:=A);let@⟨i,e,h,j,k,n⟩:=Cv w (dQ R r g) (λp hd=>b p<|.tail _ hd) ((M f).1 d) (S.step d<|b g<|.head _);refine⟨i,λA c=>e A<|(M A).1 c,λA c=>h A<|(M A).2.1 c,λA c=>?_,λp hd c=>?_,?_⟩
  ·rcases j A c with z|z
   ·rcases (M A).2.2.1 z with l|l
    ·exact .inl l
    ·exact .inr (h A l)
   ·exact .inr z
  ·rcases bL.mp hd with rfl|hd
   ·exact e p ((M p).2.2.2 c)
   ·exact k p hd c
  ·have a:(dQ R r g).1.length+r.2.length=(dQ R r g).2.length+r.1.length:=by
    unfold dQ;split
    ·rw[dj,dj,fi];lia
    ·exact sk _ _
   show (w.foldl (dQ R)<|dQ R r g).1.length+r.2.length=(w.foldl (dQ R)<|dQ R r g).2.length+r.1.length;lia
structure mF(R:List cg)(m:cg)(r:List cg×List cg):Prop where
 i:lW R m r
 done:∀d∈r.1,d∉r.2->∀b∈R,u0 d b=V->b∈r.1
def lW.len(S:lW R m r):r.1.length<=R.length+1:=
 ER (M:=m::R) S.ao λf a=>by
  rcases S.sub f a with c|c
  ·rw[c];exact .head _
  ·exact .tail _ c
def mF.next{f:cg}(S:mF R m (x,l++[f])):mF R m ((iP f).foldl (dQ R) (x,l))/\((iP f).foldl (dQ R) (x,l)).1.length+l.length=((iP f).foldl (dQ R) (x,l)).2.length+x.length:=by
 have h:f∈x:=S.i.yu f (c3 _<|.head _);let@⟨k,n,o,p,q,r⟩:=Cv (R:=R) (m:=m) (iP f) (x,l) (λ_ c=>c) h ⟨S.i.ao,S.i.xV,S.i.con,S.i.sub,λA s=>S.i.yu A<|c5 _ s⟩;refine⟨⟨k,λd t na b e a=>?_⟩,r⟩;have u:d∈x:=(p d t).resolve_right na;by_cases g:d=f
 ·subst g;exact q b (uB.mp a) e
 ·refine n b (S.done d u (λz=>?_) b e a);rcases dt.mp z with z|z
  ·exact na (o d z)
  ·exact g (cO.mp z)
def mF.fin(S:mF R m (x,[]))(f:cg):f∈x↔m_ R m f:=by
 refine⟨S.i.con f,λc=>?_⟩;induction c with
 |self=>exact S.i.xV
 |step _ b a d=>exact S.done _ d (λe=>by cases e) _ b a
def Od{m f:cg}{S8:Option ak}(t:x.length<5000)(D:l.length<5000):∃a,sa (gN S5 R (x,l++[f]) S8)=Z (.aX,gN S5 R ((iP f).foldl (dQ R) (x,l)) a):=by
 let⟨@a,b⟩:=Ax (S5:=S5) (R:=R) (iP f) (x,l) S8 (by show _+4<_;lia) (by show _+4<_;lia);refine⟨a,?_⟩;unfold sa;refine gS (n:=Y) (So:=gN S5 R (x,l) S8) (OB (p:=aU (iP f)) (bO (j8 (hD<|oA (g:=aU (l++[f])) (b:=aU l) rfl rfl rfl rfl rfl ?_ rfl) rfl) rfl rfl (Ld f) rfl) rfl) b rfl;show (((l++[f]).map aa).getLast?).map (λp=>(ak.im p,ak.lst ((l++[f]).map aa).dropLast))=Z (.im<|aa f,aU l);rw[fQ,List.map_singleton,tY,Fn];rfl
def Ah(E:R.length<=62):∃pt,oh [.aF (a5 R),.im<|aa m]=Z (aB pt,[.aF (a5 R),.im<|aa m])/\jE pt/\(∀f,f∈pt↔m_ R m f):=by
 have s:mF R m ([m],[m]):=⟨⟨fk _ _,.head _,λf e=>by rw[cO.mp e];exact .self,λf e=>.inl<|cO.mp e,λf e=>e⟩,λd t na=>absurd t na⟩;let⟨@SG,u,⟨x,@S8,rfl,S⟩⟩:=oV (g:=Ga) (b:=sa) (λM k=>∃x l S8,k=gN (Z<|.im<|aa m) R (x,l) S8/\mF R m (x,l)/\l.length<=x.length/\M+x.length=R.length+1+l.length) (λk=>∃x S8,k=gN (Z<|.im<|aa m) R (x,[]) S8/\mF R m (x,[])) (λM k ⟨x,l,S8,a,S,v,w⟩=>by
  subst a;have aO:=S.i.len;rcases List.eq_nil_or_concat l with rfl|⟨l,f,rfl⟩
  ·exact⟨aq,_,eO rfl rfl rfl,λc=>(by cases c),λ_=>⟨x,S8,rfl,S⟩⟩
  ·rw[List.concat_eq_append] at *;refine⟨V,_,eO (p:=aU (l++[f])) rfl rfl ?_,λ_=>?_,λc=>by cases c⟩
   ·show Z (!((l++[f]).map aa).isEmpty)=Z V;rw[fQ,List.isEmpty_eq_false_iff.mpr ↥0];rfl
   ·rw[dj,fi]at v w;let⟨@y,h⟩:=Od (R:=R) (m:=m) (f:=f) (x:=x) (l:=l) (S5:=Z (.im<|aa m)) (S8:=S8) (by show _<_;dsimp only at aO;lia) (by dsimp only at aO;lia);let@⟨SS,n⟩:=S.next;have bx:=SS.i.len;generalize (iP f).foldl (dQ R) (x,l)=r at h SS n bx;let⟨z,Tz⟩:=r;dsimp only at aO bx n;exact⟨.aX,_,h,.inl rfl,M-1,by omega,z,Tz,y,rfl,SS,by omega,by omega⟩) 1000000 (R.length+1) (gN (Z<|.im<|aa m) R ([m],[m]) Y) ⟨[m],[m],Y,rfl,s,bq _,by show _=R.length+1+1;rfl⟩ ⋯
 have o:=S.i.ao;have q:=S.i.len;let⟨@pt,A,B,C⟩:=Kz o (by dsimp only at q ⊢;lia);refine⟨pt,?_,C,λf=>B.mem_iff.trans<|S.fin f⟩;have D:mN [.aF (a5 x)]=Z (aU pt):=by
  show iO ((a5 x).map λr=>.tup r.1)=_;have a:((a5 x).map λr=>ab.tup r.1)=x.map aa:=by unfold a5;rw[hI];rfl
  rw[a];unfold iO;rw[aN (tv.mpr (wI o (by dsimp only at q ⊢;lia))),A]
 unfold oh Bx;refine cK (k:=gN (Z<|.im<|aa m) R (x,[]) S8) rfl (bH (So:=[Z (.aF<|a5 R),Z<|.im<|aa m,Z<|.aF<|a5 [m],Y,Y]) rfl<|bH (So:=gN (Z<|.im<|aa m) R ([m],[m]) Y) rfl<|bH u ?_) rfl;exact (et<|dh (bz (aY<|dh (bz rfl rfl) rfl D) rfl) rfl rfl)
end G
namespace L2
open Spec PySem.Calls PyProof.Rows
def I9{Su:bl}{l:a8}(p:af)(hd:(p==iB)=aq)(n:aW)(Sl:Array DictEntry)(U:Nat)(a:n.data=.dict Sl U):
  MeetsIn Su l (bk.«dict.__len__» ⟨[.ref p],[]⟩) (λ_ Sm m=>m.heap.get? p=Z n/\Sm (.ok<|.ret<|.int Sl.size m.toks) {m with toks:=m.toks+1}):=
 .of_wp λO Sm m ⟨b,c⟩=>by
  show wpAny _ _ (dictSize p >>= _) _ _ m;unfold dictSize;refine aD (aD<|tF b a<|a7 ?_);show wpAny _ _ (bk.Dict.pendingCount p >>= _) _ _ m;refine aD (wpAny_pendingCount_other hd ?_);refine CP ?_;rw[Nat.add_zero];exact c
section
variable{e:aK}
def PK:ey e (.builtin "len") (λw h E=>∃d Sx,w=[aj.ref d]/\i9 h d (.aF Sx)/\E (.int Sx.length) h):=by
 intro G m y h w SP E i u c;let⟨d,Sx,rfl,f,o⟩:=c;let⟨J,rfl,g⟩:=iv u;cases g;let⟨j,hd,w,k,n,Sl,U,t,D,l,p,X⟩:=oy i.aR f;have a:m.TypeIs (.ref d) "dict" := ⟨n,t,D.1⟩;have b:Sl.size=Sx.length:=by
  have bg:Sl.toList.length=w.length:=by rw[p,bu]
  have bx:=d9.length k;rw[gT]at bg;lia
 have q:(Sl.size:Int)<2^63:=by rw[b];rw[th]at j;lia
 refine y5 kind_len plain_len entry_len (args_len1 _) ?_;unfold bk.«len»;refine aD (m:=oneArg "len" _) (a7 ?_);refine aD (m:=callSpecial? (.ref d) (aC.ofString "__len__")) (lU (name:=aC.ofString "__len__") a Gy
  (call_meetsIn Gy a F.entry_dict_len (F.args_dict_len_1 _) (I9 d hd n Sl U l) ⟨t,?_⟩));show wpAny _ _ _ _ _ {m with toks:=m.toks+1};refine aD (fX<|a7 ?_);refine aD (mx ?_);show wpAny _ _ (if ((Sl.size:Nat):Int)<0 then _ else _) _ _ _;rw[aT (by omega)];show wpAny _ _ (if ((Sl.size:Nat):Int) >= 2^63 then _ else _) _ _ _;rw[aT (by omega)];refine aD (wpAny_mkInt (a7 ⟨_,rfl,.int Sx.length,h,i.tok _,⟨_,by rw[b]⟩,o⟩))
@[simp] def vm:hz:=λC=>match C with
 |[.aF f]=>Z (.im<|.int f.length)
 |[.k0 f]=>Z (.im<|.int f.length)
 |_=>Y
def Mo:gH e (.builtin "len") vm:=by
 refine PK.imp λw h E ⟨C,p,b,a,o⟩=>?_;unfold vm at a;split at a
 ·cases a;let⟨v,rfl,X,r,B,rfl,t,D,X⟩:=fR b;exact⟨r,B,rfl,.inl t,by rw[<-D.length];exact bZ.i o rfl⟩
 ·cases a;let⟨v,rfl,X,r,B,n,rfl,t,D,X⟩:=fR b;exact⟨r,B,rfl,.inr ⟨n,t⟩,by rw[<-D.length];exact bZ.i o rfl⟩
 ·cases a
end
end L2
namespace L2
open Spec PyProof.Rows
section
open PySem.SeqAt
open PySem.AutoSeq1 (wpAny_loadPart')
open PySem.MeetsSeq PySem.MeetsSeq2 PySem.MeetsSeq3
def O6(H:af)(SM:Array ae)(s:Nat)(b:af)(a:Array ae)(d:Nat)(e:Option af)(aH:Array (Option ae))(k:¬(!SM.isEmpty&&bk.List.listTooLong (SM.size+a.size))=V)(n:SM.size<=sizeLine)(g:SM.size+a.size<=sizeLine+1):
  Meets (bk.«list.extend» ⟨[.ref H,.ref b],[]⟩)
   (λO Sm m=>m.heap.get? H=Z {cls:=.type "list",data:=.seq SM s}/\m.heap.get? b=Z {cls:=.type "tuple",dict:=e,data:=.seq a d,slots:=aH}/\
    Sm (.ok<|.ret .none) {m with heap:=m.heap.update H (aW.mapSeq λf=>f++a)}):=
 .of_wp λSu l O Sm m c=>by
  let⟨o,N,p,bt,Sy⟩:=m;let⟨h,i,c⟩:=c;have q:=AutoSeq1.idx_int;have r:=yT;have t:=AutoSeq1.sub_list_list;have u:=AutoSeq1.sub_tuple_list
  wp_walk using wpAny_loadPart' h,wpAny_loadPart' i
  have j:(aW.mapSeq (λf=>f++a) {cls:=ae.type "list",data:=m8.seq SM s}).data.pastItsLine=Y:=by
   show m8.pastItsLine (.seq (SM++a) _)=Y;unfold m8.pastItsLine;have:(SM++a).size<=sizeLine+1:=by rw[Gr];exact g
   simp only[Gr]at this ⊢;split<;>first|rfl|(exfalso;lia)
  rw[j];exact a7 (a7 ⟨_,rfl,c⟩)
end
section
variable{e:aK}
@[simp] def sg:ak->List ak->Option (ak×ak):=λg C=>match g,C with
 |.lst w,[.im (.tup SE)]=>if w.length+SE.length<=100000 then Z (.im .aV,.lst<|w++SE) else Y
 |_,_=>Y
def NA:oQ e "list.extend" sg:=by
 intro G m y h f R v SP E i l p q;let⟨g,C,u,al,Sm,SF,r,w,ao,a,o⟩:=q;unfold sg at a;split at a
 ·split at a
  ·rename_i x;cases a;let⟨H,SE,rfl,t,D,rfl⟩:=r;let⟨A,I,am,an,rfl,⟨⟨b,TP,rfl,z,d⟩,rfl⟩,⟨rfl,rfl⟩,rfl⟩:=w;have g:fV h H:=⟨_,t,(λ_ a=>by cases a),(λ_ X a=>by cases a)⟩;cases l;let⟨J,rfl,B⟩:=p.one;cases B;let⟨ap,Sw,s,u,as,a⟩:=i.hp t;let⟨a1,c,j,n,M,N,O,P⟩:=i.aR b _ z;let⟨a2,bd,be,TY⟩:=n;let⟨Q,S⟩:=Prod.mk.inj N;cases Q;cases S;cases P;have bi:=j.length;have bm:SE.length+TP.length<=sizeLine:=ma (by rw[<-D.length,<-d.length];exact x);have T:Sw.toArray.size+c.toArray.size<=sizeLine:=by rw[cJ,cJ];lia
   have U:¬ (!Sw.toArray.isEmpty&&bk.List.listTooLong (Sw.toArray.size+c.toArray.size))=V:=by
    rw[L0 T,BH];exact d7
   refine pE F.slot_list_extend ⟨_,a,rfl⟩ F.entry_list_extend (F.args_list_extend_2 _ _)
    (O6 H Sw.toArray s b c.toArray O _ TY U (by rw[cJ];lia) ⋯) ⟨a,M,?_⟩;refine⟨.aV,_,i.s9 (TL:=Sw++c) t a ↥0 (u.append j) (by rw[dj];lia),rfl,o .aV _ [] [H] ⟨rfl,rfl⟩ ?_ (ba.chg (.head _) g (fk _ _) λf k=>by
    rw[FY]at k;exact c5 _ k)⟩
   exact⟨H,_,rfl,eF,(D.app d).mono<|cD.k6 g,rfl⟩
  ·cases a
 ·cases a
end
end L2
namespace G
open L2
def yX(a:af):aE ak:=((fu<|dM (aZ<|a3 1 G.iQ<|ai (ah 0) ay)<|aZ<|ac eV (ah 0)<|ah 1))
def Bm(a:af):aE ak:=((ac eV (ah 1)<|ag<|a3 1 G.ha<|ai (ah 0) ay))
def vP(a:af):bo:=((bh (dD (fh (eH<|ez<|ag<|a3 1 (G.eI a)<|ai (ah 0) ay)<|fh (eH<|ez<|ag<|kP "tuple"<|ah 1)<|aZ<|ac d4 (ag<|bT cH<|ai (ah 1) ay)<|ag<|aA<|.int 0) (cy<|aA<|.au aq) eo)<|bh (bS 2<|a3 1 G.gv<|ai (ah 0) ay)<|bh (dD (eH<|ez<|ag<|bT h8<|ai (ag<|cm 1 [2] (b8<|ah 1) (a9 0) dm<|G.yX a) ay) (cy<|aA<|.au aq) eo)<|cy<|bT h8<|ai (ag<|cm 2 [] (jH<|ai (ah 1)<|ai (ag<|f6 (ah 1) (gy<|aA<|.int 1) gK) ay) (iy 2<|eP (a9 0)<|eP (a9 1) ir) dm<|G.Bm a) ay))
def nf(a:af):cX:=(c8 2 3 [0,1] (vP a))
def F0:bo:=((cy<|fu<|dM (aZ<|a3 1 G.iQ<|ai (ah 1) ay)<|aZ<|ac eV (ah 1)<|ah 0))
def mP:cX:=(c8 2 2 [0,1] F0)
def xh:aE ak:=((a3 1 G.iQ<|ai (ah 0) ay))
def xj:bo:=((cy<|fu<|dM (aZ<|kP "tuple"<|ah 0)<|aZ<|bT h8<|ai (ag<|cm 1 [] (b8<|ah 0) (a9 0) dm G.xh) ay))
def lx:cX:=(c8 1 1 [0] xj)
def rt(a:af):aE ak:=((o9 1 a 1 G.lx<|ai (ah 0) ay))
def GC(a:af):aE ak:=((ac oN (ah 0)<|ah 1))
def vA(a:af):bo:=((bh (dD (fh (eH<|ez<|ag<|kP "tuple"<|ah 0)<|eH<|ez<|ag<|bT h8<|ai (ag<|cm 1 [1] (b8<|ah 0) (a9 0) dm<|G.rt a) ay) (cy<|aA<|.au aq) eo)<|cy<|bT h8<|ai (ag<|cm 2 [] (jH<|ai (ah 0)<|ai (ag<|f6 (ah 0) (gy<|aA<|.int 1) gK) ay) (iy 2<|eP (a9 0)<|eP (a9 1) ir) dm<|G.GC a) ay))
def j0(a:af):cX:=(c8 2 2 [0,1] (vA a))
def qu(a:af):aE ak:=((o9 1 a 1 G.iQ<|ai (ah 0) ay))
def C6(a:af):aE ak:=((ac oN (ah 0)<|ah 1))
def ys(a:af):bo:=((bh (dD (fh (eH<|ez<|ag<|kP "tuple"<|ah 0)<|eH<|ez<|ag<|bT h8<|ai (ag<|cm 1 [1] (b8<|ah 0) (a9 0) dm<|G.qu a) ay) (cy<|aA<|.au aq) eo)<|cy<|bT h8<|ai (ag<|cm 2 [] (jH<|ai (ah 0)<|ai (ag<|f6 (ah 0) (gy<|aA<|.int 1) gK) ay) (iy 2<|eP (a9 0)<|eP (a9 1) ir) dm<|G.C6 a) ay))
def kd(a:af):cX:=(c8 2 2 [0,1] (ys a))
def yx(a:af):bo:=((cy<|fu<|dM (aZ<|a3 1 (G.eI a)<|ai (ah 0) ay)<|dM (aZ<|a3 2 G.mP<|ai (ah 0)<|ai (ah 1) ay)<|dM (aZ<|a3 2 G.mP<|ai (ah 0)<|ai (ah 2) ay)<|dM (aZ<|ac iS (ah 1)<|ah 2)<|aZ<|ac fw (ah 2)<|ag<|a3 1 G.ha<|ai (ah 1) ay))
def lF(a:af):cX:=(c8 3 3 [0,1,2] (yx a))
def CW:aE ak:=((ed 0))
def A3:aE Bool:=((aZ<|ac fw (ah 0)<|ah 1))
def Ao:bo:=((bh (bS 4<|a3 1 G.gv<|ai (ah 3) ay)<|bh (dD (fh (aZ<|ac eV (ah 1)<|ah 4)<|aZ<|ac eV (ah 2)<|ah 4) (cy<|aA<|.au aq) eo)<|cy<|ac fw (ah 2)<|ag<|a3 2 G.oh<|ai (ag<|a3 1 G.gv<|ai (ag<|cm 1 [4] (b8<|ah 0) (a9 0) G.A3 G.CW) ay)<|ai (ah 1) ay))
def mY:cX:=(c8 4 5 [0,1,2,3] Ao)
def ji(a:af):bo:=((bh (dD (fh (eH<|ez<|ag<|a3 2 (G.nf a)<|ai (ah 0)<|ai (ah 5) ay)<|fh (aZ<|ac iS (ag<|ac bD (ah 5)<|ag<|aA<|.int 0)<|ah 1)<|aZ<|ac iS (ag<|ac bD (ah 5)<|ag<|nz<|aA<|.int 1)<|ah 2) (cy<|aA<|.au aq) eo)<|i3<|gU hO 4 sg<|ai (ag<|f6 (ah 5) (gy<|aA<|.int 1)<|gy<|nz<|aA<|.int 1) ay))
def yr(a:af):bo:=((bh (bS 4<|ec<|ai (ah 1)<|ai (ah 2) ay)<|bh (e4 (b8<|ah 3) (a9 5)<|G.ji a)<|cy<|ac d4 (ag<|bT vm<|ai (ag<|a3 1 G.gv<|ai (ah 4) ay) ay)<|ag<|bT cH<|ai (ah 4) ay))
def kp(a:af):cX:=(c8 4 6 [0,1,2,3] (yr a))
def ph(a b c:af):bo:=((bh (dD (fh (eH<|ez<|ag<|a3 3 (G.lF a)<|ai (ah 0)<|ai (ah 1)<|ai (ah 2) ay)<|fh (eH<|ez<|ag<|a3 2 (G.kd b)<|ai (ah 3)<|ai (ag<|aA<|.fn b) ay)<|eH<|ez<|ag<|a3 2 (G.j0 c)<|ai (ah 4)<|ai (ag<|aA<|.fn c) ay) (cy<|aA<|.au aq) eo)<|cy<|fu<|dM (aZ<|ac d4 (ag<|bT cH<|ai (ah 3) ay)<|ag<|bT cH<|ai (ah 4) ay)<|dM (aZ<|a3 4 G.mY<|ai (ah 0)<|ai (ah 1)<|ai (ah 2)<|ai (ah 3) ay)<|aZ<|a3 4 (G.kp a)<|ai (ah 0)<|ai (ah 1)<|ai (ah 2)<|ai (ah 4) ay))
def fv(a b c:af):cX:=(c8 5 5 [0,1,2,3,4] (ph a b c))
end G
namespace L2
open Spec PyProof.Rows
variable{T2:ae->av->Prop}{SA SS:List aC}{fd:f3}{q s:Nat}{SD TM dG T4:cn}{M f Tu:aC}{az x a Sv d:af}{m To:av}{y:aS}{G:List (af×aW)}{Sn:fA}{S2 H:List dU}{O:bp}{TO TJ:ae}{SO:gj}{Q:Φ}{T5 h:ax}{E:Unit->av->Prop}{R:Array ae}{S9:aW}{T c:a0}{SF:List af}{l:a8}{S:bl}
def dw.gone(f:dw S l h c)(s:c.get? d=Y):h d=Y:=by
 cases o:h d with
 |none=>rfl
 |some n=>
  have e:∃J,c.get? d=Z J:=by
   have b:=f d n o;clear o;induction n with
   |lst w=>let⟨W,Sw,M,W,a⟩:=b;exact⟨_,a⟩
   |tup w=>let⟨W,Sw,W,bN,a,W⟩:=b;exact⟨_,a⟩
   |dC Sx=>let⟨W,W,R,W,bN,Sl,U,a,W⟩:=b;exact⟨_,a⟩
   |aF Sx=>let⟨W,W,w,W,bN,Sl,U,a,W⟩:=b;exact⟨_,a⟩
   |set SF M=>let⟨bN,Sl,U,I,a,W⟩:=b;exact⟨_,a⟩
   |ins az k X=>let⟨W,W,W,a,W⟩:=b;exact⟨_,a⟩
   |own _=>exact b
   |tp X=>let⟨i,⟨n,Sl,U,a,W⟩,W⟩:=b;exact⟨_,a⟩
   |vb Sp Sq=>let⟨I,J,v,a⟩:=b;exact⟨_,a⟩
   |dq bN J g=>exact⟨_,b.1⟩
   |mT SA=>exact⟨_,b⟩
   |met x A=>exact⟨_,b⟩
   |ext j=>exact b.2.1
  let⟨J,a⟩:=e;rw[s]at a;cases a
section
variable{aE:ik}{O:bp}{T2:ae->av->Prop}{m:av}{S:bl}{l:a8}{h:ax}{Sz:a0}{Sk:dU}{S2:List dU}{Sv a:af}
def wC(d:m.heap.FunFrames Sz H)(c:∀b∈dN H,b∈SF):m.heap.FunFrames (Φa m.heap SF) H:=by
 induction H with
 |nil=>trivial
 |cons f u e=>
  let⟨g,⟨Sv,n,a,X,h,hd⟩,i⟩:=d;refine⟨g,⟨Sv,n,a,oK SF<|c Sv ?_,h,hd⟩,e i λb j=>c b ?_⟩
  ·show Sv∈(f::u).filterMap (·.frame);rw[qG,a];exact .head _
  ·show b∈(f::u).filterMap (·.frame);rw[qG,a];exact .tail _ j
def v3(i:m.heap.FunFrames Sz H)(f:∀b∈SF,h b=Y){w:List af}(j:∀b∈SF,b∈dN H\/b∈w)(aR:dw S l h m.heap)(S1:(Φa m.heap SF).StaysIn T)(k:∀b n,m.heap.get? b=Z n->(∀R,n.data≠.fields R)->∃aH,T.get? b=Z {n with slots:=aH}):dR (dN H) w h h m.heap T/\dw S l h T:=by
 have keep:∀b n,m.heap.get? b=Z n->b∉SF->T.get? b=Z n:=λb n o s=>S1 b n (p5 SF o s);refine⟨⟨λb n o X p aX=>keep b n o λa=>(j b a).elim p aX,λb n o X g X=>?_,λ_ X X s X=>s,(λb n SE o I aX=>keep b n o λa=>by rw[f b a]at I;cases I),λb n o aX=>?_,λ_ X o=>o,λ_ X X o=>o,λ_ SA o=>⟨#[],by rw[o];simp⟩⟩,λd n o=>?_⟩
 ·let⟨X,Th,e,hd⟩:=i.mem g;rw[o]at e;cases e;exact k b n o hd
 ·by_cases c:b∈SF
  ·rcases j b c with g|q
   ·let⟨X,Th,e,hd⟩:=i.mem g;rw[o]at e;cases e;let⟨aH,r⟩:=k b n o hd;exact⟨_,r⟩
   ·exact absurd q aX
  ·exact⟨n,keep b n o c⟩
 ·refine (aR d n o).f7 (λb J c t=>keep b J t λa=>?_) (λ_ a=>a) λ_ X a=>a;rcases c with rfl|c
  ·rw[f b a]at o;cases o
  ·rw[f b a]at c;cases c
def GD(h:ax)(e c:a0)(a:af)(cls TJ:ae):Prop:=(∃S9 R F b d,c.get? a=Z S9/\(S9.cls=cls/\R[0]?=Z TJ)/\S9.data=.fields R/\R[1]?=Z (.ref F)/\e.get? F=Y/\F≠a/\c.get? F=Z b/\b.data=.fields d/\d[3]?=Z .none/\h F=Y)
def Hs(x:O.frames=Z (Sk::S2))(f:m.heap.FunFrames Sz (Sk::S2))(y:Sk.frame=Z Sv)(z:m.heap.get? a=Z S9)(hd:S9.data=.fields R)(t:R[1]?=Z .none)(A:R[0]?=Z TJ)(B:h a=Y)(C:∀b∈dN (Sk::S2),h b=Y)(aR:dw S l h m.heap)(c:∀T,dR (dN (Sk::S2)) [a] h h m.heap T->dw S l h T->GD h m.heap T a S9.cls TJ->E () {m with heap:=T}):wpAny aE O (leaving Sk<|.ref a) E T2 m:=by
 have g:∀b∈a::dN (Sk::S2),b∈dN (Sk::S2)\/b∈[a]:=λb d=>by
  rcases bL.mp d with u|u
  ·rw[u];exact .inr (.head _)
  ·exact .inl u
 refine wpAny_leaving_firstW (base:=Φa m.heap (a::dN (Sk::S2))) x (wC f λb d=>.tail _ d) y z (λb n o=>u6 _ o) (oK _<|.head _) hd t A λT ⟨S1,_,D,i⟩=>?_;let⟨G,H,F,I,j,L,ep,M,N,k,p,q,r,P⟩:=D;let⟨J,Q⟩:=v3 (S:=S) (l:=l) f (λb d=>(g b d).elim (C b) λU=>by rw[cO.mp U];exact B) (w:=[a]) g aR S1 i;have e:m.heap.get? F=Y:=by
  cases o:m.heap.get? F with
  |none=>rfl
  |some n=>
   by_cases e:F∈a::dN (Sk::S2)
   ·rcases bL.mp e with u|u
    ·exact absurd u p
    ·let⟨X,Th,al,s⟩:=f.mem u;let⟨aH,v⟩:=i F Th al s;rw[q]at v;cases v;exact absurd r (s j)
   ·rw[p5 _ o e]at k;cases k
 exact c T J Q ⟨G,H,F,I,j,L,ep,M,N,e,p,q,r,P,aR.gone e⟩
end
def dR.out{X:List af}{c t D:a0}(d:dR X [] T5 h c t)(b:dR (Sv::X) [a] h h t D)(k:∀g n,c.get? g=Z n->g≠Sv)(l:∀g n,c.get? g=Z n->g≠a):dR X [] T5 h c D:=by
 have aX:∀g n,c.get? g=Z n->g∉[a]:=λg n o e=>l g n o (cO.mp e);have m:∀g n,c.get? g=Z n->g∉X->g∉Sv::X:=λg n o s e=>(bL.mp e).elim (k g n o) s;have TQ:∀g:af,g∉([]:List af):=λg e=>by cases e
 refine⟨λg n o s f W=>b.keep g n (d.keep g n o s f<|TQ g) (d.free g n o s<|TQ g) (m g n o f)<|aX g n o,λg n o s f W=>?_,λg n o s W=>d.free g n o s<|TQ g,λg n SE o I W=>b.g9 g n SE (d.g9 g n SE o I<|TQ g) (d.gz g SE I)<|aX g n o,λg n o W=>?_,λg w o=>b.gz g w<|d.gz g w o,λg n J o=>b.g0 g n J<|d.g0 g n J o,λg SA o=>?_⟩
 ·let⟨aH,i⟩:=d.slot g n o s f (TQ g);let⟨p,j⟩:=b.slot g _ i (d.free g n o s<|TQ g) (.tail _ f) (aX g n o);exact⟨p,j⟩
 ·let⟨Th,i⟩:=d.there g n o (TQ g);exact b.there g Th i (aX g n o)
 ·let⟨q,i⟩:=d.ih g SA o;let⟨r,j⟩:=b.ih g _ i;exact⟨q++r,by rw[j,zy]⟩
def l4(S:bl)(l:a8):jn:=(λS2 h m Sn mv Ss=>∃(a az:af) (TJ:ae) (P:ax),mv=.ref a/\Ss.os=m.os/\ke Ss.gens/\dR (dN S2) [] h P m.heap Ss.heap/\dw S l P Ss.heap/\m.heap.get? a=Y/\P a=Y/\GD P m.heap Ss.heap a (.ref az) TJ/\Sn (.ref az) Y P)
def IL{aw:aC->Option ae}{Sz:a0}{S4:Nat}(i:aG (h7 (l4 S l) S l Q aw Sz SS Tu SO x TO O S2 To T5 Sn) G y h m)(q:∀b J,m.heap.get? b=Z J->T.get? b=Z J)(s:m.heap.get? a=Y)(k:T.get? a=Z S9)(p:S9.cls=.ref az)(hd:S9.data=.fields R)(t:R[1]?=Z .none)(r:R[0]?=Z TJ)(u:Sn (.ref az) Y h):
  (h7 (l4 S l) S l Q aw Sz SS Tu SO x TO O S2 To T5 Sn).cj (.ref a) {m with heap:=T,toks:=S4}:=by
 have Tr:=i.kept (S4:=S4) q;have f:h a=Y:=i.aR.gone s;refine Hs (Sz:=Sz) (S:=S) (l:=l) (h:=h) (Sv:=To.heap.objs.size) Tr.ok.frames Tr.stack rfl k hd t r f Tr.qr Tr.aR λD un v eM=>?_;rw[p]at eM;let⟨w,z,F,A,B,C,ep,E,H,j,I⟩:=eM;have d:∀g n,To.heap.get? g=Z n->∃Th,m.heap.get? g=Z Th:=λg n o=>i.base.there g n o λe=>by cases e
 refine⟨a,az,TJ,h,rfl,Tr.os,Tr.bare,?_,v,?_,f,⟨w,z,F,A,B,C,ep,E,H,?_,I⟩,u⟩
 ·refine dR.out (Sv:=To.heap.objs.size) (a:=a) Tr.base un (λg n o=>dJ<|b9 o) λg n o e=>?_;let⟨Th,c⟩:=d g n o;rw[e,s]at c;cases c
 ·cases o:To.heap.get? a with
  |none=>rfl
  |some n=>
   let⟨Th,c⟩:=d a n o;rw[s]at c;cases c
 ·cases o:To.heap.get? F with
  |none=>rfl
  |some n=>
   let⟨Th,c⟩:=d F n o;rw[q F Th c]at j;cases j
def Mb{n:List ae}{p:String}(e:Q.In c)(o:Ω Q az n p=V):∃a SS C b bs d f g gq h i j S1 S6 k l q,c.get? az=Z (excClassObj C b az SS bs a d f g gq h i j S1 S6 k l p)/\c.Ns SS q/\q "__init__" = Y/\OwnTail c n a:=by
 unfold Ω at o;split at o
 ·rename_i i TO aH lk;split at o
  ·rename_i A a j S1 S6 k B l r s;rw[cG,cG,cG,cG,cG]at o;let⟨⟨⟨⟨⟨v,w⟩,t⟩,x⟩,m⟩,u⟩:=o;cases rf.mp v;cases rf.mp w;let⟨C,bs,D,y,b,d,f,g,gq,h,z⟩:=TO;dsimp only at r t m u;cases z with
   |true=>cases t
   |false=>
    subst r;let⟨aH⟩:=aH;dsimp only at s;subst s;exact⟨a,y,C,b,bs,d,f,g,gq,h,i,j,S1,S6,k,l,_,e _ _ lk,.of_isNs<|PySem.W.isNs_of_in e m,PySem.W.nsMap_none_of_in e m<|rf.mp u,PySem.W.tail_of_in e x⟩
  ·cases o
 ·cases o
def r1(e:aK)(az:af):eW:=(λ_ y h=>∀(G:List (af×aW)) (m:av) (a:af) (T:a0) (S9:aW) (R:Array ae) (TJ:ae),aG e G y h m->(∀b J,m.heap.get? b=Z J->T.get? b=Z J)->m.heap.get? a=Y->T.get? a=Z S9->S9.cls=.ref az->S9.data=.fields R->R[1]?=Z .none->R[0]?=Z TJ->e.cj (.ref a) {m with heap:=T})
section
variable{e:aK}
def IC{B}(s:e.calm=V)(t:dP e f)(w:e.aw f=Z (.ref az))(o:Ω e.K az [.type "ValueError",.type "Exception",.type "BaseException",.type "object"] "ValueError.__new__" = V)(hd:(f==("__debug__" : aC))=aq:=by decide):
  hv e (.Raise (Z<|.Call (.Name f T4) [.Constant (.str M) B dG] [] TM) Y SD) (r1 e az):=by
 intro G m y h k i c;have x:bE e (.Name f T4) (mH<|.ref az):=rC (v:=.ref az) t w rfl hd;let⟨d,SS,C,A,bs,D,g,E,gq,F,j,l,S1,S6,n,p,q,L,N,O,r⟩:=Mb i.mod.oq o;have z:bw [a_.Constant (.str M) B dG] e.env=(aq,b1 (.Constant (.str M) B dG) e.env)::bw [] e.env:=rfl;refine wpAny_Raise_call_subT (C:=az) (nm:=C) (q:=A) (bs:=bs) (hdct:=D) (sn:=g) (sub:=E) (ab:=gq) (col:=F) (dd:=j) (k0:=l) (k1:=S1) (k2:=S6) (k3:=n) (k5:=p) (bm:=d) (N:=SS) (mN:=q) Bp (r.hasType Bp.hasBase) (i.ok.hd s) (by rw[z];rfl) O (bP (x G m y h (λv Sr=>v=.ref az/\Sr=h) i ⟨rfl,rfl⟩) λJ P ⟨v,Sr,S,u,U,b⟩=>?_);subst U b;cases u;refine⟨rfl,?_⟩;have iJ:g7 e [a_.Constant (.str M) B dG] _:=l1 Bg qa;have TC:=iJ TM G P y Sr (λR SK=>R.length=1/\SK=Sr) S ⟨rfl,rfl⟩;rw[z]at TC ⊢;refine Fj (bP TC λSP al ⟨R,SK,a,am,H,b⟩=>?_);subst b;refine⟨rfl,?_,a.eu _ _ L,N.keeps a.eu,r.keeps a.eu,λT S_ mk=>?_⟩
 ·show SP.length<=sizeLine;rw[<-am.length,H];decide
 ·let⟨I,an,X,X⟩:=mk.there;exact c G al S_ T _ _ _ a mk.keeps mk.new an rfl rfl rfl rfl
end
def z1(SR:List Nat)(Tw:aS->ax->Prop)(Sm:aP->aP->Prop)(y:aS)(h:ax):Prop:=(∃k L SG,bf h k y L/\L.Nodup/\Sm k SG/\∀a P SW,c0 SR y a->bf P SG a SW->ba h L P SW->Tw a P)
def i7(e:aK)(SR:List Nat)(Tw:aS->ax->Prop)(a:List bQ)(Sm:aP->aP->Prop):Prop:=(gD e a λ_ y h=>z1 SR Tw Sm y h)
def rW(e:aK)(SR:List Nat)(Tw:aS->ax->Prop)(a:a_)(Sm:aP->aP->Prop):Prop:=(bE e a λy h X=>z1 SR Tw Sm y h)
section
variable{e:aK}{SR:List Nat}{Tw:aS->ax->Prop}{Sm:aP->aP->Prop}
def uA(a:List bQ):gD e a λ_ X X=>False:=λ_ X X X X X c=>c.elim
def N4{g:a_}{d b cR:List bQ}{cv:aE Bool}(a:gY e g cv)(c:i7 e SR Tw d Sm):i7 e SR Tw (.If g d b SD::cR) λk SG=>∃So,cv k=Z (V,So)/\Sm So SG:=
 n7 (uH (Am a c<|uA b)<|uA cR) λSn y h ⟨k,L,SG,z,ao,⟨So,f,i⟩,j⟩=>⟨k,L,V,So,z,ao,f,λP SW l m=>⟨So,SW,SG,l,m.ao,i,λn SK SU o p q=>j n SK SU o p<|m.seq q⟩⟩
def NR{B}{cR:List bQ}(b:e.calm=V)(c:dP e f)(d:e.aw f=Z (.ref az))(o:Ω e.K az [.type "ValueError",.type "Exception",.type "BaseException",.type "object"] "ValueError.__new__" = V)(g:∀k y h,Tw y h->r1 e az k y h)(hd:(f==("__debug__" : aC))=aq:=by decide):
  i7 e SR Tw (.Raise (Z<|.Call (.Name f T4) [.Constant (.str M) B dG] [] TM) Y SD::cR) λk SG=>SG=k:=
 n7 (uH (IC b c d o hd)<|uA cR) λSn y h ⟨k,L,SG,z,ao,a,i⟩=>g _ y h (i y h L c0.refl (by rw[a];exact z)<|ba.perm ao<|List.Perm.refl _)
def uK(s:Nat)(a:List ak->Prop)(az:af):cF:=(λR h X Sn=>R.length=s/\∃C L,dW h C R L/\L.Nodup/\a C/\∀P SW,ba h L P SW->Sn (.ref az) Y P)
def lV(e:aK)(G:List (af×aW))(b:af):Prop:=(e.eh.heap.get? b=Y/\b≠e.env.locals/\(∀f g,e.env.cells.lookup f=Z g->g≠b)/\∀r∈e.e0++G,r.1≠b)
def vh{b:af}(i:aG e G y h m)(s:m.heap.get? b=Y)(k:b∉e.ex):lV e G b:=by
 refine⟨?_,λa=>?_,λf g c a=>?_,λr l a=>?_⟩
 ·cases o:e.eh.heap.get? b with
  |none=>rfl
  |some n=>
   let⟨Th,j⟩:=i.base.there b n o k;rw[s]at j;cases j
 ·let⟨M,⟨n,Sl,U,d,X⟩,X⟩:=i.loc;rw[<-a,s]at d;cases d
 ·let⟨v,n,d,X⟩:=i.cell f g c;rw[a,s]at d;cases d
 ·have:=(i.pin r l).1;rw[a,s]at this;cases this
def i0(e:aK)(G:List (af×aW))(h:ax)(c:a0)(a az:af)(TJ:ae):Prop:=(h a=Y/\lV e G a/\∃S9 R F b d,c.get? a=Z S9/\(S9.cls=.ref az/\R[0]?=Z TJ)/\S9.data=.fields R/\R[1]?=Z (.ref F)/\F≠a/\c.get? F=Z b/\b.data=.fields d/\d[3]?=Z .none/\h F=Y/\lV e G F)
def um(e:aK)(az:af)(y:aS)(P:ax):Prop:=(∀(G:List (af×aW)) (Ss:av) (a:af) (TJ:ae),aG e G y P Ss->i0 e G P Ss.heap a az TJ->e.cj (.ref a) Ss)
def Lc{D:List ak->Prop}{r:cn}{a:a_}{Sl:List a_}{N:aE (List bC)}(L:gG e.prog e.w e.K e.aw e.base (l4 e.prog e.w) q x fd SA (uK s D az))(am:d_ q e.A)(an:dP e f)(ap:e.aw f=Z (.ref x))(as:Γ e.K (.ref x)=V)(H:gQ e.K fd SA [])(a1:e.ex=[])(a2:∀y h,Tw y h->um e az y h)(I:fl e (a::Sl) N)(bd:(f==("__debug__" : aC))=aq:=by decide)(be:bw (a::Sl) e.env=(aq,b1 a e.env)::bw Sl e.env:=by rfl)(bi:(e8 SD<|bw Sl e.env).any (·.1)=aq:=by rfl):
  rW e SR Tw (.Call (.Name f r) (a::Sl) [] SD) λk SG=>∃Sy So C,N k=Z (Sy,So)/\Sy.length=s/\eJ Sy So=Z (C,SG)/\D C:=by
 intro G m y h E i ⟨k,bm,SG,z,ao,⟨Sy,So,C,t,bn,bs,bv⟩,c⟩;refine pj (si i an ap ?_ bd);refine yM (h₀:=e.base) i.ok.mod.oq as (bP (@I SD G m y h (λR Sr=>uK s D az R Sr (λ_ Q=>False) λg Q P=>g=.ref az/\um e az y P) i ⟨k,bm,Sy,So,z,ao,t,λR Sr SI ga ca S5 B=>?_⟩) λSP B ⟨R,Sr,j,u,o⟩=>⟨j.jl,?_⟩) be bi
 ·let⟨SU,b0,T,cd,Tb⟩:=nv ca S5 bs;have M:=B.ku (Tb.symm.trans d3);refine⟨by rw[<-S5.length];exact bn,C,b0,cd,(dn.mp M.ao).1,bv,λU ce S=>⟨rfl,a2 y U<|c y U SU c0.refl ?_ ?_⟩⟩
  ·exact T.mono S.tup λd I n a=>S.keep d n a λH=>(dn.mp M.ao).2.2 d H d I rfl
  ·exact (M.trans S T.chg).less (az:=ce) d3
 ·have ch:(SP++[]).length=SA.length:=by rw[cp,<-u.length];exact L.len _ _ _ _ o
  have al:=H B SP j.jl ch;rw[cp]at al;refine wpAny_call (vt (L.run e.A e.stack B Sr ⟨SP,[]⟩ SP R _ _ am j.Gw al u o) λrs Ss p=>?_);cases rs with
  |error mv=>
   let⟨S_,ge,TJ,P,rfl,ci,bare,un,aR,cl,co,eM,⟨aA,cr⟩⟩:=p;cases aA;have aX:∀b:af,b∉e.ex:=λb c=>by rw[a1]at c;cases c
   let⟨S9,cs,F,db,ds,dL,ep,eq,ev,fn,fr,f0,f1,f2,f4⟩:=eM;exact cr G Ss S_ TJ (j.DR (TH:=[]) ci un aR bare λb c=>by cases c) ⟨co,vh j cl<|aX _,S9,cs,F,db,ds,dL,ep,eq,ev,fr,f0,f1,f2,f4,vh j fn<|aX _⟩
  |ok aO=>
   cases aO with
   |ret J=>let⟨v,P,Q,Q,Q,Q,Q,X⟩:=p;exact False.elim X
   |next=>exact False.elim p
   |brk=>exact False.elim p
   |cont=>exact False.elim p
end
section
variable{S:bl}{l:a8}{Q:Φ}{aw:aC->Option ae}{Sz:a0}
def I0(k:lS)(y:aS)(h:ax)(c:Sn (.ref az) Y h):r1 (h7 (l4 S l) S l Q aw Sz SS Tu SO x TO O S2 To T5 Sn) az k y h:=
 λG m a T S9 R TJ i q s b d hd t e=>IL (S4:=m.toks) i q s b d hd t e c
def Jc{z:bQ}{SR:List Nat}{Sm:aP->aP->Prop}(L:ft Q f Tu z x fd)(SF:kj SS SA (c9 z))(a:SA.length=s)(b:∀(S7:ae) (O:bp) (S2:List dU) (m:av) (h:ax) (Sn:fA),d_ q (O.deeper<|ib Tu (c9 z) m.heap.objs.size x S7)->i7 (h7 (l4 S l) S l Q aw Sz SS Tu (c9 z) x S7 O S2 m h Sn) SR (λ_ P=>Sn (.ref az) Y P) (fy z) Sm):
  gG S l Q aw Sz (l4 S l) (q+1) x fd SA (uK s (λC=>∃SG,Sm (C.map Z++replicate (SS.length-s) Y) SG) az):=by
 let⟨TV,F,b3,k,Tb,B,S7,bX,TY,rfl,lk,d⟩:=L.ex;refine BY lk d SF (λR h E Sn c=>c.1.trans a.symm) λO S2 m h R E Sn e c=>⟨_,b S7 O S2 m h Sn e,?_⟩;let⟨g,C,i,j,ao,⟨SG,n⟩,o⟩:=c;have z:=y7 (M:=SS.length-s) j;have Sl:start SS R=R.map Z++replicate (SS.length-s) Y:=by unfold start;rw[g]
 rw[Sl];exact⟨_,i,SG,z,ao,n,λ_ P SW X X m=>o P SW m⟩
end
abbrev aK.hold(e:aK)(Sn:ae->av->Prop)(SA:List (af×aW)):aK:={e with cj:=Sn,e0:=e.e0++SA}
section
variable{e:aK}{G o:List (af×aW)}{y:aS}{h:ax}{m:av}{Sn:ae->av->Prop}
def aG.hold(i:aG e G y h m)(Sn:ae->av->Prop):aG (e.hold Sn G) [] y h m:=
 ⟨⟨i.ok.mod,i.ok.kind,i.ok.glob,i.ok.blt,i.ok.above,i.ok.inj,i.ok.has,i.ok.iE,i.ok.hd,i.ok.frames,i.ok.jQ,i.ok.lI,i.ok.bs,i.ok.hq,i.ok.iZ,i.ok.ja,i.ok.fO,i.ok.iK⟩,i.os,i.bare,i.base,i.loc,i.cell,i.free,i.fW,λr a=>i.pin r (by rw[cp]at a;exact a),i.aR,i.len⟩
def aG.yZ(i:aG (e.hold Sn G) o y h m):aG e G y h m:=
 ⟨⟨i.ok.mod,i.ok.kind,i.ok.glob,i.ok.blt,i.ok.above,i.ok.inj,i.ok.has,i.ok.iE,i.ok.hd,i.ok.frames,i.ok.jQ,i.ok.lI,i.ok.bs,i.ok.hq,i.ok.iZ,i.ok.ja,i.ok.fO,i.ok.iK⟩,i.os,i.bare,i.base,i.loc,i.cell,i.free,i.fW,λr a=>i.pin r<|c5 _ a,i.aR,i.len⟩
def aG.C5{F:af}(i:aG e G y h m)(J:dR (dN e.stack) [a,F] h h m.heap T)(aR:dw e.prog e.w h T)(s:∀b∈[a,F],e.eh.heap.get? b=Y/\b≠e.env.locals/\(∀f g,e.env.cells.lookup f=Z g->g≠b)/\∀r∈e.e0++G,r.1≠b):
  aG e G y h {m with heap:=T}:=by
 have ok:({e with ex:=[a,F]++e.ex}:aK).Ok:=by
  refine⟨i.ok.mod,i.ok.kind,i.ok.glob,i.ok.blt,i.ok.above,i.ok.inj,i.ok.has,i.ok.iE,i.ok.hd,i.ok.frames,i.ok.jQ,λb c=>?_,i.ok.bs,i.ok.hq,λb n o c=>?_,λb c k=>?_,i.ok.fO,i.ok.iK⟩
  ·rcases dt.mp c with z|z
   ·exact⟨(s b z).2.1,(s b z).2.2.1⟩
   ·exact i.ok.lI b z
  ·rcases dt.mp c with z|z
   ·have:=(s b z).1;rw[(i.ok.bs b n o).1]at this;cases this
   ·exact i.ok.iZ b n o z
  ·rcases dt.mp c with z|z
   ·let⟨X,n,q,X⟩:=i.ok.fO.mem k;rw[(s b z).1]at q;cases q
   ·exact i.ok.ja b z k
 have Tr:aG {e with ex:=[a,F]++e.ex} G y h m:=⟨ok,i.os,i.bare,i.base.mono (λ_ z=>z) λb z=>c3 _ z,i.loc,i.cell,i.free,i.fW,i.pin,i.aR,i.len⟩;have j:=Tr.call (k:=m.gens) (S4:=m.toks) (t:=m.drawn) J aR Tr.bare λb c=>⟨.inl<|c5 _ c,(s b c).2⟩;have aX:∀b n,e.eh.heap.get? b=Z n->b∉e.ex->b∉[a,F]++e.ex:=λb n o t c=>by
  rcases dt.mp c with z|z
  ·rw[(s b z).1]at o;cases o
  ·exact t z
 have cE:=j.base;exact⟨i.ok,j.os,j.bare,⟨λb n o d g p=>cE.keep b n o d g<|aX b n o p,λb n o d g p=>cE.slot b n o d g<|aX b n o p,λb n o d p=>cE.free b n o d<|aX b n o p,λb n w o I p=>cE.g9 b n w o I<|aX b n o p,λb n o p=>cE.there b n o<|aX b n o p,cE.gz,cE.g0,cE.ih⟩,j.loc,j.cell,j.free,j.fW,j.pin,j.aR,j.len⟩
def MJ{aE:ik}{E:av->Prop}(i:aG e G y h m)(f:i0 e G h m.heap a az TJ)(U:O.frames=Z e.stack)(j:e.stack=e.env::S2)(al:e.env.frame=Z Sv)(am:e.ex=[])(c:∀T,aG e G y h {m with heap:=T}->i0 e G h T a az TJ->E {m with heap:=T}):wpAny aE O (noteFrame (.ref a) e.env) (λ_ an=>wpAny aE O (setFlight (.ref a) Y) (λ_ ap=>E ap) T2 an) T2 m:=by
 let⟨t,v,S9,R,F,as,a1,a2,ep,bd,be,bi,bm,bn,bs,x,z⟩:=f;have q:m.heap.FunFrames e.base (e.env::S2):=j ▸ i.stack;have bv:∀b∈dN (e.env::S2),h b=Y:=λb d=>i.qr b (j ▸ d);have ca:∀b∈a::F::dN (e.env::S2),b∈dN (e.env::S2)\/b∈[a,F]:=λb d=>by
  rcases bL.mp d with u|u
  ·rw[u];exact .inr (.head _)
  ·rcases bL.mp u with u|u
   ·rw[u];exact .inr (.tail _<|.head _)
   ·exact .inl u
 have cd:∀b∈a::F::dN (e.env::S2),h b=Y:=λb d=>by
  rcases bL.mp d with u|u
  ·rw[u];exact t
  ·rcases bL.mp u with u|u
   ·rw[u];exact x
   ·exact bv b u
 refine wpAny_noteFrame_onW (base:=Φa m.heap (a::F::dN (e.env::S2))) (U.trans (by rw[j])) (wC q λb d=>.tail _<|.tail _ d) al ⟨S9,R,F,as,a1,a2,ep,bd,be,oK _<|.tail _<|.head _,bi,bm,bn,bs⟩ (λb n o=>u6 _ o) (oK _<|.head _) λD ⟨S1,S6,ce,ch⟩=>?_;refine Bq (s:={m with heap:=D}) S1 S6 ce λr ci X cl co=>?_;have A:∀b n,m.heap.get? b=Z n->(∀R,n.data≠.fields R)->∃aH,r.get? b=Z {n with slots:=aH}:=λb n o p=>by
  let⟨aH,k⟩:=ch b n o p;exact⟨aH,co b _ k p⟩
 let⟨J,cr⟩:=v3 (S:=e.prog) (l:=e.w) (w:=[a,F]) q cd ca i.aR ci A;have Tr:aG e G y h {m with heap:=r}:=i.C5 (j ▸ J) cr λb d=>by
  rcases bL.mp d with u|u
  ·rw[u];exact v
  ·rw[cO.mp u];exact z
 let⟨cs,db,g,ds,B,dL,eq,ev,fd,C,H,I,L,fn⟩:=cl;have M:h g=Y/\lV e G g:=by
  by_cases N:g=F
  ·rw[N];exact⟨x,z⟩
  ·have s:m.heap.get? g=Y:=by
    cases o:m.heap.get? g with
    |none=>rfl
    |some n=>
     by_cases P:g∈a::F::dN (e.env::S2)
     ·rcases bL.mp P with u|u
      ·exact absurd u H
      ·rcases bL.mp u with u|u
       ·exact absurd u N
       ·let⟨X,Th,fr,Q⟩:=q.mem u;let⟨aH,k⟩:=A g Th fr Q;rw[I]at k;cases k;exact absurd L (Q B)
     ·rw[p5 _ o P]at C;cases C
   exact⟨i.aR.gone s,vh i s (by rw[am];exact iN)⟩
 exact c r Tr ⟨t,v,cs,db,g,ds,B,dL,eq,ev,fd,H,I,L,fn,M.1,M.2⟩
end
section
variable{e:aK}{G:List (af×aW)}{y:aS}{h:ax}{m:av}
def Ie{aE:ik}{j:Nat}{s:aC}(i:aG e G y h m)(C:e.N.Nodup)(Sq:e.N[j]?=Z s)(D:e.env.kindOf s=Z .local)(c:∀Ss,aG e G (y.set j Y) h Ss->E () Ss):wpAny aE O (do bindName e.env s .none;unbindBehindTheSuite e.env s SD) E T2 m:=by
 let⟨M,F,H⟩:=id i.loc;have x:∀b n,e.eh.heap.get? b=Z n->b≠e.env.locals:=λb n a=>dJ (eK (b9 a) i.ok.above);refine wpAny_nameGoes_keeps D F (by rw[i.ok.kind];rfl) λT v L f=>c _ ?_;refine⟨i.ok,i.os,i.bare,⟨λb n a d g p=>(f.2 b<|x b n a).trans<|i.base.keep b n a d g p,λb n a d g p=>?_,i.base.free,λb n w a I p=>(f.2 b<|x b n a).trans<|i.base.g9 b n w a I p,λb n a p=>?_,i.base.gz,i.base.g0,i.base.ih⟩,⟨_,L,λB A P l t Q=>?_⟩,λA g a=>?_,i.free,i.fW,λr R=>?_,λb bN a=>?_,by rw[wm];exact i.len⟩
 ·let⟨aH,l⟩:=i.base.slot b n a d g p;exact⟨aH,(f.2 b<|x b n a).trans l⟩
 ·let⟨Th,l⟩:=i.base.there b n a p;exact⟨Th,(f.2 b<|x b n a).trans l⟩
 ·by_cases z:B=j
  ·rw[z,List.getElem?_set]at t;rw[aN rfl]at t;split at t<;>cases t
  ·rw[mL (fD z)]at t;let⟨S,Tg,o⟩:=H B A P l t Q;refine⟨S,Tg,?_⟩;rcases o with ⟨q,a⟩|⟨q,g,a,k⟩
   ·have U:A≠s:=λk=>z (yQ C l<|k ▸ Sq);exact .inl ⟨q,(aT U).trans a⟩
   ·exact .inr ⟨q,g,a,k.sameBut f<|i.lN A g a⟩
 ·let⟨al,k⟩:=i.cell A g a;exact⟨al,k.sameBut f<|i.lN A g a⟩
 ·let⟨a,am,ne,an,p⟩:=i.pin r R;exact⟨(f.2 r.1 ne).trans a,am,ne,an,p⟩
 ·refine (i.aR b bN a).f7 (λg J ap o=>(f.2 g λk=>?_).trans o) (λ_ o=>o) λ_ X o=>o;rcases ap with u|u
  ·rw[<-u,k,i.free]at a;cases a
  ·rw[k,i.free]at u;cases u
def QE{aE:ik}(i:aG e G y h m)(f:i0 e G h m.heap a az TJ)(j:e.stack=e.env::S2)(Q:e.ex=[])(c:∀T,aG e G y h {m with heap:=T}->i0 e G h T a az TJ->E () {m with heap:=T}):wpAny aE O (setFlight (.ref a) Y) E T2 m:=by
 let⟨r,t,S9,R,F,U,al,am,ep,an,ap,as,a1,a2,bd,v,x⟩:=f;have k:m.heap.FunFrames e.base (e.env::S2):=j ▸ i.stack;have be:∀b∈dN (e.env::S2),h b=Y:=λb d=>i.qr b (j ▸ d);have bi:∀b∈a::F::dN (e.env::S2),b∈dN (e.env::S2)\/b∈[a,F]:=λb d=>by
  rcases bL.mp d with u|u
  ·rw[u];exact .inr (.head _)
  ·rcases bL.mp u with u|u
   ·rw[u];exact .inr (.tail _<|.head _)
   ·exact .inl u
 have bm:∀b∈a::F::dN (e.env::S2),h b=Y:=λb d=>by
  rcases bL.mp d with u|u
  ·rw[u];exact r
  ·rcases bL.mp u with u|u
   ·rw[u];exact v
   ·exact be b u
 refine Bq (base:=Φa m.heap (a::F::dN (e.env::S2))) (λb n o=>u6 _ o) (wC k λb d=>.tail _<|.tail _ d) ⟨S9,R,F,U,al,am,ep,an,ap,oK _<|.tail _<|.head _,as,a1,a2,bd⟩ λq bn X bs bv=>?_;have z:∀b n,m.heap.get? b=Z n->(∀R,n.data≠.fields R)->∃aH,q.get? b=Z {n with slots:=aH}:=λb n o p=>⟨n.slots,bv b n o p⟩;let⟨J,ca⟩:=v3 (S:=e.prog) (l:=e.w) (w:=[a,F]) k bm bi i.aR bn z;have Tr:aG e G y h {m with heap:=q}:=i.C5 (j ▸ J) ca λb d=>by
  rcases bL.mp d with u|u
  ·rw[u];exact t
  ·rw[cO.mp u];exact x
 let⟨cd,ce,g,ch,A,ci,cl,co,cr,B,C,D,H,cs⟩:=bs;have I:h g=Y/\lV e G g:=by
  by_cases L:g=F
  ·rw[L];exact⟨v,x⟩
  ·have s:m.heap.get? g=Y:=by
    cases o:m.heap.get? g with
    |none=>rfl
    |some n=>
     by_cases M:g∈a::F::dN (e.env::S2)
     ·rcases bL.mp M with u|u
      ·exact absurd u C
      ·rcases bL.mp u with u|u
       ·exact absurd u L
       ·let⟨X,Th,db,N⟩:=k.mem u;let⟨aH,P⟩:=z g Th db N;rw[D]at P;cases P;exact absurd H (N A)
     ·rw[p5 _ o M]at B;cases B
   exact⟨i.aR.gone s,vh i s (by rw[Q];exact iN)⟩
 exact c q Tr ⟨r,t,cd,ce,g,ch,A,ci,cl,co,cr,C,D,H,cs,I.1,I.2⟩
abbrev aK.mR(e:aK)(SA:List (af×aW))(a:af)(S9:aW):aK:={e with A:=e.A.mark (Z<|.ref a),calm:=aq,cj:=λ_ _=>False,e0:=e.e0++(SA++[(a,S9)])}
def aG.mR(i:aG e G y h m)(f:i0 e G h m.heap a az TJ)(c:m.heap.get? a=Z S9):aG (e.mR G a S9) [] y h m:=by
 let⟨l,d,q,R,F,s,t,g,ep,o,X⟩:=f;rw[c]at g;cases g;refine⟨⟨i.ok.mod,i.ok.kind,i.ok.glob,i.ok.blt,i.ok.above,i.ok.inj,i.ok.has,i.ok.iE,λz=>(by cases z),i.ok.frames,i.ok.jQ,i.ok.lI,i.ok.bs,i.ok.hq,i.ok.iZ,i.ok.ja,i.ok.fO,i.ok.iK⟩,i.os,i.bare,i.base,i.loc,i.cell,i.free,i.fW,λr b=>?_,i.aR,i.len⟩;have b:r∈e.e0++(G++[(a,S9)]):=by rw[cp]at b;exact b
 rw[<-b6]at b;rcases dt.mp b with z|z
 ·exact i.pin r z
 ·rw[cO.mp z];refine⟨c,l,d.2.1,λp=>?_,λv j=>?_⟩
  ·let⟨X,n,k,X⟩:=i.ok.fO.mem p;rw[d.1]at k;cases k
  ·rw[o]at j;cases j
def i0.same(f:i0 e G h c a az TJ)(g:a0.SameBut d c T)(s:∀b,lV e G b->b≠d):i0 e G h T a az TJ:=by
 let⟨k,i,S9,R,F,l,m,n,ep,o,p,q,r,t,u,v,j⟩:=f;exact⟨k,i,S9,R,F,l,m,(g.2 a<|s a i).trans n,ep,o,p,q,(g.2 F<|s F j).trans r,t,u,v,j⟩
end
theorem bf.CB{h:ax}:∀{k:aP}{y:aS}{L:List af}{j:Nat},bf h k y L->∃SI SU,bf h (k.set j Y) (y.set j Y) SI/\(SI++SU).Perm L
 |[],y,L,j,c=>by let⟨rfl,rfl⟩:=c;exact⟨[],[],⟨rfl,rfl⟩,.refl _⟩
 |n::k,y,L,0,c=>by
  let⟨f,u,SI,SU,rfl,t,D,rfl⟩:=c;exact⟨SU,SI,⟨Y,u,[],SU,rfl,rfl,D,rfl⟩,d3⟩
 |n::k,y,L,j+1,c=>by
  let⟨f,u,SI,SU,rfl,t,D,rfl⟩:=c;let⟨a,b,S1,S6⟩:=bf.CB (j:=j) D;refine⟨SI++a,b,⟨f,u.set j Y,SI,a,rfl,t,S1,rfl⟩,?_⟩;rw[b6];exact S6.append_left SI
section
variable{e:aK}
def i0.yZ{Sn:ae->av->Prop}{SA o:List (af×aW)}(f:i0 (e.hold Sn SA) o h c a az TJ):i0 e SA h c a az TJ:=by
 have x:∀b,lV (e.hold Sn SA) o b->lV e SA b:=λb d=>⟨d.1,d.2.1,d.2.2.1,λr g=>d.2.2.2 r<|c5 _ g⟩;let⟨i,j,S9,R,F,k,l,m,ep,n,p,q,s,t,u,v,w⟩:=f;exact⟨i,x a j,S9,R,F,k,l,m,ep,n,p,q,s,t,u,v,x F w⟩
end
end L2
namespace L2
open Spec PySem.Calls PyProof.Rows
variable{SD Tz r:cn}{S_:a_}{A:aC}{E:cu}{h:ax}{y:aS}{N:aE bC}{g:ae}{S9:aW}{az a:af}
def J8{Q:Φ}(f:S9.cls=.ref az)(o:Ξ Q (.ref az) g=Z V):Answers (λm=>Q.In m.heap/\m.heap.get? a=Z S9) (.ref a) g V:=by
 intro q bt Su l O Sm m h;let⟨c,N,p,TX,Sy⟩:=m;let⟨⟨e,r⟩,d⟩:=h;have LT:Δ (aQ Su l) c (kY<|.ref a) (.ref az):=f ▸ (qf r).andThen .now;unfold Ξ at o;unfold bk.«isinstance.nested»;refine aD (LT.at ?_);by_cases b:(ae.ref az==g)=V
 ·rw[aN b];exact aD (lM<|a7<|d TX)
 ·rw[aT b]at o;rw[aT b];let⟨i,j,k⟩:=PySem.W.kit_cls (M:=aQ Su l) e o;have n:Δ (aQ Su l) c (wt (.ref a) g) V:=LT.andThen k;refine aD (i.at ?_);rw[aN ∅]
  k_delta "plainIsInstance"
  refine aD (aD<|j.at ?_);simp only[ya,k8,ig];refine aD (n.at ?_);simp only[je];exact a7 (a7<|d TX)
section
variable{e:aK}
def Bl{v:aj}(c:(a,S9)∈e.e0)(d:S9.cls=.ref az)(f:∀J,cb v J->J=g)(o:Ξ e.K (.ref az) g=Z V):ey e (.builtin "isinstance") (λw h E=>w=[.ref a,v]/\E (.au V) h):=by
 intro G m y h w SP E i u ⟨S_,j⟩;subst S_;cases u with
 |cons u b=>
  cases b with
  |cons Tg b=>
   cases b;cases (show _=ae.ref a from u);rw[f _ Tg];have k:=(i.pin (a,S9)<|c5 _ c).1;exact call_isinstance (S:=λ_ Sm m=>(e.K.In m.heap/\m.heap.get? a=Z S9)/\∀bt,Sm (.ok<|.ret<|.bool V) {m with toks:=bt}) (λSu l O Sm m n=>isinstance_outer (J8 d o 0 _ Su l O Sm m n) (by intro p;cases p)) ⟨⟨i.jl,k⟩,λbt=>⟨.au V,h,i.tok _,rfl,j⟩⟩
def F4{Sm:cu}(c:jT N y h E)(q:∀v Sr,E v Sr->Sm v Sr):jT N y h Sm:=by
 let⟨k,L,u,SG,z,ao,a,o⟩:=c;exact⟨k,L,u,SG,z,ao,a,λv Sr SI e d b g=>q _ _<|o v Sr SI e d b g⟩
def vd(a:af):ak->Bool
 |.im (.fn d)=>decide (d=a)
 |_=>aq
theorem M4:∀{p:ak},vd a p=V->p=.im (.fn a)
 |.im (.fn d),c=>by rw[gg c]
def lz(a:af)(N:aE bC):aE ak:=(λk=>(N k).bind λr=>(dF r.2 r.1).bind λp=>if vd a p=V then Z (.im<|.au V,r.2) else Y)
def Gm(c:k3 (lz a N) y h E):jT N y h λf Sr=>f=.ref a/\E (.au V) Sr:=by
 let⟨k,L,u,SG,z,ao,g,o⟩:=c;let⟨⟨n,So⟩,t,D⟩:=bK.mp g;let⟨p,d,b⟩:=bK.mp D;split at b
 ·rename_i l;rw[M4 l]at d;cases b;exact⟨k,L,n,So,z,ao,t,λv Sr SI Sm e S5 m=>⟨(S5.read e d).i,o _ Sr SI [] e ⟨rfl,rfl⟩ (by rw[cp];exact m.both)⟩⟩
 ·cases b
def Ms{b:af}(g:(a,S9)∈e.e0)(i:S9.cls=.ref az)(o:Ξ e.K (.ref az) (.ref b)=Z V)(j:dP e "isinstance")(k:e.aw "isinstance" = Y)(l:eB "isinstance" = Z (.builtin "isinstance"))(m:dP e A)(n:e.aw A=Z (.ref b))(c:dv e S_ N)(hd:(A==("__debug__" : aC))=aq:=by decide)(d:bw [S_,.Name A Tz] e.env=(aq,b1 S_ e.env)::bw [.Name A Tz] e.env:=by rfl)(p:bw [.Name A Tz] e.env=(aq,b1 (.Name A Tz) e.env)::bw [] e.env:=by rfl)(q:(e8 SD<|bw [.Name A Tz] e.env).any (·.1)=aq:=by rfl):b4 e (.Call (.Name "isinstance" r) [S_,.Name A Tz] [] SD) (lz a N):=
 eb (sF (Bl (v:=.ref b) g i (λ_ u=>u) o) j k l (l1 c (l1 (rC (v:=.ref b) m n rfl hd) qa p) d) ∅ ∅ d q) λy h E s=>F4 (Gm s) λf Sr ⟨t,w⟩=>⟨by rw[t],w⟩
def Kl{F:String}(d:(a,S9)∈e.e0)(g:S9.cls=.ref az)(o:Ξ e.K (.ref az) (.type F)=Z V)(i:dP e "isinstance")(j:e.aw "isinstance" = Y)(k:eB "isinstance" = Z (.builtin "isinstance"))(l:dP e A)(m:e.aw A=Y)(n:eB A=Z (.type F))(c:dv e S_ N)(p:A ≠ "__name__" := by decide)(hd:(A==("__debug__" : aC))=aq:=by decide)(b:bw [S_,.Name A Tz] e.env=(aq,b1 S_ e.env)::bw [.Name A Tz] e.env:=by rfl)(q:bw [.Name A Tz] e.env=(aq,b1 (.Name A Tz) e.env)::bw [] e.env:=by rfl)(s:(e8 SD<|bw [.Name A Tz] e.env).any (·.1)=aq:=by rfl):b4 e (.Call (.Name "isinstance" r) [S_,.Name A Tz] [] SD) (lz a N):=
 eb (sF (Bl (v:=.ty F) d g (λ_ u=>u) o) i j k (l1 c (l1 (DQ (v:=.ty F) l m n rfl p hd) qa q) b) ∅ ∅ b s) λy h E t=>F4 (Gm t) λf Sr ⟨w,x⟩=>⟨by rw[w],x⟩
end
end L2
namespace L2
open Spec PyProof.Rows
variable{az:af}{f:aC}{SD:cn}{a:a_}
abbrev hQ:=aP->Option aP
abbrev kG(u:hQ):aP->aP->Prop:=λk SG=>u k=Z SG
def RV(N:bo)(u:hQ):hQ:=(λk=>match N k with
 |some (.aX,So)=>u So
 |_=>Y)
def w5(g:aE Bool)(u:hQ):hQ:=(λk=>match g k with
 |some (V,So)=>u So
 |_=>Y)
def xi(s:Nat)(a:List ak->Bool)(N:aE (List bC)):hQ:=(λk=>(N k).bind λr=>if r.1.length=s then (eJ r.1 r.2).bind λo=>if a o.1=V then Z o.2 else Y else Y)
def l0(s M:Nat)(u:hQ):List ak->Bool:=(λC=>(u<|C.map Z++replicate (M-s) Y).isSome)
section
variable{e:aK}{SR:List Nat}{Tw:aS->ax->Prop}{Sm i:aP->aP->Prop}{u:hQ}
def EK{b:List bQ}(c:i7 e SR Tw b Sm)(q:∀k SG,i k SG->Sm k SG):i7 e SR Tw b i:=n7 c λSn y h ⟨k,L,SG,z,ao,a,d⟩=>⟨k,L,SG,z,ao,q _ _ a,d⟩
def NN(c:rW e SR Tw a Sm)(q:∀k SG,i k SG->Sm k SG):rW e SR Tw a i:=eb c λy h E ⟨k,L,SG,z,ao,a,b⟩=>⟨k,L,SG,z,ao,q _ _ a,b⟩
def N1{g:a_}{d b cR:List bQ}{cv:aE Bool}(f:gY e g cv)(h:i7 e SR Tw d (kG u)):i7 e SR Tw (.If g d b SD::cR) (kG<|w5 cv u):=EK (N4 f h) λk SG a=>by
 change (match cv k with|some (V,So)=>u So|_=>Y)=Z SG at a;split at a
 ·rename_i So c;exact⟨So,c,a⟩
 ·cases a
def GQ{M:aC}{B}{T4 dG TM:cn}{cR:List bQ}(b:e.calm=V)(c:dP e f)(d:e.aw f=Z (.ref az))(o:Ω e.K az [.type "ValueError",.type "Exception",.type "BaseException",.type "object"] "ValueError.__new__" = V)(g:∀k y h,Tw y h->r1 e az k y h)(hd:(f==("__debug__" : aC))=aq:=by decide):
  i7 e SR Tw (.Raise (Z<|.Call (.Name f T4) [.Constant (.str M) B dG] [] TM) Y SD::cR) (kG Z):=EK (NR b c d o g hd) λk SG a=>(Option.some.inj a).symm
end
def tE(S:bl)(l:a8)(Q:Φ)(aw:aC->Option ae)(Sz:a0)(q:Nat)(f:aC)(z:bQ)(x:af)(SA:List aC)(s:Nat)(a:List ak->Bool)(az:af):Prop:=(
 ∃fd,ft Q f f z x fd/\gQ Q fd SA []/\aw f=Z (.ref x)/\gG S l Q aw Sz (l4 S l) q x fd SA (uK s (λC=>a C=V) az))
section
variable{S:bl}{l:a8}{Q:Φ}{aw:aC->Option ae}{Sz c:a0}{q s:Nat}{f:aC}{z:bQ}{x az:af}{SA:List aC}
def QX{SS:List aC}{SR:List Nat}{u:hQ}(L:dd Q aw f z x SA)(SF:kj SS SA (c9 z))(d:SA.length=s)(e:SS.Nodup->∀(S7:ae) (O:bp) (S2:List dU) (m:av) (h:ax) (Sn:fA),d_ q (O.deeper<|ib f (c9 z) m.heap.objs.size x S7)->i7 (h7 (l4 S l) S l Q aw Sz SS f (c9 z) x S7 O S2 m h Sn) SR (λ_ P=>Sn (.ref az) Y P) (fy z) (kG u)):
  tE S l Q aw Sz (q+1) f z x SA s (l0 s SS.length u) az:=
 have ⟨_,c,b,M⟩:=L
 ⟨_,c,b,M,by
  have:=Jc c SF d (e SF.ao);have a:(λC:List ak=>∃SG,kG u (C.map Z++replicate (SS.length-s) Y) SG)=λC=>l0 s SS.length u C=V:=by
   funext C;exact propext (Fd.symm)
  rw[a]at this;exact this⟩
end
section
variable{e:aK}{SR:List Nat}{Tw:aS->ax->Prop}
def H2{s q M:Nat}{d:List ak->Bool}{x:af}{z:bQ}{SA:List aC}{r:cn}{Sl:List a_}{N:aE (List bC)}(L:tE e.prog e.w e.K e.aw e.base q f z x SA s d az)(g:d_ M e.A)(i:dP e f)(j:e.ex=[])(m:∀y h,Tw y h->um e az y h)(n:fl e (a::Sl) N)(o:q<=M:=by decide)(p:(f==("__debug__" : aC))=aq:=by decide)(u:bw (a::Sl) e.env=(aq,b1 a e.env)::bw Sl e.env:=by rfl)(v:(e8 SD<|bw Sl e.env).any (·.1)=aq:=by rfl):
  rW e SR Tw (.Call (.Name f r) (a::Sl) [] SD) (kG<|xi s d N):=by
 let⟨fd,B,b,M,L⟩:=L;refine NN (Lc L (g.mono o) i M B.dz b j m n p u v) λk SG a=>?_;let⟨⟨Sy,So⟩,t,D⟩:=bK.mp a;dsimp only at D;split at D
 ·rename_i E;let⟨⟨C,S3⟩,F,c⟩:=bK.mp D;dsimp only at c;split at c
  ·rename_i G;cases c;exact⟨Sy,So,C,t,E,F,G⟩
  ·cases c
 ·cases D
def Lo{Q:Φ}:Ξ Q (.ref az) (.ref az)=Z V:=aN (jO _)
def yi(Q:Φ)(aw:aC->Option ae)(A:aC)(az:af):Prop:=(aw A=Z (.ref az)/\Ω Q az [.type "ValueError",.type "Exception",.type "BaseException",.type "object"] "ValueError.__new__" = V)
end
end L2
namespace L2
open Spec PySem.Calls PyProof.Rows PySem.W
variable{bt:hT}
structure lg(Q:Φ)(az:af):Prop where
 ga:Φe Q (.ref az) "__getattribute__" = Z (Z<|.builtin "BaseException.__getattribute__")
 rZ:Φe Q (.ref az) "__getattr__" = Z Y
 cl:Φe Q (.ref az) "__class__" = Z (Z<|.builtin "object.__class__")
 bN:PySem.W.mroIn Q az (.type "object")=Z V
 be:PySem.W.mroIn Q az (.type "BaseException")=Z V
 gt:PySem.W.specialIn Q (.builtin "object.__class__") "__get__" = Z (Z<|.builtin "getset_descriptor.__get__")
 bt:PySem.W.takesIn Q (.builtin "object.__class__")=Z V
 cs:Φf Q az=V
section
variable{Su:bl}{l:a8}{O:bp}{Sn:ae->av->Prop}{Q:Φ}{az a:af}{S9:aW}{c:a0}{N:Array nW}{p:Drawn}{I:Nat}{Sy:OsState}
def Pc{Sm:oH->av->Prop}{f:ae}(q:lg Q az)(e:Q.In c)(b:c.get? a=Z S9)(d:S9.cls=.ref az)(h:Sm (.ok<|.ret<|.ref az) ⟨c,N,p,I,Sy⟩):
  codeAny (aQ Su l) O (.call (.builtin "getset_descriptor.__get__") ⟨[.builtin "object.__class__",.ref a,f],[]⟩) Sm ⟨c,N,p,I,Sy⟩:=by
 have i:Δ (aQ Su l) c (kY<|.ref a) (.ref az):=d ▸ ((qf b).andThen .now);have g:Δ (aQ Su l) c (isSubtype (.ref az)<|.type<|".".intercalate ("object.__class__".cutAt '.').dropLast) V:=by
  rw[F.owner_object_class];exact Eg e q.bN
 refine CI yH.plain F.entry_gs_get (yH.check _ _ _ _ _ _ _ _ xn (F.args_gs_get _ _ _) ?_);repeat (any_goals (first|assumption|(with_reducible refine sb b ?_;rw[d])|(with_reducible refine sE g ?_)|wp_step))
 refine⟨Code.quiet_builtin _ (by decide +kernel),lK F.entry_object_class ?_⟩;repeat (any_goals (first|assumption|(with_reducible refine sb b ?_;rw[d])|wp_step))
def Qf{E:Fin->av->Prop}(q:lg Q az)(e:Q.In c)(b:c.get? a=Z S9)(d:S9.cls=.ref az)(g:E (.done<|.ret<|.ref az) ⟨c,N,p,I,Sy⟩):
  wpAny (aQ Su l) O (bk.«object.__getattribute__» ⟨[.ref a,.str "__class__" bt],[]⟩) E Sn ⟨c,N,p,I,Sy⟩:=by
 have f:=xT (M:=aQ Su l) e q.cl;have h:(⟨c,N,p,I,Sy⟩:av).TypeIs (.builtin "object.__class__") "getset_descriptor" := xn;have i:=xn;have j:=yH.lookup;have k:=F.slot_gs_set.lookup;repeat (any_goals (first|assumption|(with_reducible refine sb b ?_;rw[d])|(with_reducible refine sE f ?_)|wp_step))
 refine Pc q e b d ?_;repeat (any_goals (first|assumption|wp_step))
def Ki{aE:ik}{b:ae}{E:Unit->av->Prop}(q:lg Q az)(e:Q.In c)(d:c.get? a=Z S9)(f:S9.cls=.ref az)(i:E () ⟨c,N,p,I,Sy⟩):wpAny aE O (vv "BaseException.__getattribute__" ⟨[.ref a,b],[]⟩) E Sn ⟨c,N,p,I,Sy⟩:=by
 have dE:builtinKind "BaseException.__getattribute__" = Z .slot:=by decide +kernel
 have cE:splitId "BaseException.__getattribute__" = Z ("BaseException","__getattribute__"):=by decide +kernel
 have mQ:=F.args_bexc_ga (.ref a) b;have g:Δ aE c (kY<|.ref a) (.ref az):=f ▸ ((qf d).andThen .now);have h:Δ aE c (wt (.ref a)<|.type "BaseException") V:=g.andThen (Eg e q.be);simp only[vv,dE,cE];refine aD (h.at ?_);repeat (any_goals (first|assumption|wp_step))
def Q7{g b:Bool}{E:ae->av->Prop}(q:lg Q az)(e:Q.In c)(d:c.get? a=Z S9)(f:S9.cls=.ref az)(j:E (.ref az) ⟨c,N,p,I,Sy⟩):
  wpAny (aQ Su l) O (getAttrBy (.ref a) (.str "__class__" bt) g b) E Sn ⟨c,N,p,I,Sy⟩:=by
 have h:=xT (M:=aQ Su l) e q.ga;have i:=xT (M:=aQ Su l) e q.rZ;have k:=CO.ga.bind (.ref a);have B:(b&&onTheHeap (ae.builtin "BaseException.__getattribute__"))=aq:=by cases b<;>rfl
 have cE:(ae.builtin "BaseException.__getattribute__" == ae.builtin "object.__getattribute__")=aq:=by decide +kernel
 have dE:(onTheHeap (ae.ref az)&&ae.builtin "BaseException.__getattribute__" == ae.builtin "object.__getattribute__")=aq:=by rw[cE];rfl
 repeat (any_goals (first|assumption|(with_reducible refine sb d ?_;rw[f])|(with_reducible refine sE h ?_)|(with_reducible refine sE i ?_)|wp_step))
 refine CI CO.ga.plain F.entry_bexc_ga (Ki q e d f<|Qf q e d f ?_);repeat (any_goals (first|assumption|wp_step))
def Rw{E:Option ae->av->Prop}(q:lg Q az)(e:Q.In c)(b:c.get? a=Z S9)(d:S9.cls=.ref az)(f:E (Z<|.ref az) ⟨c,N,p,I+1,Sy⟩):wpAny (aQ Su l) O (uW (.ref a) "__class__") E Sn ⟨c,N,p,I,Sy⟩:=by
 unfold uW getAttrBy?;repeat (any_goals (first|assumption|with_reducible apply Q7 q e b d|wp_step))
theorem RC(q:lg Q az)(f:S9.cls=.ref az):PySem.W.KitX Q (.ref a) (.ref az) λc=>c.get? a=Z S9 where
 ty:=λ_ X X r=>f ▸ ((qf r).andThen .now)
 it:=λ_ X e X=>by
  have d:=q.cs;unfold Φf PySem.W.clsIn at d;split at d
  ·rename_i o;intro X X X X M g;exact aD (wpAny_loadPart (M _ _<|e _ _ o)<|a7 g)
  ·cases d
 ne:=λc h X X X X e r=>by
  have d:=q.cs;unfold Φf PySem.W.clsIn at d;split at d
  ·rename_i o;refine BV.mpr λb=>?_;cases ae.ref.inj (rf.mp b);cases (e _ _ o).symm.trans r
  ·cases d
 ca:=λ{_ _ _ _ _ m} e r d=>by
  let⟨c,N,p,I,Sy⟩:=m;exact Rw q e r f d
end
end L2
namespace L2
open Spec PySem.Calls PyProof.Rows
section
variable{e:aK}
variable{a:af}{S9:aW}{G:List (af×aW)}{y:aS}{h:ax}{m:av}
def aG.Pw(ok:e.Ok)(i:aG (e.mR G a S9) [] y h m):aG (e.hold e.cj<|G++[(a,S9)]) [] y h m:=
 ⟨⟨ok.mod,ok.kind,ok.glob,ok.blt,ok.above,ok.inj,ok.has,ok.iE,ok.hd,ok.frames,ok.jQ,ok.lI,ok.bs,ok.hq,ok.iZ,ok.ja,ok.fO,ok.iK⟩,i.os,i.bare,i.base,i.loc,i.cell,i.free,i.fW,i.pin,i.aR,i.len⟩
variable{az M:af}{S2:List dU}{A s:aC}{T4 S:cn}{B:bQ}{j:Nat}
def KA{T2:ae->av->Prop}{TJ:ae}{r:List bQ}{cR:List ExceptHandler}{I:eW}{Tw:Flow->av->Prop}{SS:aW->aS->ax->Prop}(i:aG e G y h m)(f:i0 e G h m.heap a az TJ)(E:e.stack=e.env::S2)(F:e.ex=[])(H:dP e A)(L:e.aw A=Z (.ref M))(R:Φc e.K (.ref az) (.ref M)=Z V)(t:e.N.Nodup)(Sq:e.N[j]?=Z s)(k:e.env.kindOf s=Z .local)(U:∀S9:aW,S9.cls=.ref az->gD (e.mR G a S9) (B::r) I)(al:∀S9:aW,S9.cls=.ref az->I {aX:=SS S9,dX:=λ_ X=>False,eu:=λ_ X=>False,bX:=λ_ X=>False} (y.set j<|Z<|.ref a) h)(am:∀(S9:aW) c P Ss,S9.cls=.ref az->aG (e.hold e.cj<|G++[(a,S9)]) [] (c.set j Y) P Ss->SS S9 c P->Tw .next Ss)(hd:(A==("__debug__" : aC))=aq:=by decide):
  wpAny (aQ e.prog e.w) e.A (handleBy (.ref a) e.env (.ExceptHandler (Z<|.Name A T4) (Z s) (B::r) S::cR)) Tw T2 m:=by
 refine wpAny_handleBy_cons (codeAny_handlers_test ?_) (by intro o;cases o);obtain⟨S9,u,an⟩:∃S9,m.heap.get? a=Z S9/\S9.cls=.ref az:=by
  let⟨X,X,S9,X,X,X,X,p,ep,X⟩:=f;exact⟨S9,p,ep.1⟩
 have SF:=i.mR f u;refine si SF H L ?_ hd;have LT:Δ (aQ e.prog e.w) m.heap (kY<|.ref a) (.ref az):=an ▸ ((qf u).andThen .now);refine PySem.W.exm_one (M:=aQ e.prog e.w) i.jl LT R _ _ _ m (λb n o=>o) ?_;refine codeAny_handlers_suite_as (QE i f E F λT Tr ap=>?_);refine wJ (v:=.ref a) Tr t Sq (.inl k) rfl (λC as ⟨d,a1,a2⟩=>?_) (.inr k);have D:=ap.same a1 λb pD=>by
  rcases a2 with z|z
  ·rw[z];exact pD.2.1
  ·exact λl=>pD.2.2.1 s d z l.symm
 obtain⟨g,bd,q⟩:∃S9,C.heap.get? a=Z S9/\S9.cls=.ref az:=by
  let⟨X,X,S9,X,X,X,X,p,ep,X⟩:=D;exact⟨S9,p,ep.1⟩
 refine gW (U g q [] C _ h _ (as.mR D bd)<|al g q) (λx bm o=>?_) λ_ X z=>False.elim z;cases x with
 |next=>let⟨c,P,Q,o⟩:=o;exact Ie (e:=e.hold e.cj (G++[(a,g)])) (Q.Pw i.ok) t Sq k λbe bi=>am g c P be q bi o
 |brk=>let⟨X,X,X,o⟩:=o;exact False.elim o
 |cont=>let⟨X,X,X,o⟩:=o;exact False.elim o
 |ret J=>let⟨X,X,X,X,X,o⟩:=o;exact False.elim o
variable{k:lS}
def k9.PF{Sn:ae->av->Prop}{o u:List (af×aW)}{x:Flow}{Ss:av}(c:k9 (e.hold Sn<|G++u) o k x Ss):k9 e G k x Ss:=by
 have un:∀{y:aS}{h:ax},aG (e.hold Sn<|G++u) o y h Ss->aG e G y h Ss:=λi=>
  ⟨⟨i.ok.mod,i.ok.kind,i.ok.glob,i.ok.blt,i.ok.above,i.ok.inj,i.ok.has,i.ok.iE,i.ok.hd,i.ok.frames,i.ok.jQ,i.ok.lI,i.ok.bs,i.ok.hq,i.ok.iZ,i.ok.ja,i.ok.fO,i.ok.iK⟩,i.os,i.bare,i.base,i.loc,i.cell,i.free,i.fW,λr b=>i.pin r (c5 _ (show r∈e.e0++(G++u) by rw[<-b6];exact c5 _ b)),i.aR,i.len⟩;cases x with
 |next=>let⟨a,P,i,o⟩:=c;exact⟨a,P,un i,o⟩
 |brk=>let⟨a,P,i,o⟩:=c;exact⟨a,P,un i,o⟩
 |cont=>let⟨a,P,i,o⟩:=c;exact⟨a,P,un i,o⟩
 |ret J=>let⟨v,a,P,i,u,o⟩:=c;exact⟨v,a,P,un i,u,o⟩
variable{SR:List Nat}{q:Nat}
def k5.cL{TU:aS}{Sr:ax}{L SI:List af}{e:aP}{p:ak}{aO:jq}(f:e[q]?=Z (Z p))(Tn:c0 SR y TU)(TC:ba h L Sr SI)(o:k5 SR k y h L (e.set q<|Z .cL) aO):k5 SR k TU Sr SI e aO:=by
 have go:∀{a:aS}{P:ax}{SW:List af},bf P e a SW->∃SU U,bf P (e.set q<|Z .cL) a SU/\(SU++U).Perm SW:=λz=>by
  let⟨X,U,SU,X,X,J,r⟩:=z.out f;exact⟨SU,U,J,r⟩
 cases aO with
 |dX g=>
  intro v a P SW Sm b c n d;let⟨SU,U,J,r⟩:=go c;refine o v a P SU Sm (Tn.trans b) J n ((TC.seq d).less (az:=U) ?_);rw[b6];exact (fg SU d3).trans (by rw[<-b6];exact r.append_right Sm)
 |aX=>exact λa P SW b c d=>have ⟨SU,U,J,r⟩:=go c;o a P SU (Tn.trans b) J ((TC.seq d).less (az:=U) r)
 |eu=>exact λa P SW b c d=>have ⟨SU,U,J,r⟩:=go c;o a P SU (Tn.trans b) J ((TC.seq d).less (az:=U) r)
 |bX=>exact λa P SW b c d=>have ⟨SU,U,J,r⟩:=go c;o a P SU (Tn.trans b) J ((TC.seq d).less (az:=U) r)
def r_(u:hQ)(a:aP->Option (jq×aP)):bo:=(λk=>(u k).bind a)
def LP{TR:List bQ}{SD:cn}{H cR:List bQ}{Sv:af}{u:hQ}{N c:af->bo}{O:aP->Option (jq×aP)}(R:e.stack=e.env::S2)(a1:e.env.frame=Z Sv)(al:e.ex=[])(a2:dP e A)(bd:e.aw A=Z (.ref M))(be:Φc e.K (.ref az) (.ref M)=Z V)(bi:e.N.Nodup)(Sq:e.N[j]?=Z s)(bm:e.env.kindOf s=Z .local)(am:j∉SR)(bn:∀Sn r Tw,(∀y h,Tw y h->um (e.hold Sn r) az y h)->i7 (e.hold Sn r) SR Tw TR (kG u))(bs:∀r a S9,S9.cls=.ref az->(a,S9)∈(e.mR r a S9).e0->hE (e.mR r a S9) SR (B::H) (N a))(bv:∀r a S9,S9.cls=.ref az->(a,S9)∈(e.hold e.cj r).e0->hE (e.hold e.cj r) SR cR (c a))(ca:∀SG aO Ts,O SG=Z (aO,Ts)->j<SG.length/\∀a,∃b d p,N a (SG.set j<|Z<|.im<|.fn a)=Z (.aX,b)/\c a (b.set j Y)=Z (aO,d)/\d[q]?=Z (Z p)/\d.set q (Z .cL)=Ts)(hd:(A==("__debug__" : aC))=aq:=by decide):
  hE e SR (.Try TR [.ExceptHandler (Z<|.Name A T4) (Z s) (B::H) S] [] [] SD::cR) (r_ u O):=by
 intro G m y h k i ⟨cd,L,aO,Ts,z,ao,ce,o⟩;let⟨SG,ch,ci⟩:=bK.mp ce;let⟨cl,co⟩:=ca SG aO Ts ci;refine wG (wpAny_Try_except<|gW ((bn _ G (λf P=>∃SW,c0 SR y f/\bf P SG f SW/\ba h L P SW)<|λf P cr gt Ss a TJ Tr cs=>?_) [] m y h ⟨λ_ X=>False,λ_ X=>False,λ_ X=>False,λ_ X=>False⟩ (i.hold _) ⟨cd,L,SG,z,ao,ch,λf P SW Tn t TC=>⟨SW,Tn,t,TC⟩⟩) (λx db l=>?_) λa db w=>w)
 ·let⟨SW,Tn,t,TC⟩:=cr;have Q:=Tr.yZ;have ds:=cs.yZ;refine MJ Q ds Q.ok.frames R a1 al λT dL eq=>?_;let⟨b,d,p,ev,fd,fr,f0⟩:=co a;let⟨SI,SU,f1,Tz⟩:=t.put (p:=.im (.fn a)) (v:=.ref a) (U:=[]) ⟨rfl,rfl⟩ cl;rw[cp]at Tz;have an:ba h L P SI:=TC.less (az:=SU) Tz;refine KA (SS:=λS9 g SK=>∃n,c0 SR (f.set j<|Z<|.ref a) g/\bf SK b g n/\ba P SI SK n) dL eq R al a2 bd be bi Sq bm (I:=nA SR (N a)) (λS9 C=>bs G a S9 C<|c3 _<|c3 _<|cO.mpr rfl) (λS9 X=>⟨_,SI,.aX,b,f1,an.ao,ev,λg SK n D E F=>⟨n,D,E,F⟩⟩) (λS9 g SK f2 C f4 f8=>?_) hd;let⟨n,D,E,F⟩:=f8;let⟨ap,ga,ge,gl⟩:=E.CB (j:=j);have as:ba h L SK ap:=(an.seq F).less (az:=ga) gl;have go:c0 SR y (g.set j Y):=(Tn.trans<|c0.set am).trans (D.trans<|c0.set am);refine gW (bv (G++[(a,S9)]) a S9 C (c3 _<|c3 _<|cO.mpr rfl) f2 _ SK k f4 ⟨_,ap,aO,d,ge,as.ao,fd,?_⟩) (λx g1 l=>?_) λ_ X w=>w
  ·exact k5.cL fr go as (f0 ▸ o)
  ·exact l.PF
 ·cases x with
  |next=>let⟨X,X,X,o⟩:=l;exact False.elim o
  |brk=>let⟨X,X,X,o⟩:=l;exact False.elim o
  |cont=>let⟨X,X,X,o⟩:=l;exact False.elim o
  |ret J=>let⟨X,X,X,X,X,o⟩:=l;exact False.elim o
def nj:List ab->List af->Bool
 |[],[]=>V
 |.fn d::C,g::R=>decide (d=g)&&nj C R
 |_,_=>aq
theorem Ft{h:ax}:∀{C:List ab}{R:List af}{w:List aj},nj C R=V->bF h C w->w=R.map aj.ref
 |[],[],_,_,c=>c
 |.fn d::C,g::R,_,a,c=>by
  let⟨v,u,rfl,t,D⟩:=c;unfold nj at a;rw[cG,j5]at a;rw[Ft a.2 D,show v=aj.ref d from t,a.1];rfl
def qd(a:af)(R:List af):hz:=(λC=>match C with
 |[.im (.fn d),.im<|.tup H]=>if (decide (d=a)&&nj H R)=V then Z (.im<|.au aq) else Y
 |_=>Y)
theorem Aj{Q:Φ}{I:ae}:∀{R:List af},(∀g∈R,Ξ Q I (.ref g)=Z aq)->PySem.W.kitAny Q I (R.map ae.ref)=Z aq
 |[],_=>rfl
 |g::R,c=>by
  rw[dK,PySem.W.kitAny,c g<|.head _];exact Aj λp hd=>c p (.tail _ hd)
theorem zp:∀{R:List af}{Sw:List ae},bR (R.map aj.ref) Sw->Sw=R.map ae.ref
 |[],_,.nil=>rfl
 |g::R,_,.cons u I=>by
  rw[zp I,show _=ae.ref g from u];rfl
def K3{R:List af}(q:lg e.K az)(n:(a,S9)∈e.e0)(r:S9.cls=.ref az)(o:∀g∈R,Ξ e.K (.ref az) (.ref g)=Z aq):gH e (.builtin "isinstance") (qd a R):=by
 intro G m y h w SP E i u ⟨C,p,x,b,z⟩;unfold qd at b;split at b
 ·rename_i d H;split at b
  ·rename_i k;cases b;rw[cG,j5]at k;let⟨v,J,rfl,t,D⟩:=tB x;let⟨l,SE,rfl,B,ep⟩:=D;have I:=Ft k.2 ep;subst I;cases (show v=.ref d from t);let⟨f,A,rfl,L,M⟩:=ps u;cases (show f=.ref d from L);cases (show A=.ref l from M);rw[k.1];let⟨X,Sw,N,c⟩:=i.aR l _ B;have O:=zp N;subst O;let⟨⟨TV,F,U,aH⟩,P,S,s,hd⟩:=c;cases (Prod.mk.inj S).1;cases hd;exact PySem.W.kia_tup (RC q r) i.jl (i.pin (a,S9)<|c5 _ n).1 P (Aj o) (by intro T;cases T) λbt=>⟨.au aq,h,i.tok _,rfl,bZ.i z rfl⟩
  ·cases b
 ·cases b
end
end L2
namespace G
open L2
variable{T Tv Q Tt E y Tj:Option ak}{q:Nat}{C w:List ab}{I:Bool}{a p:ab}{Ta l:dy}{e R i X:List aI}{N:aE ak}{k:aP}{F:List dy}{f g b d:aI}{Sv:fG}{x:af}{S0:Type}
def p7:aP->Option (jq×aP):=(λk=>match k with
 |[a,b,c,Z<|.im .aV,Y]=>Z (.dX<|.im<|.au V,[a,b,c,Z .cL,Y])
 |_=>Y)
def mh:hQ:=((w5 (fh (aZ<|ac d4 (ah 1)<|ah 2)<|aZ<|ac eV (ah 2)<|ag<|a3 1 G.ha<|ai (ah 1) ay) Z))
def GO:bo:=((bS 3<|ac du (ah 3)<|ag<|ec<|ai (ag<|ac du (ah 0)<|ag<|cB<|ai (ah 4) ay)<|ai (ag<|ac du (ag<|ac du (ag<|f6 (ah 0) gK<|gy<|ed 1)<|ag<|cB<|ai (ah 4) ay)<|ag<|f6 (ah 0) (gy<|ac du (ah 1)<|ag<|aA<|.int 1) gK)<|ai (ag<|cB<|ai (ah 4) ay) ay))
def OT:bo:=((bh (bS 2<|ec<|ai (ag<|aA .aV)<|ai (ag<|aA<|.au V)<|ai (ag<|aA<|.int 3)<|ai (ag<|aA<|.str "")<|ai (ag<|aA<|.str "5:5")<|ai (ag<|cB<|ai (ag<|aA<|.int 5) ay)<|ai (ag<|cB<|ai (ag<|aA<|.int 5)<|ai (ag<|aA<|.int 5)<|ai (ag<|aA<|.int 5) ay)<|ai (ag<|nC<|ec<|ai (ag<|aA<|.int 5)<|ai (ag<|aA<|.int 5) ay)<|ai (ag<|cB<|ai (ag<|aA<|.str "5")<|ai (ag<|aA<|.int 5) ay)<|ai (ag<|cB<|ai (ag<|aA<|.au V)<|ai (ag<|aA<|.int 5) ay)<|ai (ag<|cB<|ai (ag<|aA<|.int 5)<|ai (ag<|aA<|.au aq) ay)<|ai (ag<|cB<|ai (ag<|nz<|aA<|.int 1)<|ai (ag<|aA<|.int 0) ay)<|ai (ag<|cB<|ai (ag<|aA<|.int 31)<|ai (ag<|aA<|.int 0) ay)<|ai (ag<|nC sG) ay)<|bh (bS 3<|ec<|ai (ag<|aA .aV)<|ai (ag<|aA<|.au V)<|ai (ag<|aA<|.au aq)<|ai (ag<|aA<|.int 0)<|ai (ag<|aA<|.int 7)<|ai (ag<|aA<|.str "")<|ai (ag<|aA<|.str "cells")<|ai (ag<|nC sG)<|ai (ag<|nC<|ec ay)<|ai (ag<|nC<|bT wu<|ai (ah 0) ay)<|ai (ag<|nC<|ec<|ai (ah 0) ay)<|ai (ag<|cB<|ai (ah 0) ay) ay)<|bh (e4 (b8<|ah 2) (a9 4) G.GO)<|cy<|ed 3))
def k7:cX:=(c8 2 5 [0,1] OT)
def rB:hQ:=((xi 3 (l0 3 8 G.mh)<|ai (ah 0)<|ai (ah 1)<|ai (ah 2) ay))
def E0:af->bo:=(λa=>(bS 3<|ed 4))
def Oj:bo:=((bh (bS 3<|aA .aV)<|r_ G.rB G.p7))
def sh:cX:=(c8 3 5 [0,1,2] Oj)
def tk(a b c:af):aE ak:=((ed 0))
def r3(a b c:af):aE Bool:=((aZ<|ac eV (ah 0)<|ah 1))
def su(a b c:af):bo:=((dD (fh (eH<|ez<|ag<|a3 3 G.sh<|ai (ah 3)<|ai (ah 4)<|ai (ah 5) ay)<|aZ<|ac (kD V) (ag<|a3 5 (G.fv a b c)<|ai (ah 3)<|ai (ah 4)<|ai (ah 5)<|ai (ag<|cB ay)<|ai (ag<|cB ay) ay)<|ag<|aA<|.au aq) (cy<|aA<|.au aq) eo))
def DJ(a b c:af):bo:=((dD (aZ<|ac (kD V) (ag<|a3 5 (G.fv a b c)<|ai (ah 3)<|ai (ah 4)<|ai (ah 5)<|ai (ah 9)<|ai (ah 8) ay)<|ag<|aA<|.au aq) (cy<|aA<|.au aq) eo))
def Dv(a b c:af):bo:=((dD (aZ<|ac (kD V) (ag<|a3 5 (G.fv a b c)<|ai (ah 3)<|ai (ah 4)<|ai (ah 5)<|ai (ah 7)<|ai (ah 9) ay)<|ag<|aA<|.au aq) (cy<|aA<|.au aq) eo))
def Cc(a b c:af):bo:=((dD (aZ<|ac (kD V) (ag<|a3 5 (G.fv a b c)<|ai (ah 3)<|ai (ah 4)<|ai (ah 5)<|ai (ah 7)<|ai (ag<|ac du (ag<|cB<|ai (ah 9) ay)<|ah 11) ay)<|ag<|aA<|.au aq) (cy<|aA<|.au aq) eo))
def s8(a b c:af):bo:=((bh (bS 2<|a3 2 G.nI<|ai (ah 0)<|ai (ah 1) ay)<|bh (bS 3<|a3 2 G.pC<|ai (ah 2)<|ai (ag<|aA<|.int 16) ay)<|bh (bS 4<|ac bD (ah 3)<|ag<|a3 2 G.ei<|ai (ah 2)<|ai (ag<|bT cH<|ai (ah 3) ay) ay)<|bh (e4 (b8<|ag<|ac du (ag<|ec<|ai (ah 4) ay)<|ag<|cm 1 [3] (b8<|ag<|a3 1 G.ip<|ai (ah 4) ay) (a9 0) (G.r3 a b c)<|G.tk a b c) (a9 5)<|G.su a b c)<|bh (bS 6<|a3 2 G.n1<|ai (ah 2)<|ai (ah 3) ay)<|dD (aZ<|ac (kD V) (ah 6)<|ag<|aA .aV) (bh (g8 (ed 6)<|iy 2<|eP (a9 4)<|eP (a9 5) ir)<|bh (g8 (a3 3 G.pw<|ai (ah 3)<|ai (ah 4)<|ai (ah 5) ay)<|iy 2<|eP (a9 7)<|eP (a9 8) ir)<|bh (e4 (b8<|ag<|a3 2 G.k7<|ai (ah 7)<|ai (ag<|a3 2 G.ei<|ai (ah 2)<|ai (ag<|bT cH<|ai (ah 7) ay) ay) ay) (a9 9)<|G.DJ a b c)<|bh (bS 10<|ac bD (ah 8)<|ag<|aA<|.int 0)<|bh (bS 11<|f6 (ah 8) (gy<|aA<|.int 1) gK)<|bh (e4 (b8<|ag<|a3 2 G.k7<|ai (ah 8)<|ai (ag<|a3 2 G.ei<|ai (ah 2)<|ai (ag<|bT cH<|ai (ah 8) ay) ay) ay) (a9 9)<|G.Dv a b c)<|bh (e4 (b8<|ag<|a3 2 G.k7<|ai (ah 10)<|ai (ag<|a3 2 G.ei<|ai (ah 2)<|ai (ag<|bT cH<|ai (ah 10) ay) ay) ay) (a9 9)<|G.Cc a b c)<|dD (aZ<|ac (kD V) (ag<|a3 5 (G.fv a b c)<|ai (ah 3)<|ai (ah 4)<|ai (ah 5)<|ai (ah 7)<|ai (ah 8) ay)<|ag<|aA<|.au V) (cy<|aA<|.au aq) eo) eo))
def DB(a b c:af):bo:=((bh (e4 (jm<|ai (ag<|aA<|.int 3) ay) (a9 1)<|G.s8 a b c)<|cy<|aA<|.au V))
def o3(a b c:af):cX:=(c8 1 12 [0] (DB a b c))
theorem p1(w:List S0):h8 [.lst (w.map λ_=>.au V)]=Z (.im<|.au V):=(oT (λ_=>V) w).trans (by rw[i8.mpr λ_ X=>rfl])
def gR(l:dy):dy:=((l.drop 1).dropLast)
def Cn(d b:aI)(M:dy):gR (d::(M++[b]))=M:=by
 unfold gR;rw[List.drop_one,List.tail_cons,Fn]
def OY(f A:S0)(M:List S0):fj (f::(M++[A])) (Z 1) (Z<|-1)=M:=by
 unfold fj cI.b_;have:(f::(M++[A])).length=M.length+2:=by simp
 rw[this];have b:∀q:Nat,q=1->((f::(M++[A])).drop q)=M++[A]:=λq a=>by rw[a];rfl
 simp only[];rw[b _ (by split<;>lia)];have c:∀q:Nat,q=M.length->(M++[A]).take q=M:=λq a=>by rw[a,List.take_left]
 exact c _ (by split<;>split<;>lia)
structure Rq(X:List aI)(d b:aI)(F:List dy):Prop where
 up:qp F
 da:F.length<=1000
 len:∀l∈F,l.length<=1000
 cU:∀l∈F,∀g∈l,g∈X
 ch:∀l∈F,ia l=V
 sJ:∀l∈F,∃M,l=d::(M++[b])
 ao:(F.flatMap gR).Nodup
 aO:(F.flatMap gR).length<300
 na:d∉F.flatMap gR
 nb:b∉F.flatMap gR
def es.rs{x:aI->aI}(SQ:es X d b x i Sv)(e:(b,aq)∉cA Sv):bM.Rs X (i5 X) d b x λg n=>(g,n)∈cA Sv:=
 bM.Rs.of (cV.mpr ⟨_,jS SQ.s.gx,rfl⟩) (λm I c a=>SQ.s.cl m c I<|Rh a) e
def r9:gC Sv g=V↔bM.Cut (λg n=>(g,n)∈cA Sv) g:=by
 unfold gC bM.Cut;rw[cG,l7,j5,oa]
def es.bar{x:aI->aI}(SQ:es X d b x i Sv)(j:(b,aq)∉cA Sv):¬ df (X.filter λg=>!decide (g∈X.filter (gC Sv))) d b:=λc=>by
 have Sm:=SQ.rs j;have SJ:∀f,df (X.filter λg=>!decide (g∈X.filter (gC Sv))) d f->(f,V)∈cA Sv:=λf c=>by
  induction c with
  |self=>exact Sm.start
  |@step A f _ k l a=>
   let⟨e,h⟩:=gM.mp k;rw[l7,oa]at h;have n:=Sm.next A f a ⟨SQ.s.inf _ a,e,l⟩;exact rl λo=>h (gM.mpr ⟨e,r9.mpr ⟨n,o⟩⟩)
 exact Sm.yJ (Sm.cU _<|SJ b c)
def es.many{x:aI->aI}(SQ:es X d b x i Sv)(ao:X.Nodup)(a:(b,aq)∉cA Sv):(X.filter<|gC Sv).length=i.length:=SQ.w.many (SQ.rs a) ao λg W=>r9
def es.Ot{x:aI->aI}(SQ:es X d b x i Sv)(a:(b,aq)∉cA Sv):d∉X.filter (gC Sv)/\b∉X.filter (gC Sv):=by
 have Sm:=SQ.rs a;exact⟨λc=>(r9.mp (gM.mp c).2).2 Sm.start,λc=>Sm.yJ (r9.mp (gM.mp c).2).1⟩
def es.free{x:aI->aI}(SQ:es X d b x i Sv)(r:b∈X){R:List aI}(E:R.length<i.length)(k:∀g∈R,g≠d/\g≠b):df (X.filter λg=>!decide (g∈R)) d b:=by
 have q:∀{f},f∈X->f∉R->f∈X.filter λg=>!decide (g∈R):=λt D=>gM.mpr ⟨t,by rw[cN D];rfl⟩;obtain⟨H,e,s⟩:∃H∈i,∀g∈R,g∉bM.cU x H (eA x d H):=by
  refine rl λu=>?_;have h:∀H,∃g,H∈i->g∈R/\g∈bM.cU x H (eA x d H):=λH=>by
   by_cases e:H∈i
   ·refine rl λA=>u ⟨H,e,λg t D=>A ⟨g,λ_=>⟨t,D⟩⟩⟩
   ·exact⟨d,λc=>absurd c e⟩
  have m:∀H,H∈i->(h H).choose∈R/\(h H).choose∈bM.cU x H (eA x d H):=λH=>(h H).choose_spec;have v:(i.map λH=>(h H).choose).Nodup:=tQ (λf n A p a=>SQ.w.apart n p (SQ.jI n) (SQ.jI p) (m f n).2 (by rw[show (h f).choose=(h A).choose from a];exact (m A p).2)) SQ.w.ao;have:=v.length_le_of_subset (l₂:=R) λg k=>by
   let⟨H,e,rfl⟩:=cV.mp k;exact (m H e).1
  rw[bu]at this;lia
 have L:=SQ.jI e;have SJ:∀B j,j+B=eA x d H+1->df (X.filter λg=>!decide (g∈R)) d (bM.it x j H):=λB=>by
  induction B with
  |zero=>
   intro j Sq;have:j=eA x d H+1:=⋯
   rw[this,L.1];exact .self
  |succ B y=>
   intro j Sq;have z:=SQ.w.steps L (j:=j) ⋯;have C:bM.it x j H∈bM.cU x H (eA x d H):=bM.q4.mpr ⟨j,⋯,rfl⟩;exact .step (y (j+1) ⋯) (q z.2.1 λo=>s _ o C) z.2.2
 exact .step (SJ (eA x d H+1) 0 ⋯) (q r λo=>(k b o).2 rfl) ((SQ.w.last H e).2.1).2.2
theorem Du{S0 TG:Type}(N:S0->List TG):∀i:List S0,(i.flatMap λH=>(N H).reverse).Perm (i.flatMap N)
 |[]=>List.Perm.refl _
 |H::i=>by
  rw[oX,oX];exact (List.reverse_perm _).append (Du N i)
def es.KU{x:aI->aI}(SQ:es X d b x i Sv)(q:X.length<=200)(n:d∈X)(o:b∈X){F:List dy}(Tb:F.Perm (i.map<|ho x d b))(up:qp F):Rq X d b F:=by
 have da:=SQ.da;have k:∀l∈F,∃H∈i,l=ho x d b H:=λl h=>by
  let⟨H,c,a⟩:=cV.mp (Tb.mem_iff.mp h);exact⟨H,c,a.symm⟩
 have m:(F.flatMap gR).Perm (i.flatMap λH=>bM.cU x H<|eA x d H):=by
  refine (Tb.flatMap_right gR).trans ?_;rw[List.flatMap_map];refine List.Perm.trans (AB ?_) (Du (λH=>bM.cU x H<|eA x d H) i);congr 1;funext H;exact Cn d b _
 have ao:=SQ.w.Po (s:=eA x d) λH f=>SQ.jI f;have sub:∀g∈i.flatMap λH=>bM.cU x H<|eA x d H,g∈X/\g≠d/\g≠b:=λg e=>by
  let⟨H,f,c⟩:=yt.mp e;exact SQ.w.zM (SQ.jI f) c
 have aO:=ao.length_le_of_subset (l₂:=X) λg e=>(sub g e).1;refine⟨up,by rw[Tb.length_eq,bu];lia,λl h=>?_,λl h g e=>?_,λl h=>?_,λl h=>?_,m.nodup_iff.mpr ao,by rw[m.length_eq];lia,λc=>(sub d<|m.mem_iff.mp c).2.1 rfl,λc=>(sub b<|m.mem_iff.mp c).2.2 rfl⟩
 ·let⟨H,f,rfl⟩:=k l h;have:=SQ.xg f;unfold ho bM.cU;rw[dA,dj,qW,bu,iI,fi];lia
 ·let⟨H,f,rfl⟩:=k l h;unfold ho at e;rcases bL.mp e with rfl|e
  ·exact n
  ·rcases dt.mp e with e|e
   ·exact (SQ.w.zM (SQ.jI f)<|List.mem_reverse.mp e).1
   ·rw[cO.mp e];exact o
 ·let⟨H,f,rfl⟩:=k l h;have L:=SQ.jI f;have SJ:∀M,M<=eA x d H+1->ia (bM.it x M H::(((range M).map λj=>bM.it x j H).reverse++[b]))=V:=λM=>by
   induction M with
   |zero=>
    intro W;show (decide (b∈cf H)&&V)=V;rw[cW (SQ.w.last H f).2.1.2.2];rfl
   |succ M p=>
    intro c;rw[w8,fQ,E6];show ia (bM.it x (M+1) H::bM.it x M H::(((range M).map λj=>bM.it x j H).reverse++[b]))=V;rw[MH,p ⋯,cW (SQ.w.steps L (j:=M) ⋯).2.2];rfl
  have:=SJ (eA x d H+1) (bq _);rw[L.1]at this;exact this
 ·let⟨H,f,rfl⟩:=k l h;exact⟨_,rfl⟩
def df.mono{C:List aI}(m:∀g∈R,g∈C)(c:df R d f):df C d f:=by
 induction c with
 |self=>exact .self
 |step _ t D a=>exact .step a (m _ t) D
def EO:(f∈X.filter λg=>!decide (g∈R))↔f∈X/\f∉R:=by
 rw[gM,l7,oa]
def j9(R:List aI):cH [aB R]=Z (aJ (R.length:Int)):=by
 show Z (ak.im<|.int ((R.map aa).length:Int))=_;rw[bu]
theorem Eu{S0:Type}{b:List S0->S0->List S0}(c:∀H f,(f∈H->b H f=H)/\(f∉H->b H f=H++[f])):∀(H a:List S0),(H.foldl b a).length<=a.length+H.length
 |[],a=>by rw[vQ,ju];exact bq _
 |f::H,a=>by
  rw[lQ,dA];refine ee (Eu c H<|b a f) ?_;by_cases d:f∈a
  ·rw[(c a f).1 d];lia
  ·rw[(c a f).2 d,dj,fi];lia
theorem E3{S0:Type}{e:List S0->S0->List S0}(c:∀H f,(f∈H->e H f=H)/\(f∉H->e H f=H++[f])):∀(H b:List S0),b.Nodup->((H.foldl e b).length=b.length+H.length↔(b++H).Nodup)
 |[],b,ao=>by rw[vQ,ju,cp];exact⟨λ_=>ao,λ_=>rfl⟩
 |f::H,b,ao=>by
  rw[lQ,dA];by_cases d:f∈b
  ·rw[(c b f).1 d];have:=Eu c H b;refine⟨λa=>⋯,λa=>?_⟩;exact absurd rfl ((dn.mp a).2.2 f d f (.head _))
  ·have g:(b++[f]).Nodup:=dn.mpr ⟨ao,fk _ _,λA h j i a=>by rw[cO.mp i]at a;exact d (a ▸ h)⟩;rw[(c b f).2 d];have:=E3 c H (b++[f]) g;rw[dj,fi,b6,rF,sk 1]at this;exact this
theorem CU{S0:Type}{d:List S0->S0->List S0}(c:∀H f,(f∈H->d H f=H)/\(f∉H->d H f=H++[f])):∀(H b:List S0) (f:S0),f∈H.foldl d b↔f∈b\/f∈H
 |[],b,f=>by rw[vQ];simp
 |A::H,b,f=>by
  rw[lQ,CU c H (d b A) f];by_cases e:A∈b
  ·rw[(c b A).1 e,bL];refine⟨λa=>a.elim .inl λa=>.inr<|.inr a,λa=>?_⟩;rcases a with a|a|a
   ·exact .inl a
   ·exact .inl (a ▸ e)
   ·exact .inr a
  ·rw[(c b A).2 e,dt,cO,bL,or_assoc]
def BD(H:List aI)(f:aI):(f∈H->fo H f=H)/\(f∉H->fo H f=H++[f]):=⟨λc=>aN c,λc=>aT c⟩
theorem vj{S0:Type}{Sm:S0->S0->Bool}(eM:∀f A a,Sm f A=V->Sm A a=V->Sm f a=V):∀H:List S0,((H.zip<|H.drop 1).all λr=>Sm r.1 r.2)=V↔H.Pairwise λd b=>Sm d b=V
 |[]=>⟨λ_=>.nil,λ_=>rfl⟩
 |[f]=>⟨λ_=>fk _ _,λ_=>rfl⟩
 |f::A::u=>by
  have g:=vj eM (A::u);show (Sm f A&&((A::u).zip<|(A::u).drop 1).all λr=>Sm r.1 r.2)=V↔_;rw[cG,g];refine⟨λ⟨t,D⟩=>hA.mpr ⟨λa e=>?_,D⟩,λc=>⟨(hA.mp c).1 A (.head _),(hA.mp c).2⟩⟩;rcases bL.mp e with rfl|e
  ·exact t
  ·exact eM f A a t ((hA.mp D).1 a e)
def Fe(f A a:aI)(t:bc (aa f) (aa A)=V)(D:bc (aa A) (aa a)=V):bc (aa f) (aa a)=V:=n6 (s:=6) rfl rfl t D
def K0(f A a:dy)(t:bc (aL f) (aL A)=V)(D:bc (aL A) (aL a)=V):bc (aL f) (aL a)=V:=n6 (s:=6) (show ek 6 (aL f) (aL A)=V from qS f A) (show ek 6 (aL A) (aL a)=V from qS A a) t D
structure jR(X:List aI)(F:List dy):Prop where
 da:F.length<=100
 ne:∀l∈F,l≠[]
 len:∀l∈F,l.length<=290
 cU:∀l∈F,∀g∈l,g∈X
def pP(d b:aI)(l:dy):Prop:=(∃M,l=d::(M++[b]))
def Pk:(∀l∈F,l.length<=290)->(F.flatMap gR).length<=290*F.length:=by
 induction F with
 |nil=>intro X;exact bq _
 |cons l F a=>
  intro c;have:=a λl b=>c l (.tail _ b);have t:=c l (.head _);have D:(gR l).length<=l.length:=by unfold gR;rw[zJ,kf];lia
  rw[oX,dj,dA];lia
structure Pa(d b:aI)(F:List dy):Prop where
 ch:∀l∈F,ia l=V
 up:qp F
 mE:∀l∈F,pP d b l
 ao:(F.flatMap gR).Nodup
 na:d∉F.flatMap gR
 nb:b∉F.flatMap gR
structure xY(X:List aI)(d b:aI)(e:List aI)(F:List dy):Prop where
 up:lT e
 na:d∉e
 nb:b∉e
 u_:¬ df (X.filter λg=>!decide (g∈e)) d b
 w:Pa d b F
 n:F.length=e.length
def Qn(up:lT X)(z:X.length<=60)(k:d∈X)(e:b∈X)(q:d≠b)(nb:b∉cf d)(r:df X d b):
  ∃(R:List aI) (F:List dy),pw [aB X,.im<|aa d,.im<|aa b]=Z (.im<|.tup [.tup (R.map aa),.tup<|F.map aL],[aB X,.im<|aa d,.im<|aa b])/\xY X d b R F/\R.length<=60/\R≠[]/\jR X F/\(∀l∈F,l.length<=90)/\(∀g∈R,g∈X)/\
   ∀w:List aI,w.length<R.length->(∀g∈w,g≠d/\g≠b)->df (X.filter λg=>!decide (g∈w)) d b:=by
 have ao:=up.ao;let⟨x,i,Sv,F,s,SQ,f,Tb,m⟩:=K4 ao ⋯ k e q nb;have da:=SQ.da;have n:=SQ.many ao f;have o:=SQ.Ot f;have O:=SQ.KU ⋯ k e Tb m;have h:=SQ.bar f;have u:F.length=(X.filter<|gC Sv).length:=by rw[Tb.length_eq,bu,n]
 have S:X.filter (gC Sv)≠[]:=λv=>by
  rw[v]at h;refine h (r.mono λg j=>gM.mpr ⟨j,?_⟩);rw[cN iN];rfl
 have A:=j_.mpr S;have p:∀l∈F,l.length<=90:=λl c=>by
  let⟨H,y,a⟩:=cV.mp (Tb.mem_iff.mp c);have:=SQ.xg y;rw[<-a];unfold ho bM.cU;rw[dA,dj,qW,bu,iI,fi];lia
 have sJ:∀l∈F,l≠[]:=λl c=>by
  let⟨M,rfl⟩:=O.sJ l c;exact s_ _ _
 exact⟨X.filter<|gC Sv,F,s,⟨Jk _ up,o.1,o.2,h,⟨O.ch,m,O.sJ,O.ao,O.na,O.nb⟩,u⟩,⋯,S,⟨⋯,sJ,λl c=>ee (p l c) ∅,O.cU⟩,p,λg j=>(gM.mp j).1,λw t D=>SQ.free e (by rw[<-n];exact t) D⟩
def pB(g:aI):iQ [.im (aa g)]=Z (.im<|.au V,[.im (aa g)]):=rfl
def zq{j:Int}(a:N k=Z (aJ j,k))(c:0<=j)(t:j<=30):hW fF fF (ag<|aA<|.int 0) (ag N) (ag<|aA<|.int 30) k=Z (.im<|.au V,k):=by
 have d:fF (aJ 0) (aJ j)=Z (.im<|.au V):=by
  show Z (ak.im<|.au<|decide (0<=j))=_;rw[cW c]
 have e:fF (aJ j) (aJ 30)=Z (.im<|.au V):=by
  show Z (ak.im<|.au<|decide (j<=30))=_;rw[cW t]
 exact Pe (b:=V) (e:=V) (hD (N:=aA (.int 0)) rfl) (hD a) rfl rfl d (hD (N:=aA (.int 30)) rfl) rfl rfl e rfl
structure h4(X:List aI):Prop where
 up:lT X
 cU:∀g∈X,0<=g.1/\g.1<=30/\0<=g.2/\g.2<=30
 len:X.length<=60
def Mx(c:0<=g.1/\g.1<=30/\0<=g.2/\g.2<=30):jd [.im (aa g)]=Z (.im<|.au V,[.im (aa g)]):=by
 unfold jd BE;exact cK (k:=[Z (.im<|aa g)]) rfl (et<|hC<|eg (bV<|bO (Sy:=[.aH 0]) rfl rfl rfl (pB g) rfl)<|eg (bV<|zq (j:=g.1) rfl c.1 c.2.1)<|bV<|zq (j:=g.2) rfl c.2.2.1 c.2.2.2) rfl
def tT(a:S0->ab)(H:List S0):gE (H.map a) (fj (H.map a) (Z 1) Y)=(H.zip<|H.drop 1).map λr=>.tup [a r.1,a r.2]:=by
 rw[yh,show (1:Int)=((1:Nat):Int) from rfl,wb,Cg]
def LC(L:h4 X):rG x [aB X]=Z (.im<|.au V,[aB X]):=by
 have d:=L.len;have u:rE x [aB X,.im<|.fn x]=Z (.im<|.au V,[aB X,.im<|.fn x]):=by
  have a:cm 1 [1] (b8<|ah 0) (a9 0) dm (G.vF x) [Z (aB X),Z<|.im<|.fn x]=Z (.lst<|X.map λ_=>.au V,[Z (aB X),Z<|.im<|.fn x]):=by
   refine gb (w:=X.map aa) (n:=Y) (So:=[Z (aB X),Z<|.im<|.fn x]) rfl (gm aa (λ_=>.au V) _ (λg b=>?_) ⋯) rfl;refine⟨[Z (.im<|aa g),Z<|.im<|.fn x],_,[Z (.im<|aa g),Z<|.im<|.fn x],rfl,rfl,?_,rfl⟩;unfold vF;show (if x=x then _ else _)=_;rw[aN rfl];exact bO (Sy:=[.aH 0]) rfl rfl rfl (Mx<|L.cU g b) rfl
  have e:(X.zip<|X.drop 1).length<=1000:=by rw[oJ];lia
  have c:cm 2 [] (jH<|ai (ah 0)<|ai (ag<|f6 (ah 0) (gy<|aA<|.int 1) gK) ay) (iy 2<|eP (a9 0)<|eP (a9 1) ir) dm (G.zN x) [Z (aB X),Z<|.im<|.fn x]=Z (.lst<|(X.zip<|X.drop 1).map λr=>.au<|bc (aa r.1)<|aa r.2,[Z (aB X),Z<|.im<|.fn x]):=by
   refine gb (w:=(X.zip<|X.drop 1).map λr=>.tup [aa r.1,aa r.2]) (n:=Y) (So:=[Z (aB X),Z<|.im<|.fn x]) ?_ (gm (λr:aI×aI=>.tup [aa r.1,aa r.2]) (λr=>.au<|bc (aa r.1)<|aa r.2) _ (λr W=>?_) ⋯) rfl
   ·rw[<-tT];exact sm (bz rfl<|bz (aY<|oS rfl rfl rfl rfl rfl) rfl) rfl
   ·exact⟨[Z (.im<|aa r.1),Z<|.im<|aa r.2],_,[Z (.im<|aa r.1),Z<|.im<|aa r.2],rfl,rfl,cx rfl rfl rfl rfl rfl,rfl⟩
  unfold rE EM;exact cK (k:=[Z (aB X),Z<|.im<|.fn x]) rfl (bH (eT (dO (So:=[Z (aB X),Z<|.im<|.fn x]) rfl<|hU<|eO (aY<|dh (bz (aY a) rfl) rfl<|p1 X) rfl rfl) rfl) (et (dh (bz (aY c) rfl) rfl ((oT _ _).trans (by rw[(vj Fe X).mpr L.up]))))) rfl
 unfold rG El;exact cK (k:=[Z (aB X)]) rfl (et<|bO (Sy:=[.aH 0,.bY<|.im<|.fn x]) rfl rfl rfl u rfl) rfl
def CS{m:aI}:m_ R m f↔df R m f:=by
 constructor
 ·intro c;induction c with
  |self=>exact .self
  |step _ t D a=>exact .step a t (uB.mp D)
 ·intro c;induction c with
  |self=>exact .self
  |step _ t D a=>exact .step a t (uB.mpr D)
def Rt(L:h4 X)(a:d∈X)(b:∀f∈X,df X d f):eI x [aB X]=Z (.im<|.au V,[aB X]):=by
 have o:=L.len;have ao:=L.up.ao;let⟨m,u,rfl⟩:=ti (vG a);let⟨pt,e,g,h⟩:=Ah (R:=m::u) (m:=m) ⋯;have i:=vW ao ⋯;have j:pt.Perm (m::u):=(Ct (lT.ao g) ao).mpr λf=>(h f).trans (CS.trans ⟨λc=>df.cU (.head _) c,λc=>(df.sym a<|b m<|.head _).trans<|b f c⟩);have bg:cH [aB pt]=Z (aJ ((m::u).length:Int)):=(j9 pt).trans (by rw[j.length_eq]);have l:aZ (ac d4 (ag<|bT cH<|ai (ah 0) ay)<|ag<|aA<|.int 0) [Z (aB (m::u))]=Z (aq,[Z (aB (m::u))]):=bV (cx (aY<|dh (bz rfl rfl) rfl<|j9 (m::u)) rfl rfl rfl ((mB _ _).trans (by rw[cN (by rw[dA];lia)])));have n:bD (aB (m::u)) (aJ 0)=Z (.im<|aa m):=by
  show (dx ((m::u).map aa) 0).map ak.im=_;rw[oP (jJ 0) (p:=aa m) rfl];rfl
 unfold eI Fz;exact cK (k:=[Z (aB (m::u))]) rfl (bH (eT (dO (hU<|eO (aY<|bO (Sy:=[.aH 0]) rfl rfl rfl (LC L) rfl) rfl rfl) l) rfl) (et (cx (aY<|dh (bz (aY<|bO (Sy:=[.bY (.aF<|a5 (m::u)),.bY<|.im<|aa m]) (bz (aY<|bO (Sy:=[.aH 0]) rfl rfl rfl i rfl)<|bz (aY<|ef n) rfl) rfl rfl e rfl) rfl) rfl bg) (aY<|dh (bz rfl rfl) rfl<|j9 (m::u)) rfl rfl ((mB _ _).trans (by rw[cW rfl]))))) rfl
def zH(L:h4 X)(a:eI x [aB X]=Z (.im<|.au V,[aB X]))(b:l≠[])(i:l.length<=290)(c:∀g∈l,g∈X):nf x [aB X,.im<|aL l]=Z (.im<|.au<|ia l,[aB X,.im<|aL l]):=by
 have d:=vW L.up.ao (by have:=L.len;lia);have j:=j_.mpr b;have S6:aZ (ac d4 (ag<|bT cH<|ai (ah 1) ay)<|ag<|aA<|.int 0) [Z (aB X),Z<|.im<|aL l,Y]=Z (aq,[Z (aB X),Z<|.im<|aL l,Y]):=bV (cx (aY<|dh (bz rfl rfl) rfl<|j9 l) rfl rfl rfl ((mB _ _).trans (by rw[cN ⋯])));have e:cm 1 [2] (b8<|ah 1) (a9 0) dm (G.yX x) [Z (aB X),Z<|.im<|aL l,Z<|.aF<|a5 X]=Z (.lst<|l.map λ_=>.au V,[Z (aB X),Z<|.im<|aL l,Z<|.aF<|a5 X]):=by
  refine gb (w:=l.map aa) (n:=Y) (So:=[Z (aB X),Z<|.im<|aL l,Z<|.aF<|a5 X]) rfl (gm aa (λ_=>.au V) _ (λg f=>?_) ⋯) rfl;exact⟨[Z (.im<|aa g),Z<|.aF<|a5 X],_,[Z (.im<|aa g),Z<|.aF<|a5 X],rfl,rfl,hC (eg (bV<|bO (Sy:=[.aH 0]) rfl rfl rfl (pB g) rfl) (bV (ef ((o2 X g).trans (by rw[cW (c g f)]))))),rfl⟩
 have m:(l.zip<|l.drop 1).length<=1000:=by rw[oJ];lia
 have h:cm 2 [] (jH<|ai (ah 1)<|ai (ag<|f6 (ah 1) (gy<|aA<|.int 1) gK) ay) (iy 2<|eP (a9 0)<|eP (a9 1) ir) dm (G.Bm x) [Z (aB X),Z<|.im<|aL l,Z<|.aF<|a5 X]=Z (.lst<|(l.zip<|l.drop 1).map λr=>.au<|decide (r.2∈cf r.1),[Z (aB X),Z<|.im<|aL l,Z<|.aF<|a5 X]):=by
  refine gb (w:=(l.zip<|l.drop 1).map λr=>.tup [aa r.1,aa r.2]) (n:=Y) (So:=[Z (aB X),Z<|.im<|aL l,Z<|.aF<|a5 X]) ?_ (gm (λr:aI×aI=>.tup [aa r.1,aa r.2]) (λr=>.au<|decide (r.2∈cf r.1)) _ (λr W=>?_) ⋯) rfl
  ·rw[<-tT];exact sm (bz rfl<|bz (aY<|oS rfl rfl rfl rfl rfl) rfl) rfl
  ·refine⟨[Z (.im<|aa r.1),Z<|.im<|aa r.2],_,[Z (.im<|aa r.1),Z<|.im<|aa r.2],rfl,rfl,?_,rfl⟩;exact cx rfl (aY<|bO (Sy:=[.aH 0]) rfl rfl rfl (rH r.1) rfl) rfl rfl (N9 (cf r.1) r.2)
 unfold nf vP;exact cK (k:=[Z (aB X),Z<|.im<|aL l,Z<|.aF<|a5 X]) rfl (bH (eT (dO (hU<|eO (aY<|bO (Sy:=[.aH 0]) rfl rfl rfl a rfl) rfl rfl)<|dO (So:=[Z (aB X),Z<|.im<|aL l,Y]) rfl S6) rfl)<|bH (jc (bO (Sy:=[.aH 0]) rfl rfl rfl d rfl) (fs rfl) rfl)<|bH (eT (hU<|eO (aY<|dh (bz (aY e) rfl) rfl<|p1 l) rfl rfl) rfl)<|et<|dh (bz (aY h) rfl) rfl<|oT _ _) rfl
def zi(c:e.length<=1000):kd x [aB e,.im<|.fn x]=Z (.im<|.au<|(e.zip<|e.drop 1).all λr=>bc (aa r.1)<|aa r.2,[aB e,.im<|.fn x]):=by
 have a:cm 1 [1] (b8<|ah 0) (a9 0) dm (G.qu x) [Z (aB e),Z<|.im<|.fn x]=Z (.lst<|e.map λ_=>.au V,[Z (aB e),Z<|.im<|.fn x]):=by
  refine gb (w:=e.map aa) (n:=Y) (So:=[Z (aB e),Z<|.im<|.fn x]) rfl (gm aa (λ_=>.au V) _ (λg X=>?_) ⋯) rfl;refine⟨[Z (.im<|aa g),Z<|.im<|.fn x],_,[Z (.im<|aa g),Z<|.im<|.fn x],rfl,rfl,?_,rfl⟩;unfold qu;show (if x=x then _ else _)=_;rw[aN rfl];exact bO (Sy:=[.aH 0]) rfl rfl rfl (pB g) rfl
 have d:(e.zip<|e.drop 1).length<=1000:=by rw[oJ];lia
 have b:cm 2 [] (jH<|ai (ah 0)<|ai (ag<|f6 (ah 0) (gy<|aA<|.int 1) gK) ay) (iy 2<|eP (a9 0)<|eP (a9 1) ir) dm (G.C6 x) [Z (aB e),Z<|.im<|.fn x]=Z (.lst<|(e.zip<|e.drop 1).map λr=>.au<|bc (aa r.1)<|aa r.2,[Z (aB e),Z<|.im<|.fn x]):=by
  refine gb (w:=(e.zip<|e.drop 1).map λr=>.tup [aa r.1,aa r.2]) (n:=Y) (So:=[Z (aB e),Z<|.im<|.fn x]) ?_ (gm (λr:aI×aI=>.tup [aa r.1,aa r.2]) (λr=>.au<|bc (aa r.1)<|aa r.2) _ (λr X=>?_) ⋯) rfl
  ·rw[<-tT];exact sm (bz rfl<|bz (aY<|oS rfl rfl rfl rfl rfl) rfl) rfl
  ·exact⟨[Z (.im<|aa r.1),Z<|.im<|aa r.2],_,[Z (.im<|aa r.1),Z<|.im<|aa r.2],rfl,rfl,cx rfl rfl rfl rfl rfl,rfl⟩
 unfold kd ys;exact cK (k:=[Z (aB e),Z<|.im<|.fn x]) rfl (bH (eT (dO (So:=[Z (aB e),Z<|.im<|.fn x]) rfl<|hU<|eO (aY<|dh (bz (aY a) rfl) rfl<|p1 e) rfl rfl) rfl)<|et<|dh (bz (aY b) rfl) rfl<|oT _ _) rfl
def QO(b:l.length<=1000):lx [.im (aL l)]=Z (.im<|.au V,[.im (aL l)]):=by
 have a:cm 1 [] (b8<|ah 0) (a9 0) dm G.xh [Z (.im<|aL l)]=Z (.lst<|l.map λ_=>.au V,[Z (.im<|aL l)]):=by
  refine gb (w:=l.map aa) (n:=Y) (So:=[Z (.im<|aL l)]) rfl (gm aa (λ_=>.au V) _ (λg X=>?_) ⋯) rfl;exact⟨[Z (.im<|aa g)],_,[Z (.im<|aa g)],rfl,rfl,bO (Sy:=[.aH 0]) rfl rfl rfl (pB g) rfl,rfl⟩
 unfold lx xj;exact cK (k:=[Z (.im<|aL l)]) rfl (et<|hC<|eg (So:=[Z (.im<|aL l)]) rfl<|bV<|dh (bz (aY a) rfl) rfl<|p1 l) rfl
def zA(e:F.length<=1000)(a:∀l∈F,l.length<=1000):j0 x [.im (.tup<|F.map aL),.im<|.fn x]=Z (.im<|.au<|(F.zip<|F.drop 1).all λr=>bc (aL r.1)<|aL r.2,[.im (.tup<|F.map aL),.im<|.fn x]):=by
 have b:cm 1 [1] (b8<|ah 0) (a9 0) dm (G.rt x) [Z (.im<|.tup<|F.map aL),Z<|.im<|.fn x]=Z (.lst<|F.map λ_=>.au V,[Z (.im<|.tup<|F.map aL),Z<|.im<|.fn x]):=by
  refine gb (w:=F.map aL) (n:=Y) (So:=[Z (.im<|.tup<|F.map aL),Z<|.im<|.fn x]) rfl (gm aL (λ_=>.au V) _ (λl c=>?_) ⋯) rfl;refine⟨[Z (.im<|aL l),Z<|.im<|.fn x],_,[Z (.im<|aL l),Z<|.im<|.fn x],rfl,rfl,?_,rfl⟩;unfold rt;show (if x=x then _ else _)=_;rw[aN rfl];exact bO (Sy:=[.aH 0]) rfl rfl rfl (QO<|a l c) rfl
 have f:(F.zip<|F.drop 1).length<=1000:=by rw[oJ];lia
 have d:cm 2 [] (jH<|ai (ah 0)<|ai (ag<|f6 (ah 0) (gy<|aA<|.int 1) gK) ay) (iy 2<|eP (a9 0)<|eP (a9 1) ir) dm (G.GC x) [Z (.im<|.tup<|F.map aL),Z<|.im<|.fn x]=Z (.lst<|(F.zip<|F.drop 1).map λr=>.au<|bc (aL r.1)<|aL r.2,[Z (.im<|.tup<|F.map aL),Z<|.im<|.fn x]):=by
  refine gb (w:=(F.zip<|F.drop 1).map λr=>.tup [aL r.1,aL r.2]) (n:=Y) (So:=[Z (.im<|.tup<|F.map aL),Z<|.im<|.fn x]) ?_ (gm (λr:dy×dy=>.tup [aL r.1,aL r.2]) (λr=>.au<|bc (aL r.1)<|aL r.2) _ (λr X=>?_) ⋯) rfl
  ·rw[<-tT];exact sm (bz rfl<|bz (aY<|oS rfl rfl rfl rfl rfl) rfl) rfl
  ·have lt:oN (.im<|aL r.1) (.im<|aL r.2)=Z (.im<|.au<|bc (aL r.1)<|aL r.2):=aN (show ek 6 (aL r.1) (aL r.2)=V from qS r.1 r.2);exact⟨[Z (.im<|aL r.1),Z<|.im<|aL r.2],_,[Z (.im<|aL r.1),Z<|.im<|aL r.2],rfl,rfl,ef lt,rfl⟩
 unfold j0 vA;exact cK (k:=[Z (.im<|.tup<|F.map aL),Z<|.im<|.fn x]) rfl (bH (eT (dO (So:=[Z (.im<|.tup<|F.map aL),Z<|.im<|.fn x]) rfl<|hU<|eO (aY<|dh (bz (aY b) rfl) rfl<|p1 F) rfl rfl) rfl)<|et<|dh (bz (aY d) rfl) rfl<|oT _ _) rfl
def tX(c:d∈X):mP [aB X,.im<|aa d]=Z (.im<|.au V,[aB X,.im<|aa d]):=by
 unfold mP F0;exact cK (k:=[Z (aB X),Z<|.im<|aa d]) rfl (et (hC (eg (bV<|bO (Sy:=[.aH 1]) rfl rfl rfl (pB d) rfl) (bV (ef ((Af X d).trans (by rw[cW c]))))))) rfl
def Gn(a:eI x [aB X]=Z (.im<|.au V,[aB X]))(c:d∈X)(e:b∈X)(f:d≠b)(nb:b∉cf d):lF x [aB X,.im<|aa d,.im<|aa b]=Z (.im<|.au V,[aB X,.im<|aa d,.im<|aa b]):=by
 unfold lF yx;exact cK (k:=[Z (aB X),Z<|.im<|aa d,Z<|.im<|aa b]) rfl (et (hC (eg (bV<|bO (Sy:=[.aH 0]) rfl rfl rfl a rfl) (eg (bV<|bO (Sy:=[.aH 0,.aH 1]) rfl rfl rfl (tX c) rfl) (eg (bV<|bO (Sy:=[.aH 0,.aH 2]) rfl rfl rfl (tX e) rfl) (eg (bV (ef ((kU d b).trans (by rw[cN f];rfl)))) (bV (cx rfl (aY<|bO (Sy:=[.aH 1]) rfl rfl rfl (rH d) rfl) rfl rfl ((x9 (cf d) b).trans (by rw[cN nb];rfl)))))))))) rfl
def H6(b:e.length<10000):gv [aB e]=Z (.aF<|a5<|e.foldl fo [],[aB e]):=by
 let⟨n,a⟩:=pS (Z<|aB e) e [] Y (by show 0+_<_;lia);unfold gv rS;exact cK (k:=[Z (aB e),Z .cL,n]) rfl (bH (So:=[Z (aB e),Z<|.aF [],Y]) rfl<|bH (gS (n:=Y) rfl a rfl) rfl) rfl
def JN(b:e.length<90000):gv [aU e]=Z (.aF<|a5<|e.foldl fo [],[aU e]):=by
 let⟨n,a⟩:=pS (Z .cL) e [] Y (by show 0+_<_;lia);unfold gv rS;exact cK (k:=[Z (aU e),Z .cL,n]) rfl (bH (So:=[Z (aU e),Z<|.aF [],Y]) rfl<|bH (gS (n:=Z (0,aU e)) (So:=[Z .cL,Z<|.aF [],Y]) rfl a rfl) rfl) rfl
def QI(SH:List aI)(g:aI):fw (.im<|aa g) (.aF<|a5 SH)=Z (.im<|.au<|!decide (g∈SH)):=by
 show (eL (.tup<|c_ g)<|.aF<|a5 SH).map (λu=>ak.im<|.au<|!u)=_;rw[xU,aN<|ng g,y6];rfl
def D8(ao:X.Nodup)(v:X.length<=60)(x:e.length<=1000):∃I:Bool,mY [aB X,.im<|aa d,.im<|aa b,aB e]=Z (.im<|.au I,[aB X,.im<|aa d,.im<|aa b,aB e])/\(I=V↔d∉e/\b∉e/\¬ df (X.filter λg=>!decide (g∈e)) d b):=by
 have p:∀g,g∈e.foldl fo []↔g∈e:=λg=>(CU BD e [] g).trans ⟨λc=>c.resolve_left iN,.inr⟩;have h:∀g,decide (g∈e.foldl fo [])=decide (g∈e):=λg=>qq.mpr (p g);have q:=H6 (e:=e) ⋯;generalize e.foldl fo []=SH at q p h;have f:aZ (ac eV (ah 1)<|ah 4) [Z (aB X),Z<|.im<|aa d,Z<|.im<|aa b,Z<|aB e,Z<|.aF<|a5 SH]=Z (decide (d∈e),[Z (aB X),Z<|.im<|aa d,Z<|.im<|aa b,Z<|aB e,Z<|.aF<|a5 SH]):=bV (ef ((o2 SH d).trans (by rw[h])));have i:aZ (ac eV (ah 2)<|ah 4) [Z (aB X),Z<|.im<|aa d,Z<|.im<|aa b,Z<|aB e,Z<|.aF<|a5 SH]=Z (decide (b∈e),[Z (aB X),Z<|.im<|aa d,Z<|.im<|aa b,Z<|aB e,Z<|.aF<|a5 SH]):=bV (ef ((o2 SH b).trans (by rw[h])));have o:bS 4 (a3 1 G.gv<|ai (ah 3) ay) [Z (aB X),Z<|.im<|aa d,Z<|.im<|aa b,Z<|aB e,Y]=Z (.aX,[Z (aB X),Z<|.im<|aa d,Z<|.im<|aa b,Z<|aB e,Z<|.aF<|a5 SH]):=jc (bO (Sy:=[.aH 3]) rfl rfl rfl q rfl) (fs rfl) rfl;unfold mY Ao;by_cases j:d∈e
 ·rw[cW j]at f;exact⟨aq,cK (k:=[Z (aB X),Z<|.im<|aa d,Z<|.im<|aa b,Z<|aB e,Z<|.aF<|a5 SH]) rfl (bH o<|f5<|fC (j1 f) rfl) rfl,(λa=>by cases a),λa=>absurd j a.1⟩
 rw[cN j]at f;by_cases l:b∈e
 ·rw[cW l]at i;exact⟨aq,cK (k:=[Z (aB X),Z<|.im<|aa d,Z<|.im<|aa b,Z<|aB e,Z<|.aF<|a5 SH]) rfl (bH o<|f5<|fC (dO f i) rfl) rfl,(λa=>by cases a),λa=>absurd l a.2.1⟩
 rw[cN l]at i;have r:cm 1 [4] (b8<|ah 0) (a9 0) G.A3 G.CW [Z (aB X),Z<|.im<|aa d,Z<|.im<|aa b,Z<|aB e,Z<|.aF<|a5 SH]=Z (aU<|X.filter λg=>!decide (g∈e),[Z (aB X),Z<|.im<|aa d,Z<|.im<|aa b,Z<|aB e,Z<|.aF<|a5 SH]):=by
  refine gb (w:=X.map aa) (n:=Y) (So:=[Z (aB X),Z<|.im<|aa d,Z<|.im<|aa b,Z<|aB e,Z<|.aF<|a5 SH]) rfl (kN aa (λg=>!decide (g∈e)) aa _ [] (λg W=>?_) (by rw[ju];lia)) rfl;exact⟨[Z (.im<|aa g),Z<|.aF<|a5 SH],[Z (.im<|aa g),Z<|.aF<|a5 SH],rfl,bV (ef ((QI SH g).trans (by rw[h]))),λ_=>rfl,λ_=>⟨[Z (.im<|aa g),Z<|.aF<|a5 SH],rfl,rfl⟩⟩
 have qt:=qD (λg=>!decide (g∈e)) X;have s:=PG (R:=X.filter λg=>!decide (g∈e)) (ao.filter _) ⋯;let⟨pt,t,W,u⟩:=Ah (R:=X.filter λg=>!decide (g∈e)) (m:=d) ⋯;refine⟨!decide (b∈pt),cK (k:=[Z (aB X),Z<|.im<|aa d,Z<|.im<|aa b,Z<|aB e,Z<|.aF<|a5 SH]) rfl (bH o<|bH (eT (dO f i) rfl)<|et<|cx rfl (aY<|bO (Sy:=[.bY (.aF<|a5<|X.filter λg=>!decide (g∈e)),.aH 1]) (bz (aY<|bO (Sy:=[.bY (aU<|X.filter λg=>!decide (g∈e))]) (bz (aY r) rfl) rfl rfl s rfl) rfl) rfl rfl t rfl) rfl rfl<|Hu pt b) rfl,?_⟩;rw[l7,oa,u,CS];exact⟨λa=>⟨j,l,a⟩,λa=>a.2.2⟩
def Kn{SE:List ab}(c:w.length+SE.length<=100000):sg (.lst w) [.im (.tup SE)]=Z (.im .aV,.lst<|w++SE):=aN c
def Kh{M:dy}(L:h4 X)(h:eI x [aB X]=Z (.im<|.au V,[aB X]))(c:(d::(M++[b])).length<=290)(i:∀g∈d::(M++[b]),g∈X)(j:ia (d::(M++[b]))=V)(n:Ta.length<=50000):ji x [Z (aB X),Z<|.im<|aa d,Z<|.im<|aa b,Tj,Z<|aU Ta,Z<|.im<|aL (d::(M++[b]))]=Z (.aX,[Z (aB X),Z<|.im<|aa d,Z<|.im<|aa b,Tj,Z<|aU<|Ta++M,Z<|.im<|aL (d::(M++[b]))]):=by
 have a:=zH L h (s_ _ _) c i;rw[j]at a;have o:M.length<=290:=by rw[dA,dj]at c;lia
 have k:bD (.im<|aL (d::(M++[b]))) (aJ<|-1)=Z (.im<|aa b):=by
  show (dx ((d::(M++[b])).map aa)<|-1).map ak.im=_;rw[uT (p:=aa b) (by rw[<-pq,fQ];exact tY)];rfl
 have l:bD (.im<|aL (d::(M++[b]))) (aJ 0)=Z (.im<|aa d):=by
  show (dx ((d::(M++[b])).map aa) 0).map ak.im=_;rw[oP (jJ 0) (p:=aa d) rfl];rfl
 have e:∀f:aI,iS (.im<|aa f) (.im<|aa f)=Z (.im<|.au aq):=λf=>(kU f f).trans (by rw[cW rfl];rfl);have m:kg (.im<|aL (d::(M++[b]))) (Z 1) (Z<|-1)=Z (aB M):=by
  show Z (ak.im<|.tup<|fj ((d::(M++[b])).map aa) (Z 1)<|Z<|-1)=_;rw[yh,OY]
 unfold ji;refine bH (eT (dO (hU<|eO (aY<|bO (Sy:=[.aH 0,.aH 5]) rfl rfl rfl a rfl) rfl rfl)<|dO (bV<|cx (aY<|ef l) rfl rfl rfl<|e d)<|bV<|cx (aY<|cx rfl (aY rfl) rfl rfl k) rfl rfl rfl<|e b) rfl) (o_ (oA (g:=aU Ta) rfl rfl (bz (aY<|oS rfl rfl rfl rfl m) rfl) rfl rfl (Kn (by rw[bu,bu];lia)) ?_));show _=[Z (aB X),Z<|.im<|aa d,Z<|.im<|aa b,Tj,Z<|ak.lst<|(Ta++M).map aa,Z<|.im<|aL (d::(M++[b]))];rw[fQ];rfl
def MR(L:h4 X)(m:eI x [aB X]=Z (.im<|.au V,[aB X]))(n:d≠b)(j:l≠[])(o:l.length<=290)(q:∀g∈l,g∈X)(r:¬ (ia l=V/\pP d b l)):ji x [Z (aB X),Z<|.im<|aa d,Z<|.im<|aa b,Tj,Z<|aU Ta,Z<|.im<|aL l]=Z (.dX<|.im<|.au aq,[Z (aB X),Z<|.im<|aa d,Z<|.im<|aa b,Tj,Z<|aU Ta,Z<|.im<|aL l]):=by
 have a:=zH L m j o q;unfold ji;cases i:ia l with
 |false=>
  rw[i]at a;exact f5 (fC (j1<|o6<|eO (aY<|bO (Sy:=[.aH 0,.aH 5]) rfl rfl rfl a rfl) rfl rfl) rfl)
 |true=>
  rw[i]at a;obtain⟨f,A,e,s,t⟩:∃f A,bD (.im<|aL l) (aJ 0)=Z (.im<|aa f)/\bD (.im<|aL l) (aJ<|-1)=Z (.im<|aa A)/\(f≠d\/A≠b):=by
   let⟨f,u,rfl⟩:=ti j;have e:bD (.im<|aL (f::u)) (aJ 0)=Z (.im<|aa f):=by
    show (dx ((f::u).map aa) 0).map ak.im=_;rw[oP (jJ 0) (p:=aa f) rfl];rfl
   by_cases k:u=[]
   ·subst k;refine⟨f,f,e,rfl,?_⟩;by_cases c:f=d
    ·exact .inr λh=>n (c.symm.trans h)
    ·exact .inl c
   ·let⟨M,A,rfl⟩:=D7 k;refine⟨f,A,e,?_,?_⟩
    ·show (dx ((f::(M++[A])).map aa)<|-1).map ak.im=_;rw[uT (p:=aa A) (by rw[<-pq,fQ];exact tY)];rfl
    ·by_cases c:f=d
     ·exact .inr λh=>r ⟨i,M,by rw[c,h]⟩
     ·exact .inl c
  refine f5 (fC (So:=[Z (aB X),Z<|.im<|aa d,Z<|.im<|aa b,Tj,Z<|aU Ta,Z<|.im<|aL l]) (dO (hU<|eO (aY<|bO (Sy:=[.aH 0,.aH 5]) rfl rfl rfl a rfl) rfl rfl) ?_) rfl);by_cases c:f=d
  ·exact dO (bV (cx (aY<|ef e) rfl rfl rfl ((kU f d).trans (by rw[cW c];rfl)))) (bV (cx (aY<|cx rfl (aY rfl) rfl rfl s) rfl rfl rfl ((kU A b).trans (by rw[cN (t.resolve_left λh=>h c)];rfl))))
  ·exact j1 (bV (cx (aY<|ef e) rfl rfl rfl ((kU f d).trans (by rw[cN c];rfl))))
theorem BO{x:af}{X:List aI}{d b:aI}{Tj:Option ak}(L:h4 X)(f:eI x [aB X]=Z (.im<|.au V,[aB X]))(j:d≠b):∀(F:List dy) (Ta:dy) (Td:Option ak),jR X F->Ta.length+290*F.length<=40000->
  (∃e,dB (a9 5) (ji x) (F.map aL) [Z (aB X),Z<|.im<|aa d,Z<|.im<|aa b,Tj,Z<|aU Ta,Td]=Z (.aX,[Z (aB X),Z<|.im<|aa d,Z<|.im<|aa b,Tj,Z<|aU<|Ta++F.flatMap gR,e])/\∀l∈F,ia l=V/\pP d b l)\/
  ∃SG,dB (a9 5) (ji x) (F.map aL) [Z (aB X),Z<|.im<|aa d,Z<|.im<|aa b,Tj,Z<|aU Ta,Td]=Z (.dX<|.im<|.au aq,SG)/\SG.take 4=[Z (aB X),Z<|.im<|aa d,Z<|.im<|aa b,Tj]/\¬ ∀l∈F,ia l=V/\pP d b l
 |[],Ta,Td,_,_=>.inl ⟨Td,by rw[Cb,cp];rfl,(λl hw=>nomatch hw)⟩
 |l::F,Ta,Td,h,m=>by
  have P:jR X F:=⟨by have:=h.da;rw[dA]at this;lia,λv c=>h.ne v<|.tail _ c,λv c=>h.len v<|.tail _ c,λv c=>h.cU v<|.tail _ c⟩;have hw:=h.len l (.head _);rw[dA]at m;rw[dK,dB];show (∃e,(ji x [Z (aB X),Z<|.im<|aa d,Z<|.im<|aa b,Tj,Z<|aU Ta,Z<|.im<|aL l]).bind _=_/\_)\/∃SG,(ji x [Z (aB X),Z<|.im<|aa d,Z<|.im<|aa b,Tj,Z<|aU Ta,Z<|.im<|aL l]).bind _=_/\_;by_cases g:ia l=V/\pP d b l
  ·let⟨k,M,rfl⟩:=g;have n:M.length<=290:=by rw[dA,dj]at hw;lia
   rw[Kh L f hw (h.cU _<|.head _) k ⋯];rcases BO (X:=X) (Tj:=Tj) L f j F (Ta++M) (Z<|.im<|aL (d::(M++[b]))) P (by rw[dj];lia) with ⟨e,a,N⟩|⟨SG,a,p,N⟩
   ·refine .inl ⟨e,?_,λl hw=>?_⟩
    ·rw[oX,Cn,<-b6];exact a
    ·rcases bL.mp hw with rfl|hw
     ·exact⟨k,M,rfl⟩
     ·exact N l hw
   ·exact .inr ⟨SG,a,p,λi=>N λl hw=>i l<|.tail _ hw⟩
  ·rw[MR L f j (h.ne l<|.head _) hw (h.cU l<|.head _) g];exact .inr ⟨_,rfl,rfl,λi=>g<|i l<|.head _⟩
def O3(L:h4 X)(i:eI x [aB X]=Z (.im<|.au V,[aB X]))(j:d≠b)(h:jR X F):∃I:Bool,kp x [aB X,.im<|aa d,.im<|aa b,.im<|.tup<|F.map aL]=Z (.im<|.au I,[aB X,.im<|aa d,.im<|aa b,.im<|.tup<|F.map aL])/\(I=V↔(∀l∈F,ia l=V/\pP d b l)/\([d,b]++F.flatMap gR).Nodup):=by
 have da:=h.da;have aO:=Pk h.len;unfold kp yr;rcases BO (Tj:=Z (.im<|.tup<|F.map aL)) L i j F [d,b] Y h (by show 2+_<=_;lia) with ⟨Td,f,mE⟩|⟨SG,f,p,mE⟩
 ·generalize m:[d,b]++F.flatMap gR=a at f;have r:a.length<=40000:=by rw[<-m,dj];show 2+_<=_;lia
  have o:=JN (e:=a) ⋯;have bg:vm [.aF (a5<|a.foldl fo [])]=Z (aJ ((a.foldl fo []).length:Int)):=by
   show Z (ak.im<|.int ((a5<|a.foldl fo []).length:Int))=_;unfold a5;rw[bu]
  have bx:cH [aU a]=Z (aJ (a.length:Int)):=by
   show Z (ak.im<|.int ((a.map aa).length:Int))=_;rw[bu]
  have iff:=E3 BD a [] jX;rw[ju,wX,FY]at iff;refine⟨decide (((a.foldl fo []).length:Int)=(a.length:Int)),cK (k:=[Z (aB X),Z<|.im<|aa d,Z<|.im<|aa b,Z<|.im<|.tup<|F.map aL,Z<|aU a,Td]) rfl (bH (So:=[Z (aB X),Z<|.im<|aa d,Z<|.im<|aa b,Z<|.im<|.tup<|F.map aL,Z<|aU [d,b],Y]) rfl<|bH (gS (n:=Y) (w:=F.map aL) (So:=[Z (aB X),Z<|.im<|aa d,Z<|.im<|aa b,Z<|.im<|.tup<|F.map aL,Z<|aU [d,b],Y]) rfl f rfl)<|et<|cx (aY<|dh (bz (aY<|bO (Sy:=[.aH 4]) rfl rfl rfl o rfl) rfl) rfl bg) (aY<|dh (bz rfl rfl) rfl bx) rfl rfl<|mB _ _) rfl,?_⟩;rw[j5];exact⟨λc=>⟨mE,iff.mp ⋯⟩,λc=>by have:=iff.mpr c.2;lia⟩
 ·obtain⟨g,q⟩:∃g,SG=Z (aB X)::Z (.im<|aa d)::Z (.im<|aa b)::Z (.im<|.tup<|F.map aL)::g:=by
   match SG,p with
   |x0::s::t::v::u,p=>simp only[Gz,DH,Bz,and_true]at p;let⟨rfl,rfl,rfl,rfl⟩:=p;exact⟨u,rfl⟩
   |[],p=>cases p
   |[_],p=>cases p
   |[_,_],p=>cases p
   |[_,_,_],p=>cases p
  subst q;exact⟨aq,cK (k:=Z (aB X)::Z (.im<|aa d)::Z (.im<|aa b)::Z (.im<|.tup<|F.map aL)::g) rfl (bH (So:=[Z (aB X),Z<|.im<|aa d,Z<|.im<|aa b,Z<|.im<|.tup<|F.map aL,Z<|aU [d,b],Y]) rfl<|f5<|gS (n:=Y) (w:=F.map aL) (So:=[Z (aB X),Z<|.im<|aa d,Z<|.im<|aa b,Z<|.im<|.tup<|F.map aL,Z<|aU [d,b],Y]) rfl f rfl) rfl,(λc=>by cases c),λc=>absurd c.1 mE⟩
def Oa{H:List aI}(c:d≠b):([d,b]++H).Nodup↔H.Nodup/\d∉H/\b∉H:=by
 show (d::b::H).Nodup↔_;rw[iH,iH,bL,not_or];exact⟨λ⟨t,D,a⟩=>⟨a,t.2,D⟩,λ⟨t,D,a⟩=>⟨⟨c,D⟩,a,t⟩⟩
def Ge{m bb B:af}(L:h4 X)(t:eI m [aB X]=Z (.im<|.au V,[aB X]))(E:d∈X)(H:b∈X)(o:d≠b)(nb:b∉cf d)(u:e.length<=1000)(h:jR X F):
  ∃I:Bool,fv m bb B [aB X,.im<|aa d,.im<|aa b,aB e,.im<|.tup<|F.map aL]=Z (.im<|.au I,[aB X,.im<|aa d,.im<|aa b,aB e,.im<|.tup<|F.map aL])/\(I=V↔xY X d b e F):=by
 have da:=h.da;have J:=Gn t E H o nb;have v:=zi (x:=bb) u;have y:=zA (x:=B) (F:=F) ⋯ λl f=>by have:=h.len l f;lia
 have p:=vj Fe e;have q:=vj K0 F;generalize ((e.zip<|e.drop 1).all λr=>bc (aa r.1)<|aa r.2)=ep at v p;generalize ((F.zip<|F.drop 1).all λr=>bc (aL r.1)<|aL r.2)=t3 at y q;let⟨z,M,A⟩:=D8 (d:=d) (b:=b) (e:=e) L.up.ao L.len u;let⟨C,N,O⟩:=O3 L t o h;let k:aP:=[Z (aB X),Z<|.im<|aa d,Z<|.im<|aa b,Z<|aB e,Z<|.im<|.tup<|F.map aL]
 have S1:eH (ez<|ag<|a3 3 (G.lF m)<|ai (ah 0)<|ai (ah 1)<|ai (ah 2) ay) k=Z (aq,k):=hU (eO (aY<|bO (Sy:=[.aH 0,.aH 1,.aH 2]) rfl rfl rfl J rfl) rfl rfl);have S6:eH (ez<|ag<|a3 2 (G.kd bb)<|ai (ah 3)<|ai (ag<|aA<|.fn bb) ay) k=Z (!ep,k):=pM (eO (aY<|bO (Sy:=[.aH 3,.bY<|.im<|.fn bb]) rfl rfl rfl v rfl) rfl rfl);have i:eH (ez<|ag<|a3 2 (G.j0 B)<|ai (ah 4)<|ai (ag<|aA<|.fn B) ay) k=Z (!t3,k):=pM (eO (aY<|bO (Sy:=[.aH 4,.bY<|.im<|.fn B]) rfl rfl rfl y rfl) rfl rfl);have bg:cH [.im (.tup<|F.map aL)]=Z (aJ (F.length:Int)):=by
  show Z (ak.im<|.int ((F.map aL).length:Int))=_;rw[bu]
 have g:aZ (ac d4 (ag<|bT cH<|ai (ah 3) ay)<|ag<|bT cH<|ai (ah 4) ay) k=Z (decide (F.length=e.length),k):=bV (cx (aY<|dh (bz rfl rfl) rfl<|j9 e) (aY<|dh (bz rfl rfl) rfl bg) rfl rfl ((mB _ _).trans (by rw[qq.mpr (show (e.length:Int)=(F.length:Int)↔F.length=e.length from ⟨λc=>⋯,λc=>⋯⟩)])));have D:aZ (a3 4 G.mY<|ai (ah 0)<|ai (ah 1)<|ai (ah 2)<|ai (ah 3) ay) k=Z (z,k):=bV (bO (Sy:=[.aH 0,.aH 1,.aH 2,.aH 3]) rfl rfl rfl M rfl);have P:aZ (a3 4 (G.kp m)<|ai (ah 0)<|ai (ah 1)<|ai (ah 2)<|ai (ah 4) ay) k=Z (C,k):=bV (bO (Sy:=[.aH 0,.aH 1,.aH 2,.aH 4]) rfl rfl rfl N rfl);unfold fv ph;cases ep with
 |false=>exact⟨aq,cK (k:=k) rfl (f5<|fC (dO S1<|j1 S6) rfl) rfl,(λa=>by cases a),λS=>absurd (p.mpr S.up) d7⟩
 |true=>
 cases t3 with
 |false=>exact⟨aq,cK (k:=k) rfl (f5<|fC (dO S1<|dO S6 i) rfl) rfl,(λa=>by cases a),λS=>absurd (q.mpr S.w.up) d7⟩
 |true=>
 by_cases j:F.length=e.length
 ·rw[cW j]at g;cases z with
  |false=>exact⟨aq,cK (k:=k) rfl (bH (eT (dO S1<|dO S6 i) rfl)<|et<|hC<|eg g<|kB D) rfl,(λa=>by cases a),λS=>absurd (A.mpr ⟨S.na,S.nb,S.u_⟩) d7⟩
  |true=>
   refine⟨C,cK (k:=k) rfl (bH (eT (dO S1<|dO S6 i) rfl)<|et<|hC<|eg g<|eg D P) rfl,?_⟩;rw[O,Oa o];let⟨na,Q,u_⟩:=A.mp rfl;exact⟨λa=>⟨p.mp rfl,na,Q,u_,⟨λl f=>(a.1 l f).1,q.mp rfl,λl f=>(a.1 l f).2,a.2.1,a.2.2.1,a.2.2.2⟩,j⟩,λS=>⟨λl f=>⟨S.w.ch l f,S.w.mE l f⟩,S.w.ao,S.w.na,S.w.nb⟩⟩
 ·rw[cN j]at g;exact⟨aq,cK (k:=k) rfl (bH (eT (dO S1<|dO S6 i) rfl)<|et<|hC<|kB g) rfl,(λa=>by cases a),λS=>absurd S.n j⟩
theorem Dw:∀R:List af,nj (R.map ab.fn) R=V
 |[]=>rfl
 |g::R=>by
  rw[dK,nj,Dw R,cW rfl];rfl
def N2(a:af)(R:List af):qd a R [.im (.fn a),.im<|.tup<|R.map .fn]=Z (.im<|.au aq):=by
 show (if (decide (a=a)&&nj (R.map ab.fn) R)=V then Z (ak.im<|.au aq) else Y)=_;rw[aN (by rw[cW rfl,Dw];rfl)]
def Hf(a:af){k:aP}(c:k[3]?=Z (Z<|.im<|.fn a)):lz a (ah 3) k=Z (.im<|.au V,k):=by
 have u:ah 3 k=Z (.aH 3,k):=by
  unfold ah;rw[c]
 have b:dF k (.aH 3)=Z (.im<|.fn a):=by
  show (k[3]?).getD Y=_;rw[c];rfl
 unfold lz;rw[u];show (dF k<|.aH 3).bind _=_;rw[b];show (if vd a (.im<|.fn a)=V then Z (ak.im<|.au V,k) else Y)=_;rw[aN (show vd a (.im<|.fn a)=V from cW rfl)]
def Nz{b d e f g h i:af}:∀SG aO Ts,p7 SG=Z (aO,Ts)->4<SG.length/\∀a,∃o j p,E0 a (SG.set 4<|Z<|.im<|.fn a)=Z (.aX,o)/\
  (bh (dD (ez<|ag<|bT (qd a [b,d,e,f,g,h,i])<|ai (ah 3)<|ai (ag<|cB<|ai (ag<|aA<|.fn b)<|ai (ag<|aA<|.fn d)<|ai (ag<|aA<|.fn e)<|ai (ag<|aA<|.fn f)<|ai (ag<|aA<|.fn g)<|ai (ag<|aA<|.fn h)<|ai (ag<|aA<|.fn i) ay) ay) (cy<|aA<|.au aq) eo)<|cy<|fu<|dM (aZ<|lz a<|ah 3)<|aZ<|lz a<|ah 3) (o.set 4 Y)=Z (aO,j)/\j[3]?=Z (Z p)/\j.set 3 (Z .cL)=Ts:=by
 intro SG aO Ts c;unfold p7 at c;split at c
 ·rename_i l m n;cases c;refine⟨fs rfl,λa=>⟨[l,m,n,Z<|.im<|.fn a,Z<|.im<|.fn a],[l,m,n,Z<|.im<|.fn a,Y],.im<|.fn a,rfl,?_,rfl,rfl⟩⟩;have q:=bV (Hf a (k:=[l,m,n,Z<|.im<|.fn a,Y]) rfl);exact bH (eT (eO (aY<|dh (bz rfl<|bz (aY<|vB rfl rfl (hN rfl) rfl) rfl) rfl<|N2 a [b,d,e,f,g,h,i]) rfl rfl) rfl) (et<|hC<|eg q q)
 ·cases c
def RD(c:d=b\/b∈cf d):sh [aB X,.im<|aa d,.im<|aa b]=Z (.im<|.au V,[aB X,.im<|aa d,.im<|aa b]):=by
 let k:aP:=[Z (aB X),Z<|.im<|aa d,Z<|.im<|aa b,Z<|.im .aV,Y]
 let Sn:aP:=[Z (aB X),Z<|.im<|aa d,Z<|.im<|aa b,Y,Y,Y,Y,Y]
 have S1:aZ (ac d4 (ah 1)<|ah 2) Sn=Z (decide (d=b),Sn):=bV (cx rfl rfl rfl rfl (by
  show (if (ab.bI 8 (aa d)&&ab.bI 8 (aa b))=V then Z (ak.im<|.au<|cq (aa d)<|aa b) else Y)=_;rw[kQ,kQ,ru];rfl))
 have S6:aZ (ac eV (ah 2)<|ag<|a3 1 G.ha<|ai (ah 1) ay) Sn=Z (decide (b∈cf d),Sn):=bV (cx rfl (aY<|bO (Sy:=[.aH 1]) rfl rfl rfl (rH d) rfl) rfl rfl (by
  show (eL (aa b)<|aU<|cf d).map (λu=>ak.im<|.au u)=_;rw[rg];rfl))
 have e:fh (aZ<|ac d4 (ah 1)<|ah 2) (aZ<|ac eV (ah 2)<|ag<|a3 1 G.ha<|ai (ah 1) ay) Sn=Z (V,Sn):=by
  by_cases a:d=b
  ·rw[cW a]at S1;exact j1 S1
  ·rw[cN a]at S1;rw[cW (c.resolve_left a)]at S6;exact dO S1 S6
 have f:l0 3 8 mh [aB X,.im<|aa d,.im<|aa b]=V:=by
  show (mh Sn).isSome=V;unfold mh w5;rw[e];rfl
 have g:rB k=Z k:=by
  unfold rB xi;show (if 3=3 then (eJ [.aH 0,.aH 1,.aH 2] k).bind (λo=>if l0 3 8 mh o.1=V then Z o.2 else Y) else Y)=_;rw[aN rfl];show (if l0 3 8 mh [aB X,.im<|aa d,.im<|aa b]=V then Z k else Y)=_;rw[aN f]
 have bt:r_ rB p7 k=Z (.dX<|.im<|.au V,[Z (aB X),Z<|.im<|aa d,Z<|.im<|aa b,Z .cL,Y]):=by
  unfold r_;rw[g];rfl
 exact cK rfl (bH (So:=k) rfl bt) rfl
def NT(c:lL p)(b:∀Sl,p=.tup Sl->Sl.all hL=aq):kd x [.im p,.im<|.fn x]=Z (.im<|.au aq,[.im p,.im<|.fn x]):=by
 cases p with
 |fn d=>exact absurd rfl (c.1 d)
 |tup C=>
  let⟨h,hd⟩:=c.2 C rfl;have e:cm 1 [1] (b8<|ah 0) (a9 0) dm (qu x) [Z (.im<|.tup C),Z<|.im<|.fn x]=Z (.lst<|C.map λp=>.au<|hL p,[Z (.im<|.tup C),Z<|.im<|.fn x]):=by
   refine gb (w:=C.map id) (n:=Y) (So:=[Z (.im<|.tup C),Z<|.im<|.fn x]) (by rw[nd];rfl) (gm id (λp=>.au<|hL p) _ (λf g=>?_) (by omega)) rfl;refine⟨[Z (.im f),Z<|.im<|.fn x],_,[Z (.im f),Z<|.im<|.fn x],rfl,rfl,?_,rfl⟩;unfold qu;show (if x=x then _ else _)=_;rw[aN rfl];exact bO (Sy:=[.aH 0]) rfl rfl rfl (DE<|hd f g) rfl
  have a:=yf hL C;rw[b C rfl]at a;unfold kd ys;exact cK (k:=[Z (.im<|.tup C),Z<|.im<|.fn x]) rfl (f5<|fC (dO (hU<|eO rfl rfl rfl)<|o6<|eO (aY<|dh (bz (aY e) rfl) rfl a) rfl rfl) rfl) rfl
 |_=>rfl
def lu:ab->Bool
 |.tup TP=>TP.all hL
 |_=>aq
def NV(c:lL p):lx [.im p]=Z (.im<|.au<|lu p,[.im p]):=by
 cases p with
 |fn d=>exact absurd rfl (c.1 d)
 |tup C=>
  let⟨e,hd⟩:=c.2 C rfl;have a:cm 1 [] (b8<|ah 0) (a9 0) dm G.xh [Z (.im<|.tup C)]=Z (.lst<|C.map λp=>.au<|hL p,[Z (.im<|.tup C)]):=by
   refine gb (w:=C.map id) (n:=Y) (So:=[Z (.im<|.tup C)]) (by rw[nd];rfl) (gm id (λp=>.au<|hL p) _ (λf b=>?_) (by omega)) rfl;exact⟨[Z (.im f)],_,[Z (.im f)],rfl,rfl,bO (Sy:=[.aH 0]) rfl rfl rfl (DE<|hd f b) rfl,rfl⟩
  unfold lx xj;exact cK (k:=[Z (.im<|.tup C)]) rfl (et<|hC<|eg (bV rfl)<|bV<|dh (bz (aY a) rfl) rfl<|yf hL C) rfl
 |_=>rfl
def Av(p:ab):Prop:=(m4 p/\∀C,p=.tup C->C.length<=290/\∀f∈C,lL f)
def JR(c:Av p)(b:∀Sl,p=.tup Sl->Sl.all lu=aq):j0 x [.im p,.im<|.fn x]=Z (.im<|.au aq,[.im p,.im<|.fn x]):=by
 cases p with
 |fn d=>exact absurd rfl (c.1 d)
 |tup C=>
  let⟨h,hd⟩:=c.2 C rfl;have e:cm 1 [1] (b8<|ah 0) (a9 0) dm (rt x) [Z (.im<|.tup C),Z<|.im<|.fn x]=Z (.lst<|C.map λp=>.au<|lu p,[Z (.im<|.tup C),Z<|.im<|.fn x]):=by
   refine gb (w:=C.map id) (n:=Y) (So:=[Z (.im<|.tup C),Z<|.im<|.fn x]) (by rw[nd];rfl) (gm id (λp=>.au<|lu p) _ (λf g=>?_) (by omega)) rfl;refine⟨[Z (.im f),Z<|.im<|.fn x],_,[Z (.im f),Z<|.im<|.fn x],rfl,rfl,?_,rfl⟩;unfold rt;show (if x=x then _ else _)=_;rw[aN rfl];exact bO (Sy:=[.aH 0]) rfl rfl rfl (NV<|hd f g) rfl
  have a:=yf lu C;rw[b C rfl]at a;unfold j0 vA;exact cK (k:=[Z (.im<|.tup C),Z<|.im<|.fn x]) rfl (f5<|fC (dO (hU<|eO rfl rfl rfl)<|o6<|eO (aY<|dh (bz (aY e) rfl) rfl a) rfl rfl) rfl) rfl
 |_=>rfl
section
variable{m bb B:af}{X:List aI}{d b:aI}
def Ov(f:eI m [aB X]=Z (.im<|.au V,[aB X]))(g:d∈X)(h:b∈X)(c:d=b\/b∈cf d):lF m [aB X,.im<|aa d,.im<|aa b]=Z (.im<|.au aq,[aB X,.im<|aa d,.im<|aa b]):=by
 unfold lF yx;have z:∀{k:aP}{N:aE Bool}{u:Option (Bool×aP)},k=[Z (aB X),Z<|.im<|aa d,Z<|.im<|aa b]->N k=u->dM (aZ<|a3 1 (G.eI m)<|ai (ah 0) ay) (dM (aZ<|a3 2 G.mP<|ai (ah 0)<|ai (ah 1) ay)<|dM (aZ<|a3 2 G.mP<|ai (ah 0)<|ai (ah 2) ay) N) k=u:=λa q=>by
  subst a;exact eg (bV<|bO (Sy:=[.aH 0]) rfl rfl rfl f rfl) (eg (bV<|bO (Sy:=[.aH 0,.aH 1]) rfl rfl rfl (tX g) rfl)<|eg (bV<|bO (Sy:=[.aH 0,.aH 2]) rfl rfl rfl (tX h) rfl) q)
 refine cK (k:=[Z (aB X),Z<|.im<|aa d,Z<|.im<|aa b]) rfl (et<|hC<|z rfl ?_) rfl;by_cases e:d=b
 ·exact kB (bV (ef ((kU d b).trans (by rw[cW e];rfl))))
 ·exact eg (bV (ef ((kU d b).trans (by rw[cN e];rfl)))) (bV (cx rfl (aY<|bO (Sy:=[.aH 1]) rfl rfl rfl (rH d) rfl) rfl rfl ((x9 (cf d) b).trans (by rw[cW (c.resolve_left e)];rfl))))
def QD(e:eI m [aB X]=Z (.im<|.au V,[aB X]))(f:d∈X)(g:b∈X)(c:d=b\/b∈cf d)(p:ab)(a:ab):fv m bb B [aB X,.im<|aa d,.im<|aa b,.im p,.im a]=Z (.im<|.au aq,[aB X,.im<|aa d,.im<|aa b,.im p,.im a]):=by
 unfold fv ph;exact cK (k:=[Z (aB X),Z<|.im<|aa d,Z<|.im<|aa b,Z<|.im p,Z<|.im a]) rfl (f5<|fC (j1<|o6<|eO (aY<|bO (Sy:=[.aH 0,.aH 1,.aH 2]) rfl rfl rfl (Ov e f g c) rfl) rfl rfl) rfl) rfl
abbrev kz(X:List aI)(d b:aI)(p a:ab):aP:=[Z (aB X),Z<|.im<|aa d,Z<|.im<|aa b,Z<|.im p,Z<|.im a]
def pH(c:eI m [aB X]=Z (.im<|.au V,[aB X]))(e:d∈X)(f:b∈X)(g:d≠b)(nb:b∉cf d):eH (ez<|ag<|a3 3 (G.lF m)<|ai (ah 0)<|ai (ah 1)<|ai (ah 2) ay) (kz X d b p a)=Z (aq,kz X d b p a):=hU (eO (aY<|bO (Sy:=[.aH 0,.aH 1,.aH 2]) rfl rfl rfl (Gn c e f g nb) rfl) rfl rfl)
def x2(u:kd bb [.im p,.im<|.fn bb]=Z (.im<|.au I,[.im p,.im<|.fn bb])):eH (ez<|ag<|a3 2 (G.kd bb)<|ai (ah 3)<|ai (ag<|aA<|.fn bb) ay) (kz X d b p a)=Z (!I,kz X d b p a):=pM (eO (aY<|bO (Sy:=[.aH 3,.bY<|.im<|.fn bb]) rfl rfl rfl u rfl) rfl rfl)
def Ai(u:j0 B [.im a,.im<|.fn B]=Z (.im<|.au I,[.im a,.im<|.fn B])):eH (ez<|ag<|a3 2 (G.j0 B)<|ai (ah 4)<|ai (ag<|aA<|.fn B) ay) (kz X d b p a)=Z (!I,kz X d b p a):=pM (eO (aY<|bO (Sy:=[.aH 4,.bY<|.im<|.fn B]) rfl rfl rfl u rfl) rfl rfl)
def wc(e:eI m [aB X]=Z (.im<|.au V,[aB X]))(f:d∈X)(g:b∈X)(h:d≠b)(nb:b∉cf d){p a:ab}(c:lL p)(i:∀Sl,p=.tup Sl->Sl.all hL=aq):fv m bb B [aB X,.im<|aa d,.im<|aa b,.im p,.im a]=Z (.im<|.au aq,[aB X,.im<|aa d,.im<|aa b,.im p,.im a]):=by
 unfold fv ph;exact cK (k:=kz X d b p a) rfl (f5<|fC (dO (pH e f g h nb)<|j1<|x2<|NT c i) rfl) rfl
def vk(f:eI m [aB X]=Z (.im<|.au V,[aB X]))(g:d∈X)(h:b∈X)(i:d≠b)(nb:b∉cf d){e:List aI}(l:e.length<=1000){a:ab}(c:Av a)(n:∀Sl,a=.tup Sl->Sl.all lu=aq):fv m bb B [aB X,.im<|aa d,.im<|aa b,aB e,.im a]=Z (.im<|.au aq,[aB X,.im<|aa d,.im<|aa b,aB e,.im a]):=by
 unfold fv ph;have S6:=x2 (X:=X) (d:=d) (b:=b) (a:=a) (zi (x:=bb) l);have o:=Ai (X:=X) (d:=d) (b:=b) (p:=.tup (e.map aa)) (JR (x:=B) c n);cases j:(e.zip<|e.drop 1).all λr=>bc (aa r.1) (aa r.2) with
 |false=>
  rw[j]at S6;exact cK (k:=kz X d b (.tup<|e.map aa) a) rfl (f5<|fC (dO (pH f g h i nb)<|j1 S6) rfl) rfl
 |true=>
  rw[j]at S6;exact cK (k:=kz X d b (.tup<|e.map aa) a) rfl (f5<|fC (dO (pH f g h i nb)<|dO S6 o) rfl) rfl
def Kv(L:h4 X)(c:eI m [aB X]=Z (.im<|.au V,[aB X])){l:dy}{o:aI}(a:o∈l)(d:o∉X)(h:l.length<=290):nf m [aB X,.im<|aL l]=Z (.im<|.au aq,[aB X,.im<|aL l]):=by
 have e:=vW L.up.ao (by have:=L.len;omega);have i:=zd a;have S6:aZ (ac d4 (ag<|bT cH<|ai (ah 1) ay)<|ag<|aA<|.int 0) [Z (aB X),Z<|.im<|aL l,Y]=Z (aq,[Z (aB X),Z<|.im<|aL l,Y]):=bV (cx (aY<|dh (bz rfl rfl) rfl<|j9 l) rfl rfl rfl ((mB _ _).trans (by rw[cN (by omega)])));have f:cm 1 [2] (b8<|ah 1) (a9 0) dm (G.yX m) [Z (aB X),Z<|.im<|aL l,Z<|.aF<|a5 X]=Z (.lst<|l.map λg=>.au<|decide (g∈X),[Z (aB X),Z<|.im<|aL l,Z<|.aF<|a5 X]):=by
  refine gb (w:=l.map aa) (n:=Y) (So:=[Z (aB X),Z<|.im<|aL l,Z<|.aF<|a5 X]) rfl (gm aa (λg=>.au<|decide (g∈X)) _ (λg j=>?_) (by omega)) rfl;exact⟨[Z (.im<|aa g),Z<|.aF<|a5 X],_,[Z (.im<|aa g),Z<|.aF<|a5 X],rfl,rfl,hC<|eg (bV<|bO (Sy:=[.aH 0]) rfl rfl rfl (pB g) rfl)<|bV<|ef<|o2 X g,rfl⟩
 have b:=oT (λg=>decide (g∈X)) l;rw[show (l.all λg=>decide (g∈X))=aq from tq.mpr ⟨o,a,by rw[cN d];exact d7⟩]at b;unfold nf vP;exact cK (k:=[Z (aB X),Z<|.im<|aL l,Z<|.aF<|a5 X]) rfl (bH (eT (dO (hU<|eO (aY<|bO (Sy:=[.aH 0]) rfl rfl rfl c rfl) rfl rfl)<|dO (So:=[Z (aB X),Z<|.im<|aL l,Y]) rfl S6) rfl)<|bH (jc (bO (Sy:=[.aH 0]) rfl rfl rfl e rfl) (fs rfl) rfl)<|f5<|fC (o6<|eO (aY<|dh (bz (aY f) rfl) rfl b) rfl rfl) rfl) rfl
def P2(L:h4 X)(c:eI m [aB X]=Z (.im<|.au V,[aB X])){l:dy}{F:List dy}{o:aI}(e:o∈l)(f:o∉X)(g:l.length<=290):kp m [aB X,.im<|aa d,.im<|aa b,.im<|.tup<|(l::F).map aL]=Z (.im<|.au aq,[aB X,.im<|aa d,.im<|aa b,.im<|.tup<|(l::F).map aL]):=by
 let So:aP:=[Z (aB X),Z<|.im<|aa d,Z<|.im<|aa b,Z<|.im<|.tup<|(l::F).map aL,Z<|aU [d,b],Y]
 let S3:aP:=[Z (aB X),Z<|.im<|aa d,Z<|.im<|aa b,Z<|.im<|.tup<|(l::F).map aL,Z<|aU [d,b],Z<|.im<|aL l]
 have a:ji m S3=Z (.dX<|.im<|.au aq,S3):=f5 (fC (j1<|o6<|eO (aY<|bO (Sy:=[.aH 0,.aH 5]) rfl rfl rfl (Kv L c e f g) rfl) rfl rfl) rfl);have h:dB (a9 5) (ji m) ((l::F).map aL) So=Z (.dX<|.im<|.au aq,S3):=by
  rw[dK,dB];show (ji m S3).bind _=_;rw[a];rfl
 unfold kp yr;exact cK (k:=S3) rfl (bH (So:=So) rfl<|f5<|gS (n:=Y) (w:=(l::F).map aL) (So:=So) rfl h rfl) rfl
def GV(L:h4 X)(f:eI m [aB X]=Z (.im<|.au V,[aB X]))(i:d∈X)(j:b∈X)(n:d≠b)(nb:b∉cf d){e:List aI}(s:e.length<=1000){l:dy}{F:List dy}{o:aI}(z:o∈l)(A:o∉X)(C:l.length<=290)(h:jR X F):fv m bb B [aB X,.im<|aa d,.im<|aa b,aB e,.im<|.tup<|(l::F).map aL]=Z (.im<|.au aq,[aB X,.im<|aa d,.im<|aa b,aB e,.im<|.tup<|(l::F).map aL]):=by
 have da:=h.da;have S6:=x2 (X:=X) (d:=d) (b:=b) (a:=.tup ((l::F).map aL)) (zi (x:=bb) s);have g:=Ai (X:=X) (d:=d) (b:=b) (p:=.tup (e.map aa)) (zA (x:=B) (F:=l::F) (by rw[dA];omega) λv q=>by
  rcases bL.mp q with rfl|q
  ·omega
  ·have:=h.len v q;omega)
 let⟨t,E,W⟩:=D8 (d:=d) (b:=b) (e:=e) L.up.ao L.len s;let k:aP:=kz X d b (.tup<|e.map aa) (.tup<|(l::F).map aL)
 have bg:cH [.im (.tup<|(l::F).map aL)]=Z (aJ ((l::F).length:Int)):=by
  show Z (ak.im<|.int (((l::F).map aL).length:Int))=_;rw[bu]
 have c:aZ (ac d4 (ag<|bT cH<|ai (ah 3) ay)<|ag<|bT cH<|ai (ah 4) ay) k=Z (decide ((e.length:Int)=((l::F).length:Int)),k):=bV (cx (aY<|dh (bz rfl rfl) rfl<|j9 e) (aY<|dh (bz rfl rfl) rfl bg) rfl rfl<|mB _ _);have u:aZ (a3 4 G.mY<|ai (ah 0)<|ai (ah 1)<|ai (ah 2)<|ai (ah 3) ay) k=Z (t,k):=bV (bO (Sy:=[.aH 0,.aH 1,.aH 2,.aH 3]) rfl rfl rfl E rfl);have H:aZ (a3 4 (G.kp m)<|ai (ah 0)<|ai (ah 1)<|ai (ah 2)<|ai (ah 4) ay) k=Z (aq,k):=bV (bO (Sy:=[.aH 0,.aH 1,.aH 2,.aH 4]) rfl rfl rfl (P2 L f z A C) rfl);have I:dM (aZ<|ac d4 (ag<|bT cH<|ai (ah 3) ay)<|ag<|bT cH<|ai (ah 4) ay) (dM (aZ<|a3 4 G.mY<|ai (ah 0)<|ai (ah 1)<|ai (ah 2)<|ai (ah 3) ay)<|aZ<|a3 4 (G.kp m)<|ai (ah 0)<|ai (ah 1)<|ai (ah 2)<|ai (ah 4) ay) k=Z (aq,k):=by
  cases w:decide ((e.length:Int)=((l::F).length:Int)) with
  |false=>rw[w]at c;exact kB c
  |true=>
   rw[w]at c;cases t with
   |false=>exact eg c (kB u)
   |true=>exact eg c (eg u H)
 unfold fv ph;cases D:(e.zip<|e.drop 1).all λr=>bc (aa r.1) (aa r.2) with
 |false=>
  rw[D]at S6;exact cK (k:=k) rfl (f5<|fC (dO (pH f i j n nb)<|j1 S6) rfl) rfl
 |true=>
  rw[D]at S6;cases y:((l::F).zip<|(l::F).drop 1).all λr=>bc (aL r.1) (aL r.2) with
  |false=>
   rw[y]at g;exact cK (k:=k) rfl (f5<|fC (dO (pH f i j n nb)<|dO S6 g) rfl) rfl
  |true=>
   rw[y]at g;exact cK (k:=k) rfl (bH (eT (dO (pH f i j n nb)<|dO S6 g) rfl)<|et<|hC I) rfl
end
def ot(C:List ab):List ab:=([.aV,.au V,.au aq,.int 0,.int 7,.str "",.str "cells",.fd [],.aO [],.aO C,.aO [.tup C],.tup [.tup C]])
def kH:List ab:=([.aV,.au V,.int 3,.str "",.str "5:5",.tup [.int 5],.tup [.int 5,.int 5,.int 5],.aO [.int 5,.int 5],.tup [.str "5",.int 5],.tup [.au V,.int 5],.tup [.int 5,.au aq],aa (-1,0),aa (31,0),.fd []])
def ni(C:List ab)(q:Nat)(n:ab):List ab:=([.tup (C++[n]),.tup<|C.take q++[n]++C.drop (q+1),.tup [n]])
def iq(C:List ab)(q:Nat):List ab:=(ot C++kH.flatMap (ni C q))
def vc{f A:List ab}(c:f.length+A.length<=100000):du (.im<|.tup f) (.im<|.tup A)=Z (.im<|.tup<|f++A):=aN c
theorem ED{C:List ab}{q:Nat}(f:C.length<=1000):∀(b a:List ab) (S8:Option ak),a.length+3*b.length<=1000->
  ∃d,dB (a9 4) GO b [Z (.im<|.tup C),Z<|aJ (q:Int),Z .cL,Z<|.lst a,S8]=Z (.aX,[Z (.im<|.tup C),Z<|aJ (q:Int),Z .cL,Z<|.lst<|a++b.flatMap (ni C q),d])
 |[],a,S8,_=>⟨S8,by rw[Cb,cp];rfl⟩
 |n::b,a,S8,c=>by
  rw[dA]at c;let⟨d,g⟩:=ED (C:=C) (q:=q) f b (a++ni C q n) (Z<|.im n) (by rw[dj];show a.length+3+_<=_;omega);refine⟨d,?_⟩;let k:aP:=[Z (.im<|.tup C),Z<|aJ (q:Int),Z .cL,Z<|.lst a,Z<|.im n]
  have h:kg (.im<|.tup C) Y (Z (q:Int))=Z (.im<|.tup<|C.take q):=by
   show Z (ak.im<|.tup<|fj C Y<|Z (q:Int))=_;rw[HK]
  have i:kg (.im<|.tup C) (Z<|(q:Int)+1) Y=Z (.im<|.tup<|C.drop<|q+1):=by
   show Z (ak.im<|.tup<|fj C (Z<|(q:Int)+1) Y)=_;rw[show (q:Int)+1=((q+1:Nat):Int) from rfl,wb]
  have bg:(C.take q).length<=1000:=by rw[oO];omega
  have bx:(C.drop<|q+1).length<=1000:=by rw[kf];omega
  have e:cB (ai (ah 4) ay) k=Z (.im<|.tup [n],k):=vB (bz rfl rfl) rfl (hN rfl) rfl;have j:ac du (ah 0) (ag<|cB<|ai (ah 4) ay) k=Z (.im<|.tup<|C++[n],k):=cx rfl (aY e) rfl rfl (vc (by show C.length+1<=_;omega));have l:ac du (ag<|ac du (ag<|f6 (ah 0) gK<|gy<|ed 1)<|ag<|cB<|ai (ah 4) ay) (ag<|f6 (ah 0) (gy<|ac du (ah 1)<|ag<|aA<|.int 1) gK) k=Z (.im<|.tup<|C.take q++[n]++C.drop (q+1),k):=
   cx (aY (cx (aY<|zj rfl rfl rfl rfl h) (aY e) rfl rfl (vc (by show (C.take q).length+1<=_;omega)))) (aY<|zj rfl rfl rfl rfl i) rfl rfl (vc (by rw[dj];show (C.take q).length+1+_<=_;omega));have ad:du (.lst a) (.lst<|ni C q n)=Z (.lst<|a++ni C q n):=aN (by show a.length+3<=_;omega);rw[oX,<-b6];exact Bc (So:=k) rfl (j2 (cx rfl (aY<|C_ (bz (aY j)<|bz (aY l)<|bz (aY e) rfl) rfl (hN rfl) rfl) rfl rfl ad) (fs rfl) rfl) g
def wh(a:C.length<=1000):k7 [.im (.tup C),aJ (q:Int)]=Z (.lst<|iq C q,[.im (.tup C),aJ (q:Int)]):=by
 let⟨b,c⟩:=ED (q:=q) a kH (ot C) Y (by show 12+3*14<=1000;decide);exact cK (k:=[Z (.im<|.tup C),Z<|aJ (q:Int),Z<|.lst kH,Z .cL,b]) rfl (bH (So:=[Z (.im<|.tup C),Z<|aJ (q:Int),Z<|.lst kH,Y,Y]) rfl<|bH (So:=[Z (.im<|.tup C),Z<|aJ (q:Int),Z<|.lst kH,Z<|.lst<|ot C,Y]) rfl<|bH (gS (n:=Z (2,.lst kH)) (w:=kH) (So:=[Z (.im<|.tup C),Z<|aJ (q:Int),Z .cL,Z<|.lst<|ot C,Y]) rfl c rfl)<|et rfl) rfl
def tL:ab->Bool
 |.fn _=>aq
 |_=>V
def Cf:ab->Bool
 |.tup Sl=>Sl.all tL
 |p=>tL p
def LS:ab->Bool
 |.tup Sl=>decide (Sl.length<=290)&&Sl.all Cf
 |p=>tL p
def Ro(c:tL p=V):m4 p:=λd a=>by
 subst a;cases c
def qY(c:Cf p=V):pg p:=
 ⟨λd a=>(by subst a;cases c),λSl a A b=>by
  subst a;exact Ro (i8.mp c A b)⟩
def xQ(c:LS p=V):lL p:=
 ⟨λd a=>(by subst a;cases c),λSl a=>by
  subst a;let⟨t,D⟩:=Bool.and_eq_true_iff.mp c;exact⟨gg t,λA b=>qY<|i8.mp D A b⟩⟩
def rv:ab->Bool
 |.tup _=>aq
 |.fn _=>aq
 |_=>V
def wj(c:rv p=V):m4 p:=λd a=>by
 subst a;cases c
def q1(c:rv p=V){Sl:List ab}(a:p=.tup Sl):False:=by
 subst a;cases c
def PM(c:rv p=V):lu p=aq:=by
 cases p with
 |tup Sl=>cases c
 |_=>rfl
def y2(e:List aI):pg (.tup<|e.map aa):=⟨λd a=>(by cases a),λSl a A b=>by
 cases a;let⟨g,X,rfl⟩:=cV.mp b;exact λd a=>by cases a⟩
def x6(g:aI):pg (aa g):=qY rfl
def Qx(b:e.length<=290):lL (.tup<|e.map aa):=⟨λd a=>(by cases a),λSl a=>by
 cases a;refine⟨by rw[bu];exact b,λA c=>?_⟩;let⟨g,X,rfl⟩:=cV.mp c;exact x6 g⟩
theorem wN:∀e:List aI,hL (.tup<|e.map aa)=aq
 |[]=>rfl
 |[_]=>rfl
 |[_,_]=>rfl
 |_::_::_::_=>rfl
def K7:∀p∈ot C,rv p=V\/p=.tup [.tup C]:=λp c=>by
 unfold ot at c;simp only[bL,iN,ic]at c;rcases c with rfl|rfl|rfl|rfl|rfl|rfl|rfl|rfl|rfl|rfl|rfl|rfl<;>first|exact .inl rfl|exact .inr rfl
structure E7(n:ab):Prop where
 t1:pg n
 ep:lL n
 w:lu n=aq
 p:hL n=aq\/∃o:aI,n=aa o/\(o.1<0\/30<o.1)
def Lw:∀n∈kH,E7 n:=λn c=>by
 unfold kH at c;simp only[bL,iN,ic]at c;rcases c with rfl|rfl|rfl|rfl|rfl|rfl|rfl|rfl|rfl|rfl|rfl|rfl|rfl|rfl
 case inr.inr.inr.inr.inr.inr.inr.inr.inr.inr.inr.inl=>exact⟨qY rfl,xQ rfl,rfl,.inr ⟨(-1,0),rfl,.inl ∅⟩⟩
 case inr.inr.inr.inr.inr.inr.inr.inr.inr.inr.inr.inr.inl=>exact⟨qY rfl,xQ rfl,rfl,.inr ⟨(31,0),rfl,.inr ∅⟩⟩
 all_goals exact⟨qY rfl,xQ rfl,rfl,.inl rfl⟩
structure zW(C:List ab)(q:Nat)(n:ab)(Sl:List ab):Prop where
 io:n∈Sl
 all:∀A∈Sl,A∈C\/A=n
 len:Sl.length<=C.length+1
def O_{n:ab}(c:p∈ni C q n):∃Sl,p=.tup Sl/\(Sl=C++[n]\/Sl=C.take q++[n]++C.drop (q+1)\/Sl=[n])/\zW C q n Sl:=by
 unfold ni at c;simp only[bL,iN,ic]at c;rcases c with rfl|rfl|rfl
 ·refine⟨_,rfl,.inl rfl,c3 _<|.head _,λA a=>?_,by rw[dj];exact bq _⟩;exact (dt.mp a).imp id cO.mp
 ·refine⟨_,rfl,.inr<|.inl rfl,c5 _<|c3 _<|.head _,λA a=>?_,?_⟩
  ·rcases dt.mp a with a|a
   ·exact (dt.mp a).imp Fc cO.mp
   ·exact .inl (Ee a)
  ·rw[dj,dj,oO,kf,fi];omega
 ·exact⟨_,rfl,.inr<|.inr rfl,.head _,λA a=>.inr<|cO.mp a,by show 1<=_;omega⟩
def yy(c:p∈iq C q):rv p=V\/p=.tup [.tup C]\/∃n Sl,E7 n/\p=.tup Sl/\(Sl=C++[n]\/Sl=C.take q++[n]++C.drop (q+1)\/Sl=[n])/\zW C q n Sl:=by
 rcases dt.mp c with c|c
 ·exact (K7 p c).imp id .inl
 ·let⟨n,a,hd⟩:=yt.mp c;let⟨Sl,b,d,e⟩:=O_ hd;exact .inr (.inr ⟨n,Sl,Lw n a,b,d,e⟩)
def F_{o:aI}{Sl:List ab}(c:Sl=e.map aa++[aa o]\/Sl=(e.map aa).take q++[aa o]++(e.map aa).drop (q+1)\/Sl=[aa o]):∃a:List aI,Sl=a.map aa/\(a=e++[o]\/a=e.take q++[o]++e.drop (q+1)\/a=[o]):=by
 rcases c with rfl|rfl|rfl
 ·exact⟨_,by rw[fQ];rfl,.inl rfl⟩
 ·exact⟨_,by rw[fQ,fQ,zE,Ew];rfl,.inr<|.inl rfl⟩
 ·exact⟨[o],rfl,.inr<|.inr rfl⟩
section
variable{m bb B:af}{X e:List aI}{d b:aI}{F:List dy}{q:Nat}{p:ab}
def Mz(L:h4 X)(k:eI m [aB X]=Z (.im<|.au V,[aB X]))(l:d∈X)(u:b∈X)(v:d≠b)(nb:b∉cf d)(S:xY X d b e F)(U:e.length<=60)(G:e≠[])(h:jR X F)(al:q<e.length)(free:∀w:List aI,w.length<e.length->(∀g∈w,g≠d/\g≠b)->df (X.filter λg=>!decide (g∈w)) d b)(c:p∈iq (e.map aa) q):
  fv m bb B [aB X,.im<|aa d,.im<|aa b,.im p,.im<|.tup<|F.map aL]=Z (.im<|.au aq,[aB X,.im<|aa d,.im<|aa b,.im p,.im<|.tup<|F.map aL]):=by
 rcases yy c with c|rfl|⟨n,Sl,z,rfl,H,x⟩
 ·exact wc k l u v nb ⟨wj c,λSl f=>(q1 c f).elim⟩ λSl f=>(q1 c f).elim
 ·refine wc k l u v nb ⟨λd f=>(by cases f),λSl f=>?_⟩ λSl f=>?_
  ·cases f;exact⟨hN rfl,λA y=>by rw[cO.mp y];exact y2 e⟩
  ·cases f;show (hL (.tup<|e.map aa)&&V)=aq;rw[wN];rfl
 ·rcases z.p with J|⟨o,rfl,am⟩
  ·refine wc k l u v nb ⟨λd f=>(by cases f),λM f=>?_⟩ λM f=>?_
   ·cases f;refine⟨by have:=x.len;rw[bu]at this;omega,λA y=>?_⟩;rcases x.all A y with c|rfl
    ·let⟨g,W,rfl⟩:=cV.mp c;exact x6 g
    ·exact z.t1
   ·cases f;exact tq.mpr ⟨n,x.io,by rw[J];exact d7⟩
  ·let⟨C,rfl,N⟩:=F_ H;have O:o∉X:=λf=>by have:=L.cU o f;omega
   have P:C.length<=1000:=by have:=x.len;rw[bu,bu]at this;omega
   let⟨I,a,j⟩:=Ge (bb:=bb) (B:=B) L k l u v nb P h;cases I with
   |false=>exact a
   |true=>
    have Sm:=j.mp rfl;have e0:=S.n;have Q:=Sm.n;have SJ:∀w:List aI,w.length<e.length->(∀g∈w,g∈e)->(∀g∈C,g∈w\/g=o)->False:=λw t D R=>by
     refine Sm.u_ ((free w t λg i=>⟨λf=>S.na<|f ▸ D g i,λf=>S.nb<|f ▸ D g i⟩).mono λg i=>?_);let⟨E,T⟩:=EO.mp i;exact EO.mpr ⟨E,λf=>(R g f).elim T λf=>O<|f ▸ E⟩
    rcases N with rfl|rfl|rfl
    ·rw[dj,fi]at Q;omega
    ·refine (SJ (e.take q++e.drop (q+1)) (by rw[dj,oO,kf];omega) (λg i=>(dt.mp i).elim Fc Ee) λg i=>?_).elim;rcases dt.mp i with i|i
     ·exact (dt.mp i).imp (λf=>c5 _ f) cO.mp
     ·exact .inl (c3 _ i)
    ·exact (SJ [] (j_.mpr G) (λg i=>absurd i iN) λg i=>.inr<|cO.mp i).elim
def D3(h:jR X F):∀A∈F.map aL,lL A:=λA a=>by
 let⟨l,b,rfl⟩:=cV.mp a;exact Qx (h.len l b)
def K2(i:eI m [aB X]=Z (.im<|.au V,[aB X]))(j:d∈X)(k:b∈X)(o:d≠b)(nb:b∉cf d)(g:e.length<=60)(h:jR X F)(t:F≠[])(c:p∈iq (F.map aL) q):
  fv m bb B [aB X,.im<|aa d,.im<|aa b,aB e,.im p]=Z (.im<|.au aq,[aB X,.im<|aa d,.im<|aa b,aB e,.im p]):=by
 have da:=h.da;have g:e.length<=1000:=by omega
 rcases yy c with c|rfl|⟨n,Sl,s,rfl,v,r⟩
 ·exact vk i j k o nb g ⟨wj c,λSl a=>(q1 c a).elim⟩ λSl a=>(q1 c a).elim
 ·refine vk i j k o nb g ⟨λd a=>(by cases a),λSl a=>?_⟩ λSl a=>?_
  ·cases a;refine⟨hN rfl,λA f=>?_⟩;rw[cO.mp f];refine⟨λd a=>(by cases a),λSl a=>?_⟩;cases a;refine⟨by rw[bu];omega,λA f=>?_⟩;let⟨l,W,rfl⟩:=cV.mp f;exact y2 l
  ·cases a;let⟨l,Sm,rfl⟩:=ti t;show ((hL (.tup<|l.map aa)&&_)&&V)=aq;rw[wN];rfl
 ·refine vk i j k o nb g ⟨λd a=>(by cases a),λu a=>?_⟩ λu a=>?_
  ·cases a;refine⟨by have:=r.len;rw[bu]at this;omega,λA f=>?_⟩;rcases r.all A f with c|rfl
   ·exact D3 h A c
   ·exact s.ep
  ·cases a;exact tq.mpr ⟨n,r.io,by rw[s.w];exact d7⟩
def M1(L:h4 X)(s:eI m [aB X]=Z (.im<|.au V,[aB X]))(t:d∈X)(u:b∈X)(v:d≠b)(nb:b∉cf d)(k:e.length<=60)(h:jR X F)(J:l.length<=90)(c:p∈iq (l.map aa) q):
  fv m bb B [aB X,.im<|aa d,.im<|aa b,aB e,.im<|.tup (p::F.map aL)]=Z (.im<|.au aq,[aB X,.im<|aa d,.im<|aa b,aB e,.im<|.tup (p::F.map aL)]):=by
 have da:=h.da;have k:e.length<=1000:=by omega
 have go:lL p->lu p=aq->fv m bb B [aB X,.im<|aa d,.im<|aa b,aB e,.im<|.tup (p::F.map aL)]=Z (.im<|.au aq,[aB X,.im<|aa d,.im<|aa b,aB e,.im<|.tup (p::F.map aL)]):=λI y=>by
  refine vk s t u v nb k ⟨λd f=>(by cases f),λSl f=>?_⟩ λSl f=>?_
  ·cases f;refine⟨by rw[dA,bu];omega,λA i=>?_⟩;rcases bL.mp i with rfl|i
   ·exact I
   ·exact D3 h A i
  ·cases f;rw[CM,y];rfl
 rcases yy c with c|rfl|⟨n,Sl,w,rfl,z,j⟩
 ·exact go ⟨wj c,λSl f=>(q1 c f).elim⟩ (PM c)
 ·refine go ⟨λd f=>(by cases f),λSl f=>?_⟩ ?_
  ·cases f;exact⟨hN rfl,λA i=>by rw[cO.mp i];exact y2 l⟩
  ·show (hL (.tup<|l.map aa)&&V)=aq;rw[wN];rfl
 ·rcases w.p with C|⟨o,rfl,M⟩
  ·refine go ⟨λd f=>(by cases f),λN f=>?_⟩ ?_
   ·cases f;refine⟨by have:=j.len;rw[bu]at this;omega,λA i=>?_⟩;rcases j.all A i with c|rfl
    ·let⟨g,W,rfl⟩:=cV.mp c;exact x6 g
    ·exact w.t1
   ·exact tq.mpr ⟨n,j.io,by rw[C];exact d7⟩
  ·let⟨D,rfl,O⟩:=F_ z;have E:o∉X:=λf=>by have:=L.cU o f;omega
   have G:=j.len;rw[bu,bu]at G;have H:o∈D:=by
    let⟨g,x,a⟩:=cV.mp j.io;rw[v9 a]at x;exact x
   exact GV L s t u v nb k H E (by omega) h
end
theorem pV{SY:e1}{N:bo}{k:Option ak->aP}(b:∀n f,SY (.im f) (k n)=Z (k<|Z<|.im f)):∀(a:List ab) (n:Option ak),(∀f∈a,N (k<|Z<|.im f)=Z (.aX,k<|Z<|.im f))->∃r,dB SY N a (k n)=Z (.aX,k r)
 |[],n,_=>⟨n,rfl⟩
 |f::a,n,c=>by
  let⟨r,d⟩:=pV b a (Z<|.im f) λA e=>c A (.tail _ e);exact⟨r,Bc (b n f) (c f<|.head _) d⟩
def rO{So:aP}{p:ak}(a:N k=Z (p,So))(q:h_ p=Z w):b8 (ag N) k=Z ((w,Y),So):=by
 unfold b8;rw[hD a];show (h_ p).map _=_;rw[q];rfl
def rV(b:Bool):kD V (.im<|.au b) (.im<|.au b)=Z (.im<|.au aq):=by
 cases b<;>rfl
section
variable{m bb B:af}
abbrev fL(To a:Option ak)(c:ak)(X:List aI)(d:aI)(y E Tt Q Tv T Td:Option ak):aP:=[To,a,Z c,Z<|aB X,Z<|.im<|aa d,Td,y,E,Tt,Q,Tv,T]
def Dm{To a:Option ak}{c:ak}(f:eI m [aB X]=Z (.im<|.au V,[aB X]))(g:d∈X)(h:b∈X)(e:d=b\/b∈cf d):
  su m bb B (fL To a c X d y E Tt Q Tv T<|Z<|.im<|aa b)=Z (.aX,fL To a c X d y E Tt Q Tv T<|Z<|.im<|aa b):=
 eT (dO (hU<|eO (aY<|bO (Sy:=[.aH 3,.aH 4,.aH 5]) rfl rfl rfl (RD e) rfl) rfl rfl)<|bV<|cx (aY<|bO (Sy:=[.aH 3,.aH 4,.aH 5,.bY<|.im<|.tup [],.bY<|.im<|.tup []]) rfl rfl rfl (QD f g h e (.tup [])<|.tup []) rfl) rfl rfl rfl<|rV aq) rfl
abbrev tn(To a:Option ak)(c:ak)(X:List aI)(d b:aI)(y:Option ak)(e:List aI)(F:List dy)(Tv T Q:Option ak):aP:=[To,a,Z c,Z<|aB X,Z<|.im<|aa d,Z<|.im<|aa b,y,Z<|aB e,Z<|.im<|.tup<|F.map aL,Q,Tv,T]
def QU{SN:List Int}{q:Int}{Tp S8 Td:Option ak}(co:0<=q)(m0:q<3):∃S3 cr Tz cs db O ds dL eq ev ex fd,s8 m bb B [Z (.dr<|SN.map .int),Z<|aJ q,Tp,Tj,S8,Td,y,E,Tt,Q,Tv,T]=Z (.aX,S3)/\S3=[Z (.dr<|SN.map .int),cr,Tz,cs,db,O,ds,dL,eq,ev,ex,fd]:=by
 let⟨c,fn,h⟩:=Jp (SN:=SN) co (by omega);let⟨t,X,fr,Sr,bs,aO,up,⟨na,bv,ca⟩,fin⟩:=HO (s:=8) (M:=16) (by omega) (by omega) (h.mono (by omega));have aO:X.length<=16:=by have:(16:Int).toNat=16:=rfl;omega
 have nl:=j_.mpr bs;let⟨v,D,f0,f1,nm,SK⟩:=gX (s:=7) (M:=(X.length:Int)) Sr (by omega) (by omega);obtain⟨d,Tx⟩:∃d,X[v.toNat]?=Z d:=⟨X[v.toNat]'(by omega),fT (by omega)⟩;have ap:=jS Tx;let⟨nn,cd,two⟩:=PU (s:=5) (X:=X) SK (by omega) bs;have L:h4 X:=⟨up,fin,by omega⟩;have al:eI m [aB X]=Z (.im<|.au V,[aB X]):=Rt L ap λf be=>DP ca ap be;let⟨f2,rfl⟩:=h.lst;let⟨f4,rfl⟩:=Sr.lst;let⟨r,rfl⟩:=SK.lst;let⟨P,rfl⟩:=cd.lst;have f8:bD (aB X) (aJ v)=Z (.im<|aa d):=by
  show (dx (X.map aa) v).map ak.im=_;rw[pA f1 Tx];rfl
 let To:Option ak:=Z (.dr<|SN.map .int)
 let i:Option ak:=Z (aJ q)
 let SS:List aI:=(cf d).filter λg=>decide (g∈X)
 have dG:∀{y E Tt Q Tv T Td:Option ak},cm 1 [3] (b8<|ag<|a3 1 G.ip<|ai (ah 4) ay) (a9 0) (G.r3 m bb B) (G.tk m bb B) (fL To i (.lst r) X d y E Tt Q Tv T Td)=Z (aU SS,fL To i (.lst r) X d y E Tt Q Tv T Td):=λ{y E Tt Q Tv T Td}=>by
  have ga:a3 1 G.ip (ai (ah 4) ay) (fL To i (.lst r) X d y E Tt Q Tv T Td)=Z (aU<|cf d,fL To i (.lst r) X d y E Tt Q Tv T Td):=bO (Sy:=[.aH 4]) rfl rfl rfl (t_ d) rfl;refine gb (w:=(cf d).map aa) (n:=Y) (So:=fL To i (.lst r) X d y E Tt Q Tv T Td) (rO ga rfl) (kN aa (λg=>decide (g∈X)) aa _ [] (λg U=>?_)<|hN rfl) rfl;exact⟨[Z (.im<|aa g),Z<|aB X],[Z (.im<|aa g),Z<|aB X],rfl,bV<|ef<|Af X g,λ_=>rfl,λ_=>⟨[Z (.im<|aa g),Z<|aB X],rfl,rfl⟩⟩
 have no:SS.length<=4:=qD _ _;have ad:du (aU [d]) (aU SS)=Z (aU (d::SS)):=by
  show (if [aa d].length+(SS.map aa).length<=100000 then Z (ak.lst<|[aa d]++SS.map aa) else Y)=_;rw[aN (by rw[bu];show 1+_<=_;omega)];rfl
 let⟨O,ge⟩:=pV (SY:=a9 5) (N:=su m bb B) (k:=fL To i (.lst r) X d y E Tt Q Tv T) (λ_ U=>rfl) ((d::SS).map aa) Td λf be=>by
  let⟨b,u,rfl⟩:=cV.mp be;rcases bL.mp u with rfl|u
  ·exact Dm al ap ap (.inl rfl)
  ·let⟨gl,go⟩:=gM.mp u;exact Dm al ap (gg go) (.inr gl)
 have gt:cH [aB X]=Z (aJ (X.length:Int)):=j9 X;have z:∀{W:bo}{Sm:Option (jq×aP)},W (fL To i (.lst r) X d y E Tt Q Tv T O)=Sm->bh (bS 2<|a3 2 G.nI<|ai (ah 0)<|ai (ah 1) ay) (bh (bS 3<|a3 2 G.pC<|ai (ah 2)<|ai (ag<|aA<|.int 16) ay)<|bh (bS 4<|ac bD (ah 3)<|ag<|a3 2 G.ei<|ai (ah 2)<|ai (ag<|bT cH<|ai (ah 3) ay) ay)<|bh (e4 (b8<|ag<|ac du (ag<|ec<|ai (ah 4) ay)<|ag<|cm 1 [3] (b8<|ag<|a3 1 G.ip<|ai (ah 4) ay) (a9 0) (G.r3 m bb B)<|G.tk m bb B) (a9 5)<|G.su m bb B) W) [To,i,Tp,Tj,S8,Td,y,E,Tt,Q,Tv,T]=Sm:=λg1=>by
  have mv:ac du (ag<|ec<|ai (ah 4) ay) (ag<|cm 1 [3] (b8<|ag<|a3 1 G.ip<|ai (ah 4) ay) (a9 0) (G.r3 m bb B)<|G.tk m bb B) (fL To i (.lst r) X d y E Tt Q Tv T Td)=Z (aU (d::SS),fL To i (.lst r) X d y E Tt Q Tv T Td):=cx (aY<|C_ (bz rfl rfl) rfl (hN rfl) rfl) (aY dG) rfl rfl ad;exact bH (So:=[To,i,Z<|.lst f2,Tj,S8,Td,y,E,Tt,Q,Tv,T]) (jc (bO (Sy:=[.aH 0,.aH 1]) rfl rfl rfl fn rfl) (fs rfl) rfl)
   (bH (So:=[To,i,Z<|.lst f4,Z<|aB X,S8,Td,y,E,Tt,Q,Tv,T]) (jc (bO (Sy:=[.aH 2,.bY<|aJ 16]) rfl rfl rfl fr rfl) (fs rfl) rfl)
   (bH (So:=fL To i (.lst r) X d y E Tt Q Tv T Td) (jc (rh (S3:=[To,i,Z<|.lst r,Z<|aB X,S8,Td,y,E,Tt,Q,Tv,T]) rfl (hD<|bO (Sy:=[.aH 2,.bY<|aJ (X.length:Int)]) (bz rfl<|bz (aY<|dh (bz rfl rfl) rfl gt) rfl) rfl rfl f0 rfl) rfl rfl f8) (fs rfl) rfl)
   (bH (gS (n:=Y) (w:=(d::SS).map aa) (So:=fL To i (.lst r) X d y E Tt Q Tv T Td) (rO mv rfl) ge rfl) g1)))
 unfold s8;rcases two with bi|⟨x,b,am,u,as,nb,bi⟩
 ·exact⟨_,_,_,_,_,_,_,_,_,_,_,_,z<|bH (So:=fL To i (.lst P) X d (Z<|.im .aV) E Tt Q Tv T O) (jc (bO (Sy:=[.aH 2,.aH 3]) rfl rfl rfl bi rfl) (fs rfl) rfl)<|eT (So:=fL To i (.lst P) X d (Z<|.im .aV) E Tt Q Tv T O) rfl rfl,rfl⟩
 ·have g2:=DP ca am u;let⟨e,F,g3,S,bm,ce,cI,he,np,free⟩:=Qn up (by omega) am u as nb g2;have da:=cI.da;have ns:=j_.mpr ce;have TS:=S.n;let⟨l,Sm,rfl⟩:=ti (show F≠[] from λbv=>by rw[bv,ju]at TS;omega);have ch:jR X Sm:=⟨by rw[dA]at da;omega,λv a1=>cI.ne v<|.tail _ a1,λv a1=>cI.len v<|.tail _ a1,λv a1=>cI.cU v<|.tail _ a1⟩;have wp:=j_.mpr (cI.ne l<|.head _);have hf:=he l (.head _);let⟨f,nw,hm,hw,of,ci⟩:=gX (s:=4) (M:=(e.length:Int)) cd (by omega) (by omega);let⟨A,ok,h0,ii,ol,cl⟩:=gX (s:=3) (M:=((l::Sm).length:Int)) ci (by rw[dA];omega) (by omega);let⟨J,on,io,it,op,jp⟩:=gX (s:=2) (M:=(l.length:Int)) cl (by omega) (by omega);let⟨H,rfl⟩:=ci.lst;let⟨an,rfl⟩:=cl.lst;let⟨a2,rfl⟩:=jp.lst;let⟨f,rfl⟩:=v7 hw;let⟨A,rfl⟩:=v7 ii;let⟨J,rfl⟩:=v7 it;have Te:=wh (C:=e.map aa) (q:=f) (by rw[bu];omega);have Tf:=wh (C:=(l::Sm).map aL) (q:=A) (by rw[bu];omega);have kt:=wh (C:=l.map aa) (q:=J) (by rw[bu];omega);have kw:fv m bb B [aB X,.im<|aa x,.im<|aa b,aB e,.im<|.tup<|(l::Sm).map aL]=Z (.im<|.au V,[aB X,.im<|aa x,.im<|aa b,aB e,.im<|.tup<|(l::Sm).map aL]):=by
   let⟨I,a,j⟩:=Ge (bb:=bb) (B:=B) L al am u as nb (e:=e) (by omega) cI;rw[j.mpr S]at a;exact a
  let R:Option ak:=Z (.im<|.tup [aa x,aa b])
  let⟨bd,bg⟩:=pV (SY:=a9 9) (N:=DJ m bb B) (k:=tn To i (.lst H) X x b R e (l::Sm) Tv T) (λ_ U=>rfl) (iq (e.map aa) f) Q λp hd=>
   eT (bV (cx (aY (bO (Sy:=[.aH 3,.aH 4,.aH 5,.aH 9,.aH 8]) rfl rfl rfl (Mz L al am u as nb S bm ce cI (by omega) free hd) rfl)) rfl rfl rfl<|rV aq)) rfl;let⟨bn,bx⟩:=pV (SY:=a9 9) (N:=Dv m bb B) (k:=tn To i (.lst an) X x b R e (l::Sm) (Z<|.im<|aL l) (Z<|.im<|.tup<|Sm.map aL)) (λ_ U=>rfl) (iq ((l::Sm).map aL) A) bd λp hd=>
   eT (bV<|cx (aY<|bO (Sy:=[.aH 3,.aH 4,.aH 5,.aH 7,.aH 9]) rfl rfl rfl (K2 al am u as nb bm cI (s_ _ _) hd) rfl) rfl rfl rfl<|rV aq) rfl;let⟨lc,lf⟩:=pV (SY:=a9 9) (N:=Cc m bb B) (k:=tn To i (.lst a2) X x b R e (l::Sm) (Z<|.im<|aL l) (Z<|.im<|.tup<|Sm.map aL)) (λ_ U=>rfl) (iq (l.map aa) J) bn λp hd=>by
   have li:du (.im<|.tup [p]) (.im<|.tup<|Sm.map aL)=Z (.im<|.tup (p::Sm.map aL)):=vc (by rw[bu,fi];have:=ch.da;omega);exact eT (bV<|cx (aY<|bO (Sy:=[.aH 3,.aH 4,.aH 5,.aH 7,.bY<|.im<|.tup (p::Sm.map aL)]) (bz rfl<|bz rfl<|bz rfl<|bz rfl<|bz (aY<|cx (aY<|vB (bz rfl rfl) rfl (hN rfl) rfl) rfl rfl rfl li) rfl) rfl rfl (M1 L al am u as nb bm ch hf hd) rfl) rfl rfl rfl<|rV aq) rfl
  have lm:cH [aB e]=Z (aJ (e.length:Int)):=j9 e;have ln:cH [.im (.tup<|(l::Sm).map aL)]=Z (aJ ((l::Sm).length:Int)):=by
   show Z (ak.im<|.int (((l::Sm).map aL).length:Int))=_;rw[bu]
  have ls:cH [.im (aL l)]=Z (aJ (l.length:Int)):=j9 l;have lv:bD (.im<|.tup<|(l::Sm).map aL) (aJ 0)=Z (.im<|aL l):=by
   show (dx ((l::Sm).map aL) 0).map ak.im=_;rw[oP (jJ 0) (p:=aL l) rfl];rfl
  have lw:kg (.im<|.tup<|(l::Sm).map aL) (Z 1) Y=Z (.im<|.tup<|Sm.map aL):=by
   show Z (ak.im<|.tup<|fj ((l::Sm).map aL) (Z ((1:Nat):Int)) Y)=_;rw[wb];rfl
  let Tw (o:List ab) (Tv T Q:Option ak):aP:=tn To i (.lst o) X x b R e (l::Sm) Tv T Q
  have mb:∀{Tv T Q:Option ak},a3 2 G.k7 (ai (ah 7)<|ai (ag<|a3 2 G.ei<|ai (ah 2)<|ai (ag<|bT cH<|ai (ah 7) ay) ay) ay) (Tw P Tv T Q)=Z (.lst<|iq (e.map aa) f,Tw H Tv T Q):=λ{Tv T Q}=>bO (Sy:=[.aH 7,.bY<|aJ (f:Int)]) (So:=Tw H Tv T Q) (j8 rfl<|j8 (hD<|bO (Sy:=[.aH 2,.bY<|aJ (e.length:Int)]) (bz rfl<|bz (aY<|dh (bz rfl rfl) rfl lm) rfl) rfl rfl hm rfl) rfl) rfl rfl Te rfl;have mo:∀{Tv T Q:Option ak},a3 2 G.k7 (ai (ah 8)<|ai (ag<|a3 2 G.ei<|ai (ah 2)<|ai (ag<|bT cH<|ai (ah 8) ay) ay) ay) (Tw H Tv T Q)=Z (.lst<|iq ((l::Sm).map aL) A,Tw an Tv T Q):=λ{Tv T Q}=>bO (Sy:=[.aH 8,.bY<|aJ (A:Int)]) (So:=Tw an Tv T Q) (j8 rfl<|j8 (hD<|bO (Sy:=[.aH 2,.bY<|aJ ((l::Sm).length:Int)]) (bz rfl<|bz (aY<|dh (bz rfl rfl) rfl ln) rfl) rfl rfl h0 rfl) rfl) rfl rfl Tf rfl;have ms:∀{T Q:Option ak},a3 2 G.k7 (ai (ah 10)<|ai (ag<|a3 2 G.ei<|ai (ah 2)<|ai (ag<|bT cH<|ai (ah 10) ay) ay) ay) (Tw an (Z<|.im<|aL l) T Q)=Z (.lst<|iq (l.map aa) J,Tw a2 (Z<|.im<|aL l) T Q):=λ{T Q}=>bO (Sy:=[.aH 10,.bY<|aJ (J:Int)]) (So:=Tw a2 (Z<|.im<|aL l) T Q) (j8 rfl<|j8 (hD<|bO (Sy:=[.aH 2,.bY<|aJ (l.length:Int)]) (bz rfl<|bz (aY<|dh (bz rfl rfl) rfl ls) rfl) rfl rfl io rfl) rfl) rfl rfl kt rfl;refine⟨_,_,_,_,_,_,_,_,_,_,_,_,z<|bH (So:=fL To i (.lst P) X d R E Tt Q Tv T O) (jc (bO (Sy:=[.aH 2,.aH 3]) rfl rfl rfl bi rfl) (fs rfl) rfl) (fC (So:=fL To i (.lst P) X d R E Tt Q Tv T O) rfl
   (bH (So:=[To,i,Z<|.lst P,Z<|aB X,Z<|.im<|aa x,Z<|.im<|aa b,R,E,Tt,Q,Tv,T]) (og rfl rfl)
   (bH (So:=Tw P Tv T Q) (og (bO (Sy:=[.aH 3,.aH 4,.aH 5]) rfl rfl rfl g3 rfl) rfl)
   (bH (So:=Tw H Tv T bd) (gS (n:=Y) (w:=iq (e.map aa) f) (So:=Tw H Tv T Q) (rO mb rfl) bg rfl)
   (bH (So:=Tw H (Z<|.im<|aL l) T bd) (j2 (ef lv) (fs rfl) rfl)
   (bH (So:=Tw H (Z<|.im<|aL l) (Z<|.im<|.tup<|Sm.map aL) bd) (j2 (zj rfl rfl rfl rfl lw) (fs rfl) rfl)
   (bH (So:=Tw an (Z<|.im<|aL l) (Z<|.im<|.tup<|Sm.map aL) bn) (gS (n:=Y) (w:=iq ((l::Sm).map aL) A) (So:=Tw an (Z<|.im<|aL l) (Z<|.im<|.tup<|Sm.map aL) bd) (rO mo rfl) bx rfl)
   (bH (So:=Tw a2 (Z<|.im<|aL l) (Z<|.im<|.tup<|Sm.map aL) lc) (gS (n:=Y) (w:=iq (l.map aa) J) (So:=Tw a2 (Z<|.im<|aL l) (Z<|.im<|.tup<|Sm.map aL) bn) (rO ms rfl) lf rfl)
   (eT (bV<|cx (aY<|bO (Sy:=[.aH 3,.aH 4,.aH 5,.aH 7,.aH 8]) rfl rfl rfl kw rfl) rfl rfl rfl<|rV V) rfl))))))))),rfl⟩
end
def Je(m bb B:af)(SN:List Int)(g:SN.length<100000):∃G,o3 m bb B [.dr (SN.map .int)]=Z (.im<|.au V,G):=by
 let⟨SG,d,S5,Tp,Tj,S8,Td,y,E,Tt,Q,Tv,T,rfl⟩:=w2 (SY:=a9 1) (b:=s8 m bb B) (w:=gk 0 3) (λj k=>∃S5 Tp Tj S8 Td y E Tt Q Tv T,k=[Z (.dr<|SN.map .int),S5,Tp,Tj,S8,Td,y,E,Tt,Q,Tv,T]) (k:=[Z (.dr<|SN.map .int),Y,Y,Y,Y,Y,Y,Y,Y,Y,Y,Y]) ⟨Y,Y,Y,Y,Y,Y,Y,Y,Y,Y,Y,rfl⟩
  (λj f k c e=>by
   let⟨S5,Tp,Tj,S8,Td,y,E,Tt,Q,Tv,T,rfl⟩:=e;obtain⟨Sq,rfl⟩:j<3/\f=.int (0+(j:Int)):=by
    match j,c with
    |0,c=>exact⟨by decide,(Option.some.inj c).symm⟩
    |1,c=>exact⟨by decide,(Option.some.inj c).symm⟩
    |2,c=>exact⟨by decide,(Option.some.inj c).symm⟩
    |s+3,c=>cases c
   let⟨S3,h,Tz,i,l,o,p,r,t,u,v,x,a,rfl⟩:=QU (m:=m) (bb:=bb) (B:=B) (SN:=SN) (q:=0+(j:Int)) (Tp:=Tp) (Tj:=Tj) (S8:=S8) (Td:=Td) (y:=y) (E:=E) (Tt:=Tt) (Q:=Q) (Tv:=Tv) (T:=T) (by omega) (by omega);exact⟨[Z (.dr<|SN.map .int),Z<|aJ<|0+(j:Int),Tp,Tj,S8,Td,y,E,Tt,Q,Tv,T],.aX,_,rfl,a,.inl rfl,_,_,_,_,_,_,_,_,_,_,_,rfl⟩)
 refine⟨[.dr (SN.map .int)],?_⟩;unfold o3 DB;exact cK (k:=[Z (.dr<|SN.map .int),S5,Tp,Tj,S8,Td,y,E,Tt,Q,Tv,T]) rfl (bH (gS (n:=Y) (w:=gk 0 3) (So:=[Z (.dr<|SN.map .int),Y,Y,Y,Y,Y,Y,Y,Y,Y,Y,Y]) rfl d rfl) rfl) rfl
end G
namespace L2
end L2
namespace L2
open Spec PyProof.Rows
section
variable{e:aK}{SR:List Nat}{Tw:aS->ax->Prop}{u:hQ}
def JP{a:a_}{cR:List bQ}{SD:cn}(b:rW e SR Tw a (kG u))(c:mg a Y SD.line e.env=pure aq:=by rfl):i7 e SR Tw (.Expr a SD::cR) (kG u):=
 n7 (uH (DF b c)<|uA cR) λ_ X X l=>l
end
end L2
set_option maxHeartbeats 4000000
namespace K35
open L2 PyProof.Rows
variable{t n i x:af}{H:PySem.W.OpenLaw}{g:eR}{q:Nat}{O:bp}
def d8(j:Nat):bQ:=(PySem.Challenge.pw_mowfloor_k35_bars_of_anything.main.body.getD j (.Pass ⟨0,0,0,0⟩))
structure dT(aw:aC->Option ae):Prop where
 LN:aw "ValueError" = Y
 lR:aw "all" = Y
 OU:aw "bool" = Y
 F1:aw "dict" = Y
 FE:aw "int" = Y
 jL:aw "isinstance" = Y
 fJ:aw "len" = Y
 Ob:aw "list" = Y
 ML:aw "max" = Y
 Rk:aw "min" = Y
 qh:aw "range" = Y
 PO:aw "reversed" = Y
 vK:aw "sorted" = Y
 jt:aw "tuple" = Y
 vr:aw "zip" = Y
 zo:∃I,aw "GREATEST" = Z (.int 30 I)
 nS:∃I,aw "IN" = Z (.str "in" I)
 tW:∃I,aw "OUT" = Z (.str "out" I)
def MX:eB "ValueError" = Z (.type "ValueError"):=by decide +kernel
def la:eB "all" = Z (.builtin "all"):=by decide +kernel
def Q0:eB "bool" = Z (.type "bool"):=by decide +kernel
def ES:eB "dict" = Z (.type "dict"):=by decide +kernel
def Dn:eB "int" = Z (.type "int"):=by decide +kernel
def jD:eB "isinstance" = Z (.builtin "isinstance"):=by decide +kernel
def fK:eB "len" = Z (.builtin "len"):=by decide +kernel
def Iy:eB "list" = Z (.type "list"):=by decide +kernel
def M3:eB "max" = Z (.builtin "max"):=by decide +kernel
def MT:eB "min" = Z (.builtin "min"):=by decide +kernel
def vO:eB "sorted" = Z (.builtin "sorted"):=by decide +kernel
def jC:eB "tuple" = Z (.type "tuple"):=by decide +kernel
def cc(a:d_ q O):O.units+20<b7:=by have:=a.un;omega
def AE(a:d_ q O):O.units+30<b7:=by have:=a.un;omega
abbrev x_:bQ:=d8 2
abbrev Hc:List aC:=["thing"]
abbrev nk:bQ:=d8 3
abbrev LZ:List aC:=["thing"]
abbrev ux:bQ:=d8 4
abbrev Mh:List aC:=["field","thing"]
abbrev jw:bQ:=d8 5
abbrev IJ:List aC:=["thing"]
abbrev tC:bQ:=d8 6
abbrev OC:List aC:=["thing","is_kind"]
abbrev ox:bQ:=d8 16
abbrev P6:List aC:=["thing"]
abbrev r6:bQ:=d8 6
abbrev GR:List aC:=["thing","is_kind"]
abbrev sr:bQ:=d8 6
abbrev IV:List aC:=["thing","is_kind"]
abbrev o4:bQ:=d8 7
abbrev KI:List aC:=["things","found","thing"]
abbrev oR:bQ:=d8 8
abbrev Q1:List aC:=["cell","row","column"]
abbrev tx:bQ:=d8 9
abbrev IS:List aC:=["free","start","found","waiting","cell"]
abbrev ta:bQ:=d8 11
abbrev Ox:List aC:=["thing"]
abbrev qR:bQ:=d8 12
abbrev GZ:List aC:=["thing"]
abbrev uQ:bQ:=d8 14
abbrev RL:List aC:=["field","thing","free"]
abbrev te:bQ:=d8 17
abbrev Nf:List aC:=["field","a","b"]
abbrev rb:bQ:=d8 18
abbrev Fs:List aC:=["field","a","b","cells","shut"]
abbrev sX:bQ:=d8 19
abbrev Lf:List aC:=["field","a","b","ways","met","way"]
abbrev tf:bQ:=d8 20
abbrev RJ:List aC:=["field","a","b","cells","ways"]
abbrev sP:bQ:=d8 34
abbrev DL:List aC:=["ahead","spot","cell"]
abbrev s7:bQ:=d8 35
abbrev Nn:List aC:=["ahead","a","start","came","layer","behind","spot","further"]
abbrev tU:bQ:=d8 36
abbrev GW:List aC:=["ahead","came","last","spot"]
abbrev tw:bQ:=d8 37
abbrev QR:List aC:=["ahead","a","last","way"]
abbrev kA:bQ:=d8 38
abbrev sQ:List aC:=["field","a","b","ahead","lasts","came","cells","ways"]
abbrev tS:bQ:=d8 40
abbrev Ng:List aC:=["_law_script","_law_turn","_law_seed","_law_cell","_law_bound"]
abbrev uO:bQ:=d8 41
abbrev G7:List aC:=["_law_left_here","_law_many","_law_digit","_law_mixed"]
abbrev u5:bQ:=d8 42
abbrev OO:List aC:=["_law_cell"]
abbrev xc:bQ:=d8 43
abbrev Ql:List aC:=["_law_some","_law_begin","_law_there","_law_met","_law_waiting","_law_other"]
abbrev za:bQ:=d8 44
abbrev P0:List aC:=["_law_left_here","_law_most","_law_cells","_law_k","_law_other"]
abbrev oF:bQ:=d8 45
abbrev xa:List aC:=["_law_left_here","_law_most","_law_way","_law_wide","_law_high","_law_cells","_law_k","_law_part_here","_law_row","_law_column"]
abbrev pT:bQ:=d8 46
abbrev AI:List aC:=["_law_left_here","_law_field_here","_law_a","_law_some"]
abbrev sq:bQ:=d8 47
abbrev H5:List aC:=["_law_thing","_law_at","_law_odd_here","_law_some","_law_one"]
abbrev vf:bQ:=d8 48
abbrev Nm:List aC:=["_law_field_here","_law_a","_law_b","_law_caught","e"]
abbrev uM:bQ:=d8 49
abbrev Cw:List aC:=["_law_script","_law_turn","_law_left_here","_law_field_here","_law_a","_law_b","_law_two","_law_cells","_law_ways","_law_some","_law_way","_law_rest"]
section
variable{S:bl}{l:a8}{Q:Φ}{aw:aC->Option ae}{Sz:a0}
abbrev zZ(g:eR)(x:af):Prop:=fp g 1 "is_whole" x_ x ["thing"] 1 G.oL
def H8(L:dd g.K g.aw "is_whole" x_ x ["thing"])(F:dT g.aw):zZ g x:=by
 refine d5 Hc L λao S7 O S2 m h Sn a=>?_;exact (bJ<|cM<|g5 (eU<|mZ rfl F.jL jD rfl F.FE Dn<|ar 0)<|eU<|lA<|Mv<|eU<|mZ rfl F.jL jD rfl F.OU Q0<|ar 0)
abbrev vg(g:eR)(x:af):Prop:=fp g 2 "is_pair" nk x ["thing"] 1 G.iQ
def Gt(L:dd g.K g.aw "is_pair" nk x ["thing"])(F:dT g.aw){c:af}(b:zZ g c):vg g x:=by
 refine d5 LZ L λao S7 O S2 m h Sn a=>?_;exact (bJ<|cM<|g5 (eU<|mZ rfl F.jL jD rfl F.jt jC<|ar 0)<|g5 (eU<|iw (hx<|cc a) (aM<|dY gc F.fJ fK<|bj<|ar 0) a4<|dS _)<|g5 (eU<|bW b a<|bj<|dc a (ar 0) a4)<|eU<|lA<|bW b a<|bj<|dc a (ar 0) a4)
abbrev Nh(g:eR)(x:af):Prop:=fp g 3 "is_of" ux x ["field","thing"] 2 G.mP
def OF(L:dd g.K g.aw "is_of" ux x ["field","thing"])(F:dT g.aw){b:af}(c:vg g b):Nh g x:=by
 refine d5 Mh L λao S7 O S2 m h Sn a=>?_;exact (bJ<|cM<|g5 (eU<|bW c a<|bj<|ar 1)<|eU<|lA<|iw (iX<|cc a) (ar 1) (ar 0) rfl)
abbrev H3(g:eR)(x:af):Prop:=fp g 3 "is_cell" jw x ["thing"] 1 G.jd
def HV(L:dd g.K g.aw "is_cell" jw x ["thing"])(F:dT g.aw){b:af}(c:vg g b):H3 g x:=by
 refine d5 IJ L λao S7 O S2 m h Sn a=>?_;exact (bJ<|cM<|g5 (eU<|bW c a<|bj<|ar 0)<|g5 (eU<|Ap l5 l5 a4 (dc a (ar 0) a4)<|aM<|zU rfl F.zo.choose_spec)<|eU<|lA<|Ap l5 l5 a4 (dc a (ar 0) a4)<|aM<|zU rfl F.zo.choose_spec)
def PE(L:dd Q aw "is_rising" tC x ["thing","is_kind"])(F:dT aw){b:af}(aI:b5 S l Q aw Sz 3 "is_cell" jw b ["thing"] 1 G.jd):
  b5 S l Q aw Sz 4 "is_rising" tC x ["thing","is_kind"] 2 (G.rE b):=by
 refine d5 OC L λao S7 O S2 m h Sn c=>?_;exact (bB (eE (eY.gO<|hy (hs<|gw<|aM<|mZ rfl F.jL jD rfl F.jt jC<|ar 0)<|i2<|hs<|gw<|aM<|dY (lH rfl) F.lR la<|bj<|aM<|iA ["part"] [1] (eN<|ar 0) (λa=>(e2 0))<|λa=>(xt aI c (c4 1)<|bj<|ar 0)) (bJ<|cM ea) eQ)<|bJ<|cM<|dY (lH rfl) F.lR la<|bj<|aM<|iA ["ahead" ,"behind"] [] (sl rfl F.vr<|bU (ar 0)<|aM<|k_ (ar 0) (j3 gs) mq) (λa=>(oe (e2 0)<|e2 1))<|λa=>(iw (wo<|cc c) (ar 0) (ar 1)<|dS _))
abbrev Io(g:eR)(x:af):Prop:=fp g 3 "is_way_like" ox x ["thing"] 1 G.lx
def M_(L:dd g.K g.aw "is_way_like" ox x ["thing"])(F:dT g.aw){a:af}(b:vg g a):Io g x:=by
 refine d5 P6 L λao S7 O S2 m h Sn c=>?_;exact (bJ<|cM<|g5 (eU<|mZ rfl F.jL jD rfl F.jt jC<|ar 0)<|eU<|lA<|dY (lH rfl) F.lR la<|bj<|aM<|iA ["part"] [] (eN<|ar 0) (λd=>(e2 0))<|λd=>(bW b c<|bj<|ar 0))
def Jn(L:dd Q aw "is_rising" r6 x ["thing","is_kind"])(F:dT aw){b:af}(d:b5 S l Q aw Sz 3 "is_way_like" ox b ["thing"] 1 G.lx):
  b5 S l Q aw Sz 4 "is_rising" r6 x ["thing","is_kind"] 2 (G.j0 b):=by
 refine d5 GR L λao S7 O S2 m h Sn c=>?_;exact (bB (eE (eY.gO<|hy (hs<|gw<|aM<|mZ rfl F.jL jD rfl F.jt jC<|ar 0)<|i2<|hs<|gw<|aM<|dY (lH rfl) F.lR la<|bj<|aM<|iA ["part"] [1] (eN<|ar 0) (λa=>(e2 0))<|λa=>(xt d c (c4 1)<|bj<|ar 0)) (bJ<|cM ea) eQ)<|bJ<|cM<|dY (lH rfl) F.lR la<|bj<|aM<|iA ["ahead" ,"behind"] [] (sl rfl F.vr<|bU (ar 0)<|aM<|k_ (ar 0) (j3 gs) mq) (λa=>(oe (e2 0)<|e2 1))<|λa=>(iw (wo<|cc c) (ar 0) (ar 1)<|dS _))
def G3(L:dd Q aw "is_rising" sr x ["thing","is_kind"])(F:dT aw){b:af}(d:b5 S l Q aw Sz 2 "is_pair" nk b ["thing"] 1 G.iQ):
  b5 S l Q aw Sz 3 "is_rising" sr x ["thing","is_kind"] 2 (G.kd b):=by
 refine d5 IV L λao S7 O S2 m h Sn c=>?_;exact (bB (eE (eY.gO<|hy (hs<|gw<|aM<|mZ rfl F.jL jD rfl F.jt jC<|ar 0)<|i2<|hs<|gw<|aM<|dY (lH rfl) F.lR la<|bj<|aM<|iA ["part"] [1] (eN<|ar 0) (λa=>(e2 0))<|λa=>(xt d c (c4 1)<|bj<|ar 0)) (bJ<|cM ea) eQ)<|bJ<|cM<|dY (lH rfl) F.lR la<|bj<|aM<|iA ["ahead" ,"behind"] [] (sl rfl F.vr<|bU (ar 0)<|aM<|k_ (ar 0) (j3 gs) mq) (λa=>(oe (e2 0)<|e2 1))<|λa=>(iw (wo<|cc c) (ar 0) (ar 1)<|dS _))
abbrev Ep(g:eR)(x:af):Prop:=fp g 1 "lookup" o4 x ["things"] 1 G.gv
def MC(L:dd g.K g.aw "lookup" o4 x ["things"])(F:dT g.aw):Ep g x:=by
 refine d5 KI L λao S7 O S2 m h Sn a=>?_;exact (bB (dp 1 ao x4) (bB (hG (Tn:=[0]) fM rfl (eN<|ar 0) (gi 2 ao) (bJ<|jF ea<|mw (c4 1) (fm<|c4 2)<|rQ<|cc a) ∅ (sV ∅))<|bJ<|cM<|fm<|c4 1))
abbrev sy(g:eR)(x:af):Prop:=fp g 1 "around" oR x ["cell"] 1 G.ha
def Ho(L:dd g.K g.aw "around" oR x ["cell"])(F:dT g.aw):sy g x:=by
 refine d5 Q1 L λao S7 O S2 m h Sn a=>?_;exact (bB (dp 1 ao<|iz a (ar 0) a4) (bB (dp 2 ao<|iz a (ar 0) a4) (bJ (cM (e3 (by exact (de (el (by exact (bU (cZ uV (ar 1) a4)<|ar 2))) (by exact (fz (el (by exact (bU (ar 1)<|cZ uV (ar 2) a4))) (el (by exact (bU (ar 1)<|cZ e7 (ar 2) a4))) (el (by exact (bU (cZ e7 (ar 1) a4)<|ar 2))))))))))))
abbrev A0(g:eR)(x:af):Prop:=fp g 2 "reached" tx x ["free","start"] 2 G.oh
def HE(L:dd g.K g.aw "reached" tx x ["free","start"])(F:dT g.aw){b:af}(c:sy g b):A0 g x:=by
 refine d5 IS L λao S7 O S2 m h Sn a=>?_;exact (bB (dp 2 ao<|wF (cc a) (fm<|c4 1) ea) (bB (dp 3 ao (e3 (by exact (bj<|ar 1)))) (bB (pv 1000000 fM (gw<|ar 3) (bJ (hG (Tn:=[0,1]) fM rfl (eN<|aM<|bW c a<|bj<|aM<|Fp ki kh w3 v5 FP<|c4 3) (gi 4 ao) (bJ<|eE (eY.gO<|oC (c7 (iX<|cc a) (ar 4) (ar 0) rfl)<|q8<|c7 (lp<|cc a) (ar 4) (ar 2) rfl) (bB (jF ea<|mw (c4 2) (fm<|c4 4)<|rQ<|cc a)<|bJ<|lq<|mW ki kh o7 pO ob (c4 3)<|bj<|ar 4) eQ) ∅ me)))<|bJ<|cM<|kV rd rfl F.jt jC<|bj<|aM<|dY (zg rfl<|cc a) F.vK vO<|bj<|ar 2)))
def LX(L:dd Q aw "is_floor" ta x ["thing"])(F:dT aw){a:af}(aI:b5 S l Q aw Sz 3 "is_cell" jw a ["thing"] 1 G.jd){b:af}(c:b5 S l Q aw Sz 4 "is_rising" tC b ["thing","is_kind"] 2 (G.rE a)):
  b5 S l Q aw Sz 5 "is_floor" ta x ["thing"] 1 (G.rG a):=by
 refine d5 Ox L λao S7 O S2 m h Sn d=>?_;exact (bJ<|cM<|bW c d<|bU (ar 0)<|aM<|kv rfl aI.m)
def J5(L:dd Q aw "is_field" qR x ["thing"])(F:dT aw){b:af}(aI:b5 S l Q aw Sz 3 "is_cell" jw b ["thing"] 1 G.jd){c:af}(d:b5 S l Q aw Sz 5 "is_floor" ta c ["thing"] 1 (G.rG b)){e:af}(f:b5 S l Q aw Sz 2 "reached" tx e ["free","start"] 2 G.oh){g:af}(i:b5 S l Q aw Sz 1 "lookup" o4 g ["things"] 1 G.gv):
  b5 S l Q aw Sz 6 "is_field" qR x ["thing"] 1 (G.eI b):=by
 refine d5 GZ L λao S7 O S2 m h Sn a=>?_;exact (bB (eE (eY.gO<|hy (hs<|gw<|aM<|bW d a<|bj<|ar 0)<|i2<|c7 (hx<|cc a) (aM<|dY gc F.fJ fK<|bj<|ar 0) a4<|dS _) (bJ<|cM ea) eQ)<|bJ<|cM<|iw (hx<|cc a) (aM<|dY gc F.fJ fK<|bj<|aM<|bW f a<|bU (aM<|bW i a<|bj<|ar 0)<|dc a (ar 0) a4) (aM<|dY gc F.fJ fK<|bj<|ar 0)<|dS _)
def Le(L:dd Q aw "is_walk" uQ x ["field","thing"])(F:dT aw){b:af}(aI:b5 S l Q aw Sz 3 "is_cell" jw b ["thing"] 1 G.jd){d:af}(e:b5 S l Q aw Sz 6 "is_field" qR d ["thing"] 1 (G.eI b)){f:af}(g:b5 S l Q aw Sz 1 "lookup" o4 f ["things"] 1 G.gv){i:af}(k:b5 S l Q aw Sz 2 "is_pair" nk i ["thing"] 1 G.iQ){n:af}(o:b5 S l Q aw Sz 1 "around" oR n ["cell"] 1 G.ha):
  b5 S l Q aw Sz 7 "is_walk" uQ x ["field","thing"] 2 (G.nf b):=by
 refine d5 RL L λao S7 O S2 m h Sn a=>?_;exact (bB (eE (eY.gO<|hy (hs<|gw<|aM<|bW e a<|bj<|ar 0)<|hy (hs<|gw<|aM<|mZ rfl F.jL jD rfl F.jt jC<|ar 1)<|i2<|c7 (hx<|cc a) (aM<|dY gc F.fJ fK<|bj<|ar 1) a4<|dS _) (bJ<|cM ea) eQ) (bB (kJ (j:=2) ao rfl (Or.inr rfl) (bW g a<|bj<|ar 0) ∅)<|bB (eE (hs<|gw<|aM<|dY (lH rfl) F.lR la<|bj<|aM<|iA ["cell"] [2] (eN<|ar 1) (λc=>(e2 0))<|λc=>(g5 (eU<|bW k a<|bj<|ar 0)<|eU<|lA<|iw (iX<|cc a) (ar 0) (ar 1) rfl)) (bJ<|cM ea) eQ)<|bJ<|cM<|dY (lH rfl) F.lR la<|bj<|aM<|iA ["ahead" ,"behind"] [] (sl rfl F.vr<|bU (ar 1)<|aM<|k_ (ar 1) (j3 gs) mq) (λc=>(oe (e2 0)<|e2 1))<|λc=>(iw (iX<|cc a) (ar 1) (aM<|bW o a<|bj<|ar 0) rfl)))
def M5(L:dd Q aw "can_be_barred" te x ["field","a","b"])(F:dT aw){b:af}(aI:b5 S l Q aw Sz 3 "is_cell" jw b ["thing"] 1 G.jd){d:af}(e:b5 S l Q aw Sz 6 "is_field" qR d ["thing"] 1 (G.eI b)){f:af}(c:b5 S l Q aw Sz 3 "is_of" ux f ["field","thing"] 2 G.mP){g:af}(i:b5 S l Q aw Sz 1 "around" oR g ["cell"] 1 G.ha):
  b5 S l Q aw Sz 7 "can_be_barred" te x ["field","a","b"] 3 (G.lF b):=by
 refine d5 Nf L λao S7 O S2 m h Sn a=>?_;exact (bJ<|cM<|g5 (eU<|bW e a<|bj<|ar 0)<|g5 (eU<|bW c a<|bU (ar 0)<|ar 1)<|g5 (eU<|bW c a<|bU (ar 0)<|ar 2)<|g5 (eU<|iw (pz<|cc a) (ar 1) (ar 2)<|dS _)<|eU<|lA<|iw (lp<|cc a) (ar 2) (aM<|bW i a<|bj<|ar 1) rfl)
abbrev MK(g:eR)(x:af):Prop:=fp g 3 "do_bar" rb x ["field","a","b","cells"] 4 G.mY
def I4(L:dd g.K g.aw "do_bar" rb x ["field","a","b","cells"])(F:dT g.aw){d:af}(b:Ep g d){e:af}(f:A0 g e):MK g x:=by
 refine d5 Fs L λao S7 O S2 m h Sn a=>?_;exact (bB (kJ (j:=4) ao rfl (Or.inr rfl) (bW b a<|bj<|ar 3) ∅) (bB (eE (eY.gO<|hy (c7 (iX<|cc a) (ar 1) (ar 4) rfl)<|i2<|c7 (iX<|cc a) (ar 2) (ar 4) rfl) (bJ<|cM ea) eQ) (bJ (cM (iw (lp<|cc a) (ar 2) (aM (bW f a (bU (aM (bW b a (bj (aM (ve (own:=["cell"]) (SX:=[4]) rfl (ll (c9 rb) Fs (by decide +kernel)) ∅ (eN<|ar 0) (λc=>(e2 0)) (λc=>(oZ<|c7 (lp<|cc a) (ar 0) (ar 1) rfl))<|λc=>(fm<|c4 0))))))<|ar 1))) rfl)))))
def PZ(L:dd Q aw "are_ways_apart" sX x ["field","a","b","ways"])(F:dT aw){b:af}(aI:b5 S l Q aw Sz 3 "is_cell" jw b ["thing"] 1 G.jd){c:af}(d:b5 S l Q aw Sz 7 "is_walk" uQ c ["field","thing"] 2 (G.nf b)){e:af}(f:b5 S l Q aw Sz 1 "lookup" o4 e ["things"] 1 G.gv):
  b5 S l Q aw Sz 8 "are_ways_apart" sX x ["field","a","b","ways"] 4 (G.kp b):=by
 refine d5 Lf L λao S7 O S2 m h Sn a=>?_;exact (bB (dp 4 ao (e3 (by exact (bU (ar 1)<|ar 2)))) (bB (hG (Tn:=[0,1,2,3]) fM rfl (eN<|ar 3) (gi 5 ao) (bB (eE (eY.gO<|hy (hs<|gw<|aM<|bW d a<|bU (ar 0)<|ar 5)<|hy (c7 (pz<|cc a) (dc a (ar 5) a4) (ar 1)<|dS _)<|i2<|c7 (pz<|cc a) (dc a (ar 5)<|aM<|ow gs) (ar 2)<|dS _) (bJ<|cM ea) eQ)<|bJ<|lq<|mW ki kh PySem.F.slot_list_extend PySem.F.type_list_extend NA (c4 4)<|bj<|aM<|k_ (ar 5) (j3 gs)<|j3<|ow gs) ∅ (sV ∅))<|bJ<|cM<|iw (hx<|cc a) (aM<|dY Mo F.fJ fK<|bj<|aM<|bW f a<|bj<|ar 4) (aM<|dY gc F.fJ fK<|bj<|ar 4)<|dS _))
def RP(L:dd Q aw "shows_barred" tf x ["field","a","b","cells","ways"])(F:dT aw){b:af}(aI:b5 S l Q aw Sz 3 "is_cell" jw b ["thing"] 1 G.jd){c:af}(e:b5 S l Q aw Sz 2 "is_pair" nk c ["thing"] 1 G.iQ){d:af}(f:b5 S l Q aw Sz 3 "is_way_like" ox d ["thing"] 1 G.lx){g:af}(i:b5 S l Q aw Sz 7 "can_be_barred" te g ["field","a","b"] 3 (G.lF b)){j:af}(k:b5 S l Q aw Sz 3 "is_rising" sr j ["thing","is_kind"] 2 (G.kd c)){n:af}(o:b5 S l Q aw Sz 4 "is_rising" r6 n ["thing","is_kind"] 2 (G.j0 d)){p:af}(q:b5 S l Q aw Sz 3 "do_bar" rb p ["field","a","b","cells"] 4 G.mY){r:af}(s:b5 S l Q aw Sz 8 "are_ways_apart" sX r ["field","a","b","ways"] 4 (G.kp b)):
  b5 S l Q aw Sz 9 "shows_barred" tf x ["field","a","b","cells","ways"] 5 (G.fv b c d):=by
 refine d5 RJ L λao S7 O S2 m h Sn a=>?_;exact (bB (eE (eY.gO<|hy (hs<|gw<|aM<|bW i a<|fz (ar 0) (ar 1)<|ar 2)<|hy (hs<|gw<|aM<|bW k a<|bU (ar 3)<|aM<|kv rfl e.m)<|i2<|hs<|gw<|aM<|bW o a<|bU (ar 4)<|aM<|kv rfl f.m) (bJ<|cM ea) eQ) (bJ (cM (g5 (eU<|iw (hx<|cc a) (aM<|dY gc F.fJ fK<|bj<|ar 3) (aM<|dY gc F.fJ fK<|bj<|ar 4)<|dS _) (g5 (eU (bW q a (de (ar 0) (by exact (fz (ar 1) (ar 2)<|ar 3))))) (eU (lA (bW s a (de (ar 0) (by exact (fz (ar 1) (ar 2)<|ar 4)))))))))))
abbrev Ca(g:eR)(x:af):Prop:=fp g 2 "onward" sP x ["ahead","spot"] 2 G.ov
def Jo(L:dd g.K g.aw "onward" sP x ["ahead","spot"])(F:dT g.aw){c:af}(d:sy g c):Ca g x:=by
 refine d5 DL L λao S7 O S2 m h Sn a=>?_;exact (bB (dp 2 ao<|iz a (ar 1) a4) (bB (eE (c7 (hx<|cc a) (dc a (ar 1) a4) (aM<|jM rfl F.nS.choose_spec)<|dS _) (bJ (cM (e3 (by exact (bj (el (by exact (bU (dc a (ar 0)<|ar 2)<|aM<|jM rfl F.tW.choose_spec)))))))) eQ) (bJ (cM (hu e7 (aM (e3 (by exact (bj (el (by exact (bU (ar 2)<|aM<|jM rfl F.nS.choose_spec))))))) (aM (ve (own:=["beside"]) (SX:=[0]) rfl (ll (c9 sP) DL (by decide +kernel)) ∅ (eN<|aM<|bW d a<|bj<|ar 2) (λb=>(e2 0)) (λb=>(oZ<|c7 (iX<|cc a) (ar 0) (ar 1) rfl)) (λb=>(j7 (by exact (bU (ar 0)<|aM<|jM rfl F.nS.choose_spec)))))))))))
abbrev Dh(g:eR)(x:af):Prop:=fp g 3 "search" s7 x ["ahead","a"] 2 G.pb
def JU(L:dd g.K g.aw "search" s7 x ["ahead","a"])(F:dT g.aw){b:af}(c:Ca g b):Dh g x:=by
 refine d5 Nn L λao S7 O S2 m h Sn a=>?_;exact (bB (dp 2 ao (j7 (by exact (bU (ar 1)<|aM<|jM rfl F.tW.choose_spec)))) (bB (dp 3 ao<|wF (cc a) (fm<|c4 2) nN) (bB (dp 4 ao (e3 (by exact (bj<|ar 2)))) (bB (pv 1000000 fM (gw<|ar 4) (bB (dp 5 ao (e3 (by exact lY))) (bB (hG (Tn:=[4,0,1]) fM rfl (eN<|ar 4) (gi 6 ao) (bJ (hG (Tn:=[4,0,1]) fM rfl (eN<|aM<|bW c a<|bU (ar 0)<|ar 6) (gi 7 ao) (bJ<|eE (c7 (lp<|cc a) (ar 7) (ar 3) rfl) (bB (jF (fm<|c4 6)<|mw (c4 3) (fm<|c4 7)<|rQ<|cc a)<|bJ<|lq<|mW ki kh o7 pO ob (c4 5)<|bj<|ar 7) eQ) ∅ me)) ∅ (sV ∅))<|bJ<|dp 4 ao<|fm<|c4 5)))<|bJ<|cM<|fm<|c4 3))))
abbrev Dd(g:eR)(x:af):Prop:=fp g 1 "lay_way" tU x ["ahead","came","last"] 3 G.n9
def IP(L:dd g.K g.aw "lay_way" tU x ["ahead","came","last"])(F:dT g.aw):Dd g x:=by
 refine d5 GW L λao S7 O S2 m h Sn a=>?_;exact (bB (dp 3 ao (j7 (by exact (bU (ar 2)<|aM<|jM rfl F.tW.choose_spec))))<|bJ<|pv 1000000 fM (c7 nX (dc a (ar 1)<|ar 3) (aM nN)<|dS _)<|bB (eE (c7 (hx<|cc a) (dc a (ar 3) a4) (aM<|jM rfl F.nS.choose_spec)<|dS _) (bJ<|jF (iz a (dc a (ar 1)<|ar 3) a4)<|mw (c4 0) (iz a (ar 3) a4)<|rQ<|cc a) eQ)<|bJ<|dp 3 ao<|iz a (ar 1)<|ar 3)
abbrev zK(g:eR)(x:af):Prop:=fp g 1 "way_back" tw x ["ahead","a","last"] 3 G.nQ
def KX(L:dd g.K g.aw "way_back" tw x ["ahead","a","last"])(F:dT g.aw):zK g x:=by
 refine d5 QR L λao S7 O S2 m h Sn a=>?_;exact (bB (dp 3 ao (e3 (by exact (bj<|ar 2))))<|bB (pv 1000000 fM (c7 (pz<|cc a) (dc a (ar 3)<|aM<|ow gs) (ar 1)<|dS _)<|bJ<|lq<|mW ki kh o7 pO ob (c4 3)<|bj<|dc a (ar 0)<|dc a (ar 3)<|aM<|ow gs)<|bJ<|cM<|fm<|c4 3)
def HN:kj sQ ["field","a","b"] (c9 kA):=Gj
abbrev Fh(g:eR)(x:af):Prop:=fp g 4 "barred" kA x ["field","a","b"] 3 G.pw
def Kt(L:dd g.K g.aw "barred" kA x ["field","a","b"])(F:dT g.aw){d:af}(e:sy g d){f:af}(c:Dh g f){i:af}(k:Dd g i){l:af}(n:zK g l):Fh g x:=by
 refine d5 sQ L λao S7 O S2 m h Sn a=>?_;exact (bB (eE (eY.gO<|hy (c7 (hx<|cc a) (ar 1) (ar 2)<|dS _)<|i2<|c7 (iX<|cc a) (ar 2) (aM<|bW e a<|bj<|ar 1) rfl) (bJ It) eQ) (bB (kJ (j:=3) ao rfl (Or.inr rfl) (kV (FQ rfl<|AE a) rfl F.F1 ES (bj (aM (iA ["cell"] [] (eN<|ar 0) (λb=>(e2 0)) (λb=>(j7 (by exact (bU (ar 0)<|ar 0)))))))) ∅) (bB (dp 4 ao (e3 (by exact lY))) (bB (kJ (j:=5) ao rfl (Or.inr rfl) (bW c a<|bU (ar 3)<|ar 1) ∅) (bB (pv 1000000 fM (c7 (iX<|cc a) (el (by exact (bU (ar 2)<|aM<|jM rfl F.nS.choose_spec))) (ar 5) rfl) (bB (lq (mW ki kh o7 pO ob (c4 4) (bj (dc a (dc a (ar 5) (el (by exact (bU (ar 2)<|aM<|jM rfl F.nS.choose_spec)))) a4)))) (bB (lq<|bW k a<|fz (ar 3) (ar 5)<|dc a (ar 4)<|aM<|ow gs) (bJ (kJ (j:=5) ao rfl (Or.inr rfl) (bW c a<|bU (ar 3)<|ar 1) ∅))))) (bB (p_ (j:=6) (own:=["cell"]) (SX:=[5]) ao rfl (Or.inl rfl) rfl (ll (c9 kA) sQ (by decide +kernel)) ∅ (eN<|ar 0) (λb=>(e2 0)) (λb=>(oZ (eY.gO (oC (c7 (iX<|cc a) (el (by exact (bU (ar 0)<|aM<|jM rfl F.nS.choose_spec))) (ar 1) rfl) (q8 (c7 (lp<|cc a) (el (by exact (bU (ar 0)<|aM<|jM rfl F.tW.choose_spec))) (ar 1) rfl)))))) (λb=>(fm<|c4 0)) ∅) (bB (p_ (j:=7) (own:=["last"]) (SX:=[2,3,1]) ao rfl (Or.inl rfl) rfl (ll (c9 kA) sQ (by decide +kernel)) ∅ (eN<|ar 4) (λb=>(e2 0)) (λb=>y_) (λb=>(G6 rfl F.jt rfl F.PO (bj (cZ e7 (aM (e3 (by exact (bj<|ar 1))))<|aM<|bW n a<|fz (ar 2) (ar 3)<|ar 0)))) ∅) (bJ (cM (j7 (by exact (bU (aM<|kV rd rfl F.jt jC<|bj<|ar 6)<|aM<|kV rd rfl F.jt jC<|bj<|aM<|dY (zg rfl<|cc a) F.vK vO<|bj<|ar 7))))))))))))
def JZ(L:dd Q aw "barred" kA x ["field","a","b"])(F:dT aw){d:af}(e:b5 S l Q aw Sz 1 "around" oR d ["cell"] 1 G.ha){f:af}(n:b5 S l Q aw Sz 3 "search" s7 f ["ahead","a"] 2 G.pb){g:af}(o:b5 S l Q aw Sz 1 "lay_way" tU g ["ahead","came","last"] 3 G.n9){i:af}(p:b5 S l Q aw Sz 1 "way_back" tw i ["ahead","a","last"] 3 G.nQ){b:af}(c:yi Q aw "Near" b):
  tE S l Q aw Sz 4 "barred" kA x ["field","a","b"] 3 (l0 3 8 G.mh) b:=by
 refine QX (SR:=[]) L HN rfl λao S7 O S2 m h Sn a=>?_;exact (N1 (eY.gO<|hy (c7 (hx<|cc a) (ar 1) (ar 2)<|dS _)<|i2<|c7 (iX<|cc a) (ar 2) (aM<|bW e a<|bj<|ar 1) rfl)<|GQ rfl rfl c.1 c.2<|λk y h j=>I0 k y h j)
abbrev JI(g:eR)(x:af):Prop:=fp g 1 "_law_left" tS x ["_law_script","_law_turn"] 2 G.nI
def OG(L:dd g.K g.aw "_law_left" tS x ["_law_script","_law_turn"])(F:dT g.aw):JI g x:=by
 refine d5 Ng L λao S7 O S2 m h Sn a=>?_;exact (bB (dp 2 ao<|hu e7 a4<|cZ kE a4<|ar 1) (bB (hG (Tn:=[0,1]) fM rfl (eN<|aM<|k_ (ar 0) mq<|j3 gs) (gi 3 ao) (bJ<|dp 2 ao<|hu iG (cZ e7 (cZ e7 (cZ kE (ar 2) a4)<|cZ iG (ar 3) a4) a4) a4) ∅ me) (bB (dp 3 ao<|G9 (c7 yY (aM<|dY gc F.fJ fK<|bj<|ar 0) a4<|dS _) (iz a (ar 0)<|cZ iG (ar 1)<|aM<|dY gc F.fJ fK<|bj<|ar 0) gs) (bB (dp 4 ao<|hu kE (cZ kE (cZ uF a4 a4)<|cZ uF a4 a4)<|cZ uF a4 a4) (bJ (cM (e3 (by exact (fz (cZ kE (cZ iG (ar 3)<|ar 4)<|aM<|kV MA rfl F.FE Dn<|bj<|aM<|iw Jx (ar 3) (cZ uF a4 a4)<|dS _) (ar 2) a4)))))))))
abbrev tJ(g:eR)(x:af):Prop:=fp g 1 "_law_pick" uO x ["_law_left_here","_law_many"] 2 G.ei
def LL(L:dd g.K g.aw "_law_pick" uO x ["_law_left_here","_law_many"])(F:dT g.aw):tJ g x:=by
 refine d5 G7 L λao S7 O S2 m h Sn a=>?_;exact (bB (eE (c7 yY (dc a (ar 0) a4) a4<|dS _) (bB (dp 2 ao<|hu iG (dc a (ar 0) a4)<|ar 1)<|bB (jF (hu qO (dc a (ar 0) a4)<|ar 1)<|mw (c4 0) gs<|xd<|cc a)<|bJ<|cM<|fm<|c4 2) eQ)<|bB (jF (hu e7 (dc a (ar 0) a4) a4)<|mw (c4 0) gs<|xd<|cc a)<|bB (dp 3 ao<|hu iG (cZ kE (cZ e7 (dc a (ar 0) a4)<|cZ kE (dc a (ar 0) a4) a4) a4) a4)<|bB (jF (hu iG (cZ kE (ar 3)<|cZ e7 (cZ iG (ar 3) a4) a4) a4)<|mw (c4 0) gs<|xd<|cc a)<|bJ<|cM<|hu iG (cZ qO (dc a (ar 0) a4) a4)<|ar 1)
abbrev uN(g:eR)(x:af):Prop:=fp g 1 "_law_beside" u5 x ["_law_cell"] 1 G.ip
def OE(L:dd g.K g.aw "_law_beside" u5 x ["_law_cell"])(F:dT g.aw):uN g x:=by
 refine d5 OO L λao S7 O S2 m h Sn a=>?_;exact (bJ (cM (e3 (by exact (de (el (by exact (bU (cZ uV (dc a (ar 0) a4) a4)<|dc a (ar 0) a4))) (by exact (fz (el (by exact (bU (dc a (ar 0) a4)<|cZ uV (dc a (ar 0) a4) a4))) (el (by exact (bU (dc a (ar 0) a4)<|cZ e7 (dc a (ar 0) a4) a4))) (el (by exact (bU (cZ e7 (dc a (ar 0) a4) a4)<|dc a (ar 0) a4))))))))))
abbrev AM(g:eR)(x:af):Prop:=fp g 2 "_law_part" xc x ["_law_some","_law_begin"] 2 G.tV
def HT(L:dd g.K g.aw "_law_part" xc x ["_law_some","_law_begin"])(F:dT g.aw){b:af}(c:uN g b):AM g x:=by
 refine d5 Ql L λao S7 O S2 m h Sn a=>?_;exact (bB (dp 2 ao (kV (FQ rfl<|AE a) rfl F.F1 ES (bj (aM (iA ["_law_cell"] [] (eN<|ar 0) (λd=>(e2 0)) (λd=>(j7 (by exact (bU (ar 0)<|aM ea))))))))) (bB (dp 3 ao<|wF (cc a) (fm<|c4 1) ea) (bB (dp 4 ao (e3 (by exact (bj<|ar 1)))) (bB (pv 1000000 fM (c7 (pz<|cc a) (ar 4) (aM (e3 (by exact lY)))<|dS _) (bJ (hG (Tn:=[0,1]) fM rfl (eN<|aM<|bW c a<|bj<|aM<|Fp ki kh w3 v5 FP<|c4 4) (gi 5 ao) (bJ<|eE (eY.gO<|oC (c7 (iX<|cc a) (ar 5) (ar 2) rfl)<|q8<|c7 (lp<|cc a) (ar 5) (ar 3) rfl) (bB (jF ea<|mw (c4 3) (fm<|c4 5)<|rQ<|cc a)<|bJ<|lq<|mW ki kh o7 pO ob (c4 4)<|bj<|ar 5) eQ) ∅ me)))<|bJ<|cM<|kV rd rfl F.jt jC<|bj<|aM<|dY (zg rfl<|cc a) F.vK vO<|bj<|ar 3))))
abbrev Ba(g:eR)(x:af):Prop:=fp g 2 "_law_grown" za x ["_law_left_here","_law_most"] 2 G.oY
def Kd(L:dd g.K g.aw "_law_grown" za x ["_law_left_here","_law_most"])(F:dT g.aw){c:af}(b:tJ g c){d:af}(e:uN g d):Ba g x:=by
 refine d5 P0 L λao S7 O S2 m h Sn a=>?_;exact (bB (dp 2 ao (e3 (by exact (bj (el (by exact (bU a4 a4))))))) (bB (hG (Tn:=[0,1]) fM rfl (pY rfl F.qh<|bj<|aM<|bW b a<|bU (ar 0)<|ar 1) (gi 3 ao) (bB (dp 4 ao<|iz a (aM<|bW e a<|bj<|dc a (ar 2)<|aM<|bW b a<|bU (ar 0)<|aM<|dY gc F.fJ fK<|bj<|ar 2)<|aM<|bW b a<|bU (ar 0) a4)<|bJ<|eE (eY.gO<|oC (c7 (lp<|cc a) (ar 4) (ar 2) rfl)<|oC (Dy l5 l5 a4 (dc a (ar 4) a4) a4)<|q8<|Dy l5 l5 a4 (dc a (ar 4) a4) a4) (bJ<|lq<|mW ki kh o7 pO ob (c4 2)<|bj<|ar 4) eQ) ∅ xZ)<|bJ<|cM<|fm<|c4 2))
abbrev Lg(g:eR)(x:af):Prop:=fp g 3 "_law_field" oF x ["_law_left_here","_law_most"] 2 G.pC
def IZ(L:dd g.K g.aw "_law_field" oF x ["_law_left_here","_law_most"])(F:dT g.aw){d:af}(c:tJ g d){e:af}(f:Ba g e){i:af}(k:AM g i):Lg g x:=by
 refine d5 xa L λao S7 O S2 m h Sn a=>?_;exact (bB (dp 2 ao<|bW c a<|bU (ar 0) a4) (bB (kJ (j:=3) ao rfl (Or.inr rfl) (hu e7 a4<|aM<|bW c a<|bU (ar 0) a4) ∅) (bB (dp 4 ao<|hu e7 a4<|aM<|bW c a<|bU (ar 0)<|aM<|dY (O4 rfl<|cc a) F.ML M3<|bU a4<|aM<|dY (QC rfl<|cc a) F.Rk MT<|bU a4<|cZ qO (ar 1)<|ar 3) (bB (p_ (j:=5) (own:=["_law_k"]) (SX:=[3]) ao rfl (Or.inl rfl) rfl (ll (c9 oF) xa (by decide +kernel)) ∅ (pY rfl F.qh<|bj<|cZ kE (ar 4)<|ar 3) (λb=>(e2 0)) (λb=>y_) (λb=>(j7 (by exact (bU (cZ qO (ar 0)<|ar 1)<|cZ iG (ar 0)<|ar 1)))) ∅) (bB (eE (eY.gO<|hy (c7 (hx<|cc a) (ar 2) a4<|dS _)<|i2<|c7 (hx<|cc a) (ar 2) a4<|dS _) (bJ (hG (Tn:=[0,1]) fM rfl (pY rfl F.qh<|bj<|aM<|bW c a<|bU (ar 0)<|cZ e7 a4<|cZ qO (aM<|dY gc F.fJ fK<|bj<|ar 5) a4) (gi 6 ao) (bJ<|lq<|mW ki kh w3 v5 Lq (c4 5)<|bj<|aM<|bW c a<|bU (ar 0)<|aM<|dY gc F.fJ fK<|bj<|ar 5) ∅ xZ)) (bJ (eE (c7 (hx<|cc a) (ar 2) a4<|dS _) (bJ (p_ (j:=5) (own:=["_law_cell"]) (SX:=[]) ao rfl (Or.inl rfl) rfl (ll (c9 oF) xa (by decide +kernel)) ∅ (eN<|ar 5) (λb=>(e2 0)) (λb=>(oZ<|c7 (hx<|cc a) (cZ kE (cZ iG (dc a (ar 0) a4) a4)<|cZ iG (cZ iG (dc a (ar 0) a4) a4) a4) a4<|dS _)) (λb=>(fm<|c4 0)) ∅))<|bJ<|eE (c7 yY (ar 2) a4<|dS _) (bJ<|dp 5 ao<|bW f a<|bU (ar 0)<|ar 1) eQ))) (bB (dp 7 ao<|bW k a<|bU (ar 5)<|dc a (ar 5)<|aM<|bW c a<|bU (ar 0)<|aM<|dY gc F.fJ fK<|bj<|ar 5) (bB (jF (iA ["_law_k"] [0] (pY rfl F.qh<|bj a4) (λb=>(e2 0)) (λb=>(iz a (aM (e3 (by exact (de a4 (by exact (fz a4 a4 a4))))))<|aM<|bW c a<|bU (ar 1) a4))) (NP rfl (tI (tj (j:=8) ao rfl (Or.inr rfl) ∅) (tI (tj (j:=9) ao rfl (Or.inr rfl) ∅) A6)))) (bJ (cM (kV rd rfl F.jt jC (bj (aM (iA ["_law_cell"] [8,9] (eN<|ar 7) (λb=>(e2 0)) (λb=>(j7 (by exact (bU (cZ e7 (dc a (ar 0) a4)<|ar 1)<|cZ e7 (dc a (ar 0) a4)<|ar 2)))))))))))))))))
abbrev M9(g:eR)(x:af):Prop:=fp g 2 "_law_apart" pT x ["_law_left_here","_law_field_here"] 2 G.n1
def Mn(L:dd g.K g.aw "_law_apart" pT x ["_law_left_here","_law_field_here"])(F:dT g.aw){d:af}(b:tJ g d){e:af}(f:uN g e):M9 g x:=by
 refine d5 AI L λao S7 O S2 m h Sn a=>?_;exact (bB (kJ (j:=2) ao rfl (Or.inr rfl) (iz a (ar 1)<|aM<|bW b a<|bU (ar 0)<|aM<|dY gc F.fJ fK<|bj<|ar 1) ∅) (bB (p_ (j:=3) (own:=["_law_cell"]) (SX:=[2]) ao rfl (Or.inl rfl) rfl (ll (c9 pT) AI (by decide +kernel)) ∅ (eN<|ar 1) (λc=>(e2 0)) (λc=>(oZ<|eY.gO<|oC (c7 (pz<|cc a) (ar 0) (ar 1)<|dS _)<|q8<|c7 (lp<|cc a) (ar 0) (aM<|bW f a<|bj<|ar 1) rfl)) (λc=>(fm<|c4 0)) ∅) (bB (eE (c7 (hx<|cc a) (ar 3) (aM (e3 (by exact lY)))<|dS _) (bJ<|cM nN) eQ) (bJ (cM (j7 (by exact (bU (ar 2)<|dc a (ar 3)<|aM<|bW b a<|bU (ar 0)<|aM<|dY gc F.fJ fK<|bj<|ar 3))))))))
abbrev KR(g:eR)(x:af):Prop:=fp g 1 "_law_odd" sq x ["_law_thing","_law_at"] 2 G.k7
def HF(L:dd g.K g.aw "_law_odd" sq x ["_law_thing","_law_at"])(F:dT g.aw):KR g x:=by
 refine d5 H5 L λao S7 O S2 m h Sn a=>?_;exact (bB (dp 2 ao (e3 (by exact (de (aM nN) (by exact (de (aM ea) (by exact (de a4 (by exact (de (aM qK) (by exact (de (aM qK) (by exact (de (el (by exact (bj a4))) (by exact (de (el (by exact (fz a4 a4 a4))) (by exact (de (aM (od (e3 (by exact (bU a4 a4))))) (by exact (de (el (by exact (bU (aM qK) a4))) (by exact (de (el (by exact (bU (aM ea) a4))) (by exact (de (el (by exact (bU a4<|aM ea))) (by exact (fz (el (by exact (bU (aM<|ow gs) a4))) (el (by exact (bU a4 a4)))<|aM<|od x4)))))))))))))))))))))))))) (bB (dp 3 ao (e3 (by exact (de (aM nN) (by exact (de (aM ea) (by exact (de (aM ea) (by exact (de a4 (by exact (de a4 (by exact (de (aM qK) (by exact (de (aM qK) (by exact (de (aM<|od x4) (by exact (de (aM (od (e3 (by exact lY)))) (by exact (fz (aM<|od<|kV QH rfl F.Ob Iy<|bj<|ar 0) (aM (od (e3 (by exact (bj<|ar 0))))) (el (by exact (bj<|ar 0))))))))))))))))))))))))) (bB (hG (Tn:=[2,0,1]) fM rfl (eN<|ar 2) (gi 4 ao) (bJ (dp 3 ao (hu e7 (ar 3) (aM (e3 (by exact (fz (cZ e7 (ar 0) (el (by exact (bj<|ar 4)))) (cZ e7 (cZ e7 (aM<|k_ (ar 0) mq<|j3<|fm<|c4 1) (el (by exact (bj<|ar 4))))<|aM<|k_ (ar 0) (j3<|hu e7 (ar 1) a4) mq) (el (by exact (bj<|ar 4)))))))))) ∅ (sV ∅))<|bJ<|cM<|fm<|c4 3)))
abbrev JA(g:eR)(x:af):Prop:=fp g 5 "_law_is_near" vf x ["_law_field_here","_law_a","_law_b"] 3 G.sh
def Qd(L:dd g.K g.aw "_law_is_near" vf x ["_law_field_here","_law_a","_law_b"])(F:dT g.aw){t:af}(bi:Fh g t){b:af}(y:yi g.K g.aw "Near" b)(z:tE g.P g.w g.K g.aw g.base 4 "barred" kA t ["field","a","b"] 3 (l0 3 8 G.mh) b)(A:lg g.K b){d:af}(B:g.aw "Here" = Z (.ref d)){v:af}(C:g.aw "MowError" = Z (.ref v)){e:af}(D:g.aw "NoBlock" = Z (.ref e)){f:af}(E:g.aw "NoBlocks" = Z (.ref f)){i:af}(H:g.aw "NoField" = Z (.ref i)){k:af}(I:g.aw "NoFit" = Z (.ref k)){n:af}(J:g.aw "NoText" = Z (.ref n)){o:af}(M:g.aw "TooMany" = Z (.ref o))(R:Φc g.K (.ref b) (.ref v)=Z V)(T:Ξ g.K (.ref b) (.ref d)=Z aq)(al:Ξ g.K (.ref b) (.ref e)=Z aq)(am:Ξ g.K (.ref b) (.ref f)=Z aq)(an:Ξ g.K (.ref b) (.ref i)=Z aq)(ap:Ξ g.K (.ref b) (.ref k)=Z aq)(as:Ξ g.K (.ref b) (.ref n)=Z aq)(a1:Ξ g.K (.ref b) (.ref o)=Z aq)(a2:Ξ g.K (.ref b) (.type "ValueError")=Z V):JA g x:=by
 refine d5 Nm L λao S7 O S2 m h Sn bd=>?_;exact (bB (dp 3 ao nN) (LP (j:=4) (q:=3) (u:=G.rB) (N:=G.E0) (c:=λa=>(bh (dD (ez<|ag<|bT (qd a [d,e,f,i,k,n,o])<|ai (ah 3)<|ai (ag<|cB<|ai (ag<|aA<|.fn d)<|ai (ag<|aA<|.fn e)<|ai (ag<|aA<|.fn f)<|ai (ag<|aA<|.fn i)<|ai (ag<|aA<|.fn k)<|ai (ag<|aA<|.fn n)<|ai (ag<|aA<|.fn o) ay) ay) (cy<|aA<|.au aq) eo)<|cy<|fu<|dM (aZ<|lz a<|ah 3)<|aZ<|lz a<|ah 3)) (O:=G.p7) rfl rfl rfl rfl C R ao rfl rfl ∅ (λSn r Tw be=>(JP<|H2 z bd rfl rfl be<|fz (ar 0) (ar 1)<|ar 2)) (λr a S9 p s=>(bJ<|dp 3 ao<|fm<|c4 4)) (λr a S9 p s=>(bB (eE (gw<|aM<|Cr (K3 A s p<|nt.mpr ⟨T,(nt.mpr ⟨al,(nt.mpr ⟨am,(nt.mpr ⟨an,(nt.mpr ⟨ap,(nt.mpr ⟨as,(nt.mpr ⟨a1,(List.forall_mem_nil _) ⟩) ⟩) ⟩) ⟩) ⟩) ⟩) ⟩) rfl F.jL jD<|bU (ar 3)<|el<|de (aM<|kv rfl B)<|de (aM<|kv rfl D)<|de (aM<|kv rfl E)<|de (aM<|kv rfl H)<|fz (aM<|kv rfl I) (aM<|kv rfl J)<|aM<|kv rfl M) (bJ<|cM ea) eQ)<|bJ<|cM<|g5 (eU<|Ms s p Lo rfl F.jL jD rfl y.1<|ar 3)<|eU<|lA<|Kl s p a2 rfl F.jL jD rfl F.LN MX<|ar 3)) G.Nz))
def Lp(L:dd Q aw "law" uM x ["_law_script"])(F:dT aw){d:af}(aI:b5 S l Q aw Sz 3 "is_cell" jw d ["thing"] 1 G.jd){e:af}(C:b5 S l Q aw Sz 2 "is_pair" nk e ["thing"] 1 G.iQ){f:af}(D:b5 S l Q aw Sz 3 "is_way_like" ox f ["thing"] 1 G.lx){k:af}(n:b5 S l Q aw Sz 1 "_law_left" tS k ["_law_script","_law_turn"] 2 G.nI){o:af}(p:b5 S l Q aw Sz 3 "_law_field" oF o ["_law_left_here","_law_most"] 2 G.pC){q:af}(c:b5 S l Q aw Sz 1 "_law_pick" uO q ["_law_left_here","_law_many"] 2 G.ei){r:af}(s:b5 S l Q aw Sz 1 "_law_beside" u5 r ["_law_cell"] 1 G.ip){t:af}(u:b5 S l Q aw Sz 5 "_law_is_near" vf t ["_law_field_here","_law_a","_law_b"] 3 G.sh){v:af}(b:b5 S l Q aw Sz 9 "shows_barred" tf v ["field","a","b","cells","ways"] 5 (G.fv d e f)){w:af}(y:b5 S l Q aw Sz 2 "_law_apart" pT w ["_law_left_here","_law_field_here"] 2 G.n1){z:af}(A:b5 S l Q aw Sz 4 "barred" kA z ["field","a","b"] 3 G.pw){B:af}(g:b5 S l Q aw Sz 1 "_law_odd" sq B ["_law_thing","_law_at"] 2 G.k7):
  b5 S l Q aw Sz 10 "law" uM x ["_law_script"] 1 (G.o3 d e f):=by
 refine d5 Cw L λao S7 O S2 m h Sn a=>?_;exact (bB (hG (Tn:=[0]) fM rfl (pY rfl F.qh<|bj a4) (gi 1 ao) (bB (dp 2 ao<|bW n a<|bU (ar 0)<|ar 1) (bB (kJ (j:=3) ao rfl (Or.inr rfl) (bW p a<|bU (ar 2) a4) ∅) (bB (dp 4 ao<|iz a (ar 3)<|aM<|bW c a<|bU (ar 2)<|aM<|dY gc F.fJ fK<|bj<|ar 3) (bB (hG (Tn:=[0]) fM rfl (eN (cZ e7 (aM (e3 (by exact (bj<|ar 4)))) (aM (ve (own:=["_law_cell"]) (SX:=[3]) rfl (ll (c9 uM) Cw (by decide +kernel)) ∅ (eN<|aM<|bW s a<|bj<|ar 4) (λi=>(e2 0)) (λi=>(oZ<|c7 (iX<|cc a) (ar 0) (ar 1) rfl))<|λi=>(fm<|c4 0))))) (gi 5 ao) (bJ (eE (eY.gO (hy (hs<|gw<|aM<|bW u a<|fz (ar 3) (ar 4)<|ar 5) (i2 (c7 nX (aM (bW b a (de (ar 3) (by exact (de (ar 4) (by exact (fz (ar 5) (el (by exact lY)) (el (by exact lY))))))))) (aM ea)<|dS _)))) (bJ<|cM ea) eQ)) ∅ me) (bB (dp 6 ao<|bW y a<|bU (ar 2)<|ar 3) (bJ (eE (c7 nX (ar 6) (aM nN)<|dS _) (bB (jF (fm<|c4 6)<|oe (gi 4 ao)<|gi 5 ao) (bB (jF (bW A a<|fz (ar 3) (ar 4)<|ar 5)<|oe (gi 7 ao)<|gi 8 ao) (bB (hG (Tn:=[0]) fM rfl (eN<|aM<|bW g a<|bU (ar 7)<|aM<|bW c a<|bU (ar 2)<|aM<|dY gc F.fJ fK<|bj<|ar 7) (gi 9 ao) (bJ (eE (c7 nX (aM (bW b a (de (ar 3) (by exact (de (ar 4) (by exact (fz (ar 5) (ar 9)<|ar 8))))))) (aM ea)<|dS _) (bJ<|cM ea) eQ)) ∅ me) (bB (dp 10 ao<|iz a (ar 8) a4) (bB (dp 11 ao<|k_ (ar 8) (j3 gs) mq) (bB (hG (Tn:=[0]) fM rfl (eN<|aM<|bW g a<|bU (ar 8)<|aM<|bW c a<|bU (ar 2)<|aM<|dY gc F.fJ fK<|bj<|ar 8) (gi 9 ao) (bJ (eE (c7 nX (aM (bW b a (de (ar 3) (by exact (de (ar 4) (by exact (fz (ar 5) (ar 7)<|ar 9))))))) (aM ea)<|dS _) (bJ<|cM ea) eQ)) ∅ me) (bB (hG (Tn:=[0]) fM rfl (eN<|aM<|bW g a<|bU (ar 10)<|aM<|bW c a<|bU (ar 2)<|aM<|dY gc F.fJ fK<|bj<|ar 10) (gi 9 ao) (bJ (eE (c7 nX (aM (bW b a (de (ar 3) (by exact (de (ar 4) (by exact (fz (ar 5) (ar 7) (cZ e7 (el (by exact (bj<|ar 9)))<|ar 11)))))))) (aM ea)<|dS _) (bJ<|cM ea) eQ)) ∅ me) (bJ (eE (c7 nX (aM (bW b a (de (ar 3) (by exact (de (ar 4) (by exact (fz (ar 5) (ar 7)<|ar 8))))))) (aM ea)<|dS _) (bJ<|cM ea) eQ))))))))) eQ))))))) ∅ xZ)<|bJ<|cM ea)
end
def all_mk{l:a8}{Q:Φ}{c:a0}{aw:aC->Option ae}{eD P R T al am an ap as a1 a2 bd be bi bm bn bs bv ca cd ce ch ci cl co cr cs db ds dL eq:af}(e:Q.In c)(a:c.Ns cT aw)(ev:aw "law" = Z (.ref eD)){q r s:hT}(ex:c1 Q "is_whole" x_ P)(fn:c1 Q "is_pair" nk i)(fr:c1 Q "is_of" ux R)(f0:c1 Q "is_cell" jw n)(f1:c1 Q "is_rising" tC T)(f2:c1 Q "is_way_like" ox t)(f4:c1 Q "is_rising" r6 al)(f8:c1 Q "is_rising" sr am)(ga:c1 Q "lookup" o4 an)(ge:c1 Q "around" oR ap)(gl:c1 Q "reached" tx as)(go:c1 Q "is_floor" ta a1)(gt:c1 Q "is_field" qR a2)(g1:c1 Q "is_walk" uQ bd)(g2:c1 Q "can_be_barred" te be)(g3:c1 Q "do_bar" rb bi)(hd:c1 Q "are_ways_apart" sX bm)(he:c1 Q "shows_barred" tf bn)(hf:c1 Q "onward" sP bs)(hm:c1 Q "search" s7 bv)(hw:c1 Q "lay_way" tU ca)(h0:c1 Q "way_back" tw cd)(ii:c1 Q "barred" kA ce)(im:c1 Q "_law_left" tS ch)(io:c1 Q "_law_pick" uO ci)(it:c1 Q "_law_beside" u5 cl)(jp:c1 Q "_law_part" xc co)(kt:c1 Q "_law_grown" za cr)(kw:c1 Q "_law_field" oF cs)(lc:c1 Q "_law_apart" pT db)(lf:c1 Q "_law_odd" sq ds)(li:c1 Q "_law_is_near" vf dL)(u:c1 Q "law" uM eq)(lm:Ψ Q cT "GREATEST" = Z (Z<|.int 30 q))(ln:Ψ Q cT "IN" = Z (Z<|.str "in" r))(ls:Ψ Q cT "OUT" = Z (Z<|.str "out" s)){b:af}(lv:Ψ Q cT "Near" = Z (Z<|.ref b))(lw:Ω Q b [.type "ValueError",.type "Exception",.type "BaseException",.type "object"] "ValueError.__new__" = V){w:af}(mb:Ψ Q cT "Here" = Z (Z<|.ref w)){x:af}(mo:Ψ Q cT "MowError" = Z (Z<|.ref x)){y:af}(mp:Ψ Q cT "NoBlock" = Z (Z<|.ref y)){z:af}(ms:Ψ Q cT "NoBlocks" = Z (Z<|.ref z)){A:af}(m0:Ψ Q cT "NoField" = Z (Z<|.ref A)){B:af}(na:Ψ Q cT "NoFit" = Z (Z<|.ref B)){C:af}(nb:Ψ Q cT "NoText" = Z (Z<|.ref C)){D:af}(ne:Ψ Q cT "TooMany" = Z (Z<|.ref D))(nl:Φc Q (.ref b) (.ref x)=Z V)(nm:lg Q b)(nn:Ξ Q (.ref b) (.ref w)=Z aq)(no:Ξ Q (.ref b) (.ref y)=Z aq)(np:Ξ Q (.ref b) (.ref z)=Z aq)(ns:Ξ Q (.ref b) (.ref A)=Z aq)(nw:Ξ Q (.ref b) (.ref B)=Z aq)(of:Ξ Q (.ref b) (.ref C)=Z aq)(ok:Ξ Q (.ref b) (.ref D)=Z aq)(ol:Ξ Q (.ref b) (.type "ValueError")=Z V)(on:Ψ Q cT "ValueError" = Z Y)(op:Ψ Q cT "all" = Z Y)(o0:Ψ Q cT "bool" = Z Y)(pc:Ψ Q cT "dict" = Z Y)(pi:Ψ Q cT "int" = Z Y)(pm:Ψ Q cT "isinstance" = Z Y)(po:Ψ Q cT "len" = Z Y)(pp:Ψ Q cT "list" = Z Y)(pr:Ψ Q cT "max" = Z Y)(pt:Ψ Q cT "min" = Z Y)(pu:Ψ Q cT "range" = Z Y)(py:Ψ Q cT "reversed" = Z Y)(rc:Ψ Q cT "sorted" = Z Y)(re:Ψ Q cT "tuple" = Z Y)(rs:Ψ Q cT "zip" = Z Y):
  ∃fd:f3,(∀(m:av) (v:ae),l_ m fd ⟨[v],[]⟩ [("_law_script",v)])/\∀Sz:a0,Q.In Sz->Sz.Ns cT aw->gG H.prog l Q aw Sz hK 10 eD fd ["_law_script"] (jA 1<|G.o3 n i t):=by
 have F:dT aw:=⟨hS e a on,hS e a op,hS e a o0,hS e a pc,hS e a pi,hS e a pm,hS e a po,hS e a pp,hS e a pr,hS e a pt,hS e a pu,hS e a py,hS e a rc,hS e a re,hS e a rs,⟨q,gB e a lm⟩,⟨r,gB e a ln⟩,⟨s,gB e a ls⟩⟩;have h_w22:=ii.mQ (SA:=["field","a","b"]) e a;have E:yi Q aw "Near" b:=⟨gB e a lv,lw⟩;have sc:=gB e a mb;have sn:=gB e a mo;have sp:=gB e a mp;have ss:=gB e a ms;have sw:=gB e a m0;have sB:=gB e a na;have sK:=gB e a nb;have s0:=gB e a ne;refine MQ u e a ev (λ_ X X X X X X X=>.of_eq rfl) λSz=>?_;let g:eR:=⟨H.prog,l,Q,aw,Sz⟩
 have s1:=H8 (g:=g) (ex.dE e a) F;have f:=Gt (g:=g) (fn.dE e a) F s1;have s2:=OF (g:=g) (fr.cE e a) F f;have d:=HV (g:=g) (f0.dE e a) F f;have s3:=PE (S:=H.prog) (l:=l) (Sz:=Sz) (f1.cE e a) F d;have p:=M_ (g:=g) (f2.dE e a) F f;have s4:=Jn (S:=H.prog) (l:=l) (Sz:=Sz) (f4.cE e a) F p;have s5:=G3 (S:=H.prog) (l:=l) (Sz:=Sz) (f8.cE e a) F f;have j:=MC (g:=g) (ga.dE e a) F;have h:=Ho (g:=g) (ge.dE e a) F;have I:=HE (g:=g) (gl.cE e a) F h;have to:=LX (S:=H.prog) (l:=l) (Sz:=Sz) (go.dE e a) F d s3;have J:=J5 (S:=H.prog) (l:=l) (Sz:=Sz) (gt.dE e a) F d to I j;have tt:=Le (S:=H.prog) (l:=l) (Sz:=Sz) (g1.cE e a) F d J j f h;have ty:=M5 (S:=H.prog) (l:=l) (Sz:=Sz) (g2.mQ e a) F d J s2 h;have tz:=I4 (g:=g) (g3.lB e a) F j I;have t0:=PZ (S:=H.prog) (l:=l) (Sz:=Sz) (hd.lB e a) F d tt j;have t1:=RP (S:=H.prog) (l:=l) (Sz:=Sz) (he.l6 e a) F d f p ty s5 s4 tz t0;have t3:=Jo (g:=g) (hf.cE e a) F h;have L:=JU (g:=g) (hm.cE e a) F t3;have M:=IP (g:=g) (hw.mQ e a) F;have N:=KX (g:=g) (h0.mQ e a) F;have ul:=JZ (S:=H.prog) (l:=l) (Sz:=Sz) h_w22 F h L M N E;have O:=Kt (g:=g) h_w22 F h L M N;have un:=OG (g:=g) (im.cE e a) F;have k:=LL (g:=g) (io.cE e a) F;have o:=OE (g:=g) (it.dE e a) F;have up:=HT (g:=g) (jp.cE e a) F o;have us:=Kd (g:=g) (kt.cE e a) F k o;have ut:=IZ (g:=g) (kw.cE e a) F k us up;have u8:=Mn (g:=g) (lc.cE e a) F k o;have v0:=HF (g:=g) (lf.cE e a) F;have v1:=Qd (g:=g) (li.mQ e a) F O E ul nm sc sn sp ss sw sB sK s0 nl nn no np ns nw of ok ol;exact Lp (u.dE e a) F d f p un ut k o v1 t1 u8 O v0
def walk{o:bl}{b:List aC}{e:(aC->Option ae)->a0->Prop}{a:a8->a0->Prop}{p:DefRec}{Q:sT->Φ}(g:H.most=Z 63)(j:p.params.defaults=[])(k:∀(l:a8) (c:a0),a l c->(Q l.params).In c)(u:∀r,rM (Q r)=V)(L:∀(l:a8) (aw:aC->Option ae) (eD:af) (c:a0),(Q l.params).In c->c.Ns cT aw->aw p.name=Z (.ref eD)->
   ∃fd:f3,(∀(m:av) (J:ae),l_ m fd ⟨[J],[]⟩ [("_law_script",J)])/\∀Sz:a0,(Q l.params).In Sz->Sz.Ns cT aw->gG H.prog l (Q l.params) aw Sz hK 10 eD fd ["_law_script"] (jA 1<|G.o3 n i t)):
  PySem.W.WalkO o b e a H.row.toRowW p [] (λx R=>PySem.call x R):=
 L2.RO (s:=63) (q:=10) (f := "_law_script") (TK:=λ_=>hK) (TC:=λl=>jA 1<|G.o3 n i t) g ∅ j ⟨rfl,by decide,by decide,rfl⟩ k L (λl h d SN v w y=>I3 (u l.params) h d SN w y (G.Je n i t SN (zQ v ∅))) λ_ X X X X z=>z
end K35
namespace PySem.W.Fast
def tw1898748353000720248:=(0)
def tw17103798723254375488:=(0)
def tw2441941054319501504:=(0)
def tw13988972872085314784:=(0)
def tw16589979247103963712:=(0)
def tw5196444223600417376:=(0)
def tw14895326900879044384:=(0)
def tw1198074301830537056:=(0)
def tw13326909839887955840:=(0)
def tw3704947271256986657:=(0)
def tw4452787680900149985:=(0)
def tw875619351740387073:=(0)
def tw18157548443966493762:=(0)
def tw11232210745213568290:=(0)
def tw12393674090490549666:=(0)
def tw13177130880368343650:=(0)
def tw5833777503723779874:=(0)
def tw3314708090375643203:=(0)
def tw3414378850139762787:=(0)
def tw1154502276858035299:=(0)
def tw1334872655282639235:=(0)
def tw3922019322224144995:=(0)
def tw16693823484292318851:=(0)
def tw10397157858035602147:=(0)
def tw17716610349288687491:=(0)
def tw9787040081409387427:=(0)
def tw9559144773555434403:=(0)
def tw17593410336000016452:=(0)
def tw10874805891866910884:=(0)
def tw13941197096204274980:=(0)
def tw3924790465869970788:=(0)
def tw11903831655673211460:=(0)
def tw1196108877134384804:=(0)
def tw14594618025513417412:=(0)
def tw13931369510650878724:=(0)
def tw3811371502933907236:=(0)
def tw10998838058293158788:=(0)
def tw5438469203828354020:=(0)
def tw7429756180591158597:=(0)
def tw654434929815333477:=(0)
def tw1996835345427565349:=(0)
def tw8308327749336791046:=(0)
def tw16542441455294659686:=(0)
def tw2892369112532588678:=(0)
def tw13234335391121809798:=(0)
def tw4244625236415555078:=(0)
def tw18110317980520234534:=(0)
def tw4964675567302117926:=(0)
def tw3164161012677563110:=(0)
def tw9441229197336790790:=(0)
def tw6792671682229102406:=(0)
def tw1532023543167089542:=(0)
def tw16679328015486262246:=(0)
def tw17580941065861805127:=(0)
def tw4337024541666492551:=(0)
def tw4296508319989858439:=(0)
def tw16335970035924913735:=(0)
def tw14607549004460747367:=(0)
def tw13101989017590879975:=(0)
def tw7039465188626034792:=(0)
def tw2153175870574668936:=(0)
def tw15708050445826893960:=(0)
def tw1999924145233005768:=(0)
def tw14645279333031065992:=(0)
def tw8242256662839372200:=(0)
def tw10143495399760179912:=(0)
def tw2071403591990124585:=(0)
def tw8963874000773520425:=(0)
def tw406390178154694761:=(0)
def tw16326971741996343561:=(0)
def tw1373217046520283433:=(0)
def tw18059269938872025609:=(0)
def tw14018172042757408361:=(0)
def tw7755932812216260265:=(0)
def tw12283658606625963753:=(0)
def tw11014059575276050281:=(0)
def tw14352630891354057866:=(0)
def tw3136548499516364938:=(0)
def tw14369889866009649418:=(0)
def tw18061077144411027403:=(0)
def tw15750174890013843852:=(0)
def tw15006003388348706220:=(0)
def tw11759038620141173324:=(0)
def tw9921089922185176940:=(0)
def tw11465726466664635276:=(0)
def tw2206502169326881133:=(0)
def tw16852221475609658797:=(0)
def tw2157693979753665229:=(0)
def tw173368846277238477:=(0)
def tw12155881879200624333:=(0)
def tw13517934497941314862:=(0)
def tw16178544763074790798:=(0)
def tw12414972838892836334:=(0)
def tw516459835981632078:=(0)
def tw325034686314106478:=(0)
def tw4091506834423858862:=(0)
def tw10410298235777748143:=(0)
def tw13796924662736442575:=(0)
def tw3430999337462360271:=(0)
def tw13088134086787116367:=(0)
def tw12205642158657699183:=(0)
def tw8927827301165503887:=(0)
def tw3508538823159266735:=(0)
def tw3581701074306781615:=(0)
def tw10489189436787007983:=(0)
def tw2609081385074475535:=(0)
def tw4043976135291903727:=(0)
def tw18018447540925888399:=(0)
def tw15924535383506579568:=(0)
def tw5174385552451905360:=(0)
def tw11960750590642943313:=(0)
def tw4810783522988197361:=(0)
def tw4573510438541673169:=(0)
def tw17683544338323778257:=(0)
def tw11535686997758105425:=(0)
def tw1387706761675776913:=(0)
def tw5700027000222503921:=(0)
def tw309525545294889042:=(0)
def tw2398303452353713362:=(0)
def tw991936256078750066:=(0)
def tw16671162338222638482:=(0)
def tw3598932675277992530:=(0)
def tw5102186999012612754:=(0)
def tw11627685202952512306:=(0)
def tw1290679945221505107:=(0)
def tw4293506259050095732:=(0)
def tw8512837092118927604:=(0)
def tw16788419064006113652:=(0)
def tw794483860305074772:=(0)
def tw4018776770317815668:=(0)
def tw16770992653293213717:=(0)
def tw13421570478536169877:=(0)
def tw18406051533960504757:=(0)
def tw5332953161940165301:=(0)
def tw3661983889059342037:=(0)
def tw1537861267612851957:=(0)
def tw14474637831185193781:=(0)
def tw10889095594431712310:=(0)
def tw9080686852065654934:=(0)
def tw17502913931718663382:=(0)
def tw12194059192813197750:=(0)
def tw4191200757627098934:=(0)
def tw5139001952265475030:=(0)
def tw15996991613958446263:=(0)
def tw13008272758186764503:=(0)
def tw2054709581883704823:=(0)
def tw14542915340997478071:=(0)
def tw6955969062978838008:=(0)
def tw4621277506643421848:=(0)
def tw11551602330021884824:=(0)
def tw10939287412955521305:=(0)
def tw8425515622301721881:=(0)
def tw18144326662934373913:=(0)
def tw865704773948869593:=(0)
def tw5494872628557311162:=(0)
def tw9929895127593508154:=(0)
def tw14133504233474466266:=(0)
def tw12310630785858329434:=(0)
def tw4085622600706781531:=(0)
def tw6198661798192693723:=(0)
def tw18365391438923136635:=(0)
def tw2495366652686650299:=(0)
def tw6579904922938233851:=(0)
def tw12264213724567992348:=(0)
def tw14457692441151692988:=(0)
def tw1041871272572930268:=(0)
def tw16900084498755474684:=(0)
def tw1732357275749029276:=(0)
def tw10225449600380559100:=(0)
def tw5621694462097549373:=(0)
def tw14193679063434831197:=(0)
def tw11126683740488917341:=(0)
def tw13014784574395948861:=(0)
def tw8725493826086138717:=(0)
def tw15837974392992580477:=(0)
def tw13405516687378085789:=(0)
def tw12373977931925255069:=(0)
def tw10340718047466854333:=(0)
def tw13603206002578536574:=(0)
def tw12938188272483396830:=(0)
def tw5366059620422270270:=(0)
def tw8608266441811490494:=(0)
def tw1575436521656707902:=(0)
def tw13949654220549432447:=(0)
def tw12298090792760065183:=(0)
def tw13081195864240282847:=(0)
end PySem.W.Fast
end
open PySem PySem.W PyProof.Rows
set_option maxRecDepth 100000 in
set_option maxHeartbeats 0 in
theorem PySem.Challenge.cw_mowfloor_k35_bars_of_anything_holds : PySem.Challenge.rw_mowfloor_k35_bars_of_anything.Holds := by
  w_on; o_law; k_head; (case hw => w_witness2)
  k_fill
  refine' K35.walk (H := PySem.Challenge.rw_mowfloor_k35_bars_of_anything) rfl rfl (fun w h Y => PySem.W.kIn_of Y) ?hK ?F
  case hK => intro p; rfl
  case F =>
    intro w mg fa h KX G hmg
    apply K35.all_mk KX G hmg
    iterate 33 (apply L2.Dk; iterate 4 k_is)
    iterate 4 k_is
    k_exc
    iterate 8 k_is
    kts_exm
    (refine' ⟨?_, ?_, ?_, ?_, ?_, ?_, ?_, ?_⟩ <;> k_is)
    iterate 8 kit_is
    iterate 15 k_is
